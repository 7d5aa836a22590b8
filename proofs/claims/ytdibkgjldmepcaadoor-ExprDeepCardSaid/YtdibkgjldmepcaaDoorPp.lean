/- Brackets round a text, round a part of one: what is read. No program. -/
import Derived.Test.YtdibkgjldmepcaaDoorPv
namespace Go.Proofs.YtdibkgjldmepcaaDoor.Xp
open Go.RowKit Mem Lex Gen
set_option linter.unusedVariables false

def par : Nat → Bytes → Bytes
  | 0, l => l
  | n + 1, l => [40] ++ par n l ++ [41]
def parW : Nat → List Wd → List Wd
  | 0, l => l
  | n + 1, l => [(3, [40], 0)] ++ parW n l ++ [(3, [41], 0)]
theorem par_len (l : Bytes) : ∀ n, (par n l).length = l.length + 2 * n
  | 0 => rfl
  | n + 1 => by simp only [par, List.length_append, List.length_cons, List.length_nil, par_len l n]; omega
theorem par_lex {l : Bytes} {ws : List Wd} (h : Lx l ws End) : ∀ n, Lx (par n l) (parW n ws) End
  | 0 => h
  | n + 1 => Lx.parens (par_lex h n)
theorem par_pc {ws : List Wd} {Q : Ex → Prop} {N : Nat} (hb : ∀ o, o + N ≤ 12 → ∀ tx : List Tok, tx.map wd = ws → ∃ y, Q y ∧ Pc 1 tx o y) : ∀ n o, o + n + N ≤ 12 → ∀ tx : List Tok, tx.map wd = parW n ws → ∃ y, Q y ∧ Pc 1 tx o y
  | 0, o, ho, tx, hw => hb o (by omega) tx hw
  | n + 1, o, ho, tx, hw => by
    obtain ⟨y, hy, hp⟩ := Pc.paren (Q := Q) (L := 1) (by decide) (by omega) hw fun tx h => par_pc hb n (o + 1) (by omega) tx h
    exact ⟨y, hy, hp.at_ (by decide) (by decide) (by decide)⟩
theorem back1 {x : Ex} (hx : Ok x) {m : Nat} (hm : 1 ≤ m ∧ m ≤ lv6 (lev x.kind)) (o : Nat) (ho : o + nestX x ≤ 12) (tx : List Tok) (hw : tx.map wd = wordsX x) : ∃ y, Sm x y ∧ Pc m tx o y := by
  obtain ⟨y, hy, hp⟩ := back hx o ho tx hw
  exact ⟨y, hy, hp.at_ (lv6_ok _).2 hm.1 hm.2⟩
/-- Brackets round the whole. -/
theorem par_read {x : Ex} (hx : Ok x) (n : Nat) (hn : n + nestX x ≤ 12) (hlen : (textX x).length + 2 * n ≤ 16384) :
    ∃ tx y, Sm x y ∧ outcome (par n (textX x)) = (tx ++ [endTok (par n (textX x)).length], 0, 0) ∧ parse (tx ++ [endTok (par n (textX x)).length]) 0 = .ok (y, [endTok (par n (textX x)).length]) :=
  read_gen (Q := Sm x) (by rw [par_len]; exact hlen) (par_lex hx.lex n) (L := 1) (by decide) fun tx h => par_pc (N := nestX x) (fun o ho tx hw => back1 hx ⟨Nat.le_refl _, (lv6_ok _).1⟩ o ho tx hw) n 0 (by omega) tx h
theorem Lx.bin {l m : Bytes} {ws vs : List Wd} {k : Int} (h : 7 ≤ k ∧ k ≤ 19) (h1 : Lx l ws End) (h2 : Lx m vs End) : Lx (l ++ ([32] ++ opT k ++ [32]) ++ m) (ws ++ [(3, opT k, 0)] ++ vs) End := by
  have h3 : Lx ([32] ++ opT k ++ [32]) [(3, opT k, 0)] fun _ => True := by
    have := Lx.app (Lx.app (Lx.blank (R := fun _ => True)) (Lx.op h) fun _ _ => trivial) (Lx.blank (R := fun _ => True)) fun rest _ => ⟨rest, rfl⟩
    simpa using this
  exact Lx.app (Lx.app h1 h3 fun rest _ => by simp only [List.append_assoc, List.cons_append, List.nil_append]; exact End.blank _) h2 fun _ _ => trivial
theorem Pc.bin {k : Int} (hk : 7 ≤ k ∧ k ≤ 19) {L : Nat} (hL : lev k = L) (h3 : L ≠ 3) {o : Nat} {Q Q' : Ex → Prop} {ws vs : List Wd} {tw : List Tok} (hw : tw.map wd = ws ++ [(3, opT k, 0)] ++ vs)
    (ha : ∀ tx : List Tok, tx.map wd = ws → ∃ y, Q y ∧ Pc L tx o y) (hb : ∀ tx : List Tok, tx.map wd = vs → ∃ y, Q' y ∧ Pc (L + 1) tx o y) : ∃ y, (∃ ya yb p, y = .node k 0 [] [ya, yb] p ∧ Q ya ∧ Q' yb) ∧ Pc L tw o y := by
  obtain ⟨u, tb, rfl, hu, hwb⟩ := List.map_eq_append_iff.1 hw
  obtain ⟨ta, v, rfl, hwa, hv⟩ := List.map_eq_append_iff.1 hu
  obtain ⟨t, rfl, ht⟩ := map1 hv
  obtain ⟨e1, e2, e3⟩ := wd_eq ht
  have hbk : binK t = k := by unfold binK; rw [if_pos e1, e2, op_sign hk]
  have hlv := lev_bin hk
  have hlL : lev (binK t) = L := by rw [hbk, hL]
  obtain ⟨ya, hya, hpa⟩ := ha ta hwa
  obtain ⟨yb, hyb, hpb⟩ := hb tb hwb
  refine ⟨.node (binK t) 0 [] [ya, yb] t.at_, ⟨ya, yb, t.at_, by rw [hbk], hya, hyb⟩, ?_⟩
  have key : ∀ r res, Stop (L + 1) r → Ev (.loop L (.node (binK t) 0 [] [ya, yb] t.at_)) r o res → Ev (.lvl L) (ta ++ [t] ++ tb ++ r) o res := fun r res hs hl => by
    have h1 := Ev.go (x := ya) (l := tb ++ r) hlL h3 (hpb.full r hs) hl
    have h2 := hpa.loop_ (by omega) h3 (t :: (tb ++ r)) res ⟨t, _, rfl, .inl (by omega)⟩ h1
    simpa using h2
  exact ⟨fun r hs => key r _ (hs.up (by omega)) (hs.here (by omega)), fun _ _ => key⟩
theorem dec1 (n : Int) (k : Nat) (h : n = k) (hk : k < 10) : decT n = [UInt8.ofNat (48 + k)] := by
  unfold decT
  rw [if_neg (by omega), show n.toNat = k by omega, dgs_lt hk]
/-- '0 + (..) * 1'. -/
def around (l : Bytes) : Bytes := [48, 32, 43, 32, 40] ++ l ++ [41, 32, 42, 32, 49]
def Around (x : Ex) (y : Ex) : Prop := ∃ y0 yp y1 p q, y = .node 10 0 [] [y0, .node 7 0 [] [yp, y1] q] p ∧ Sm x yp
theorem around_read {x : Ex} (hx : Ok x) (hn : nestX x < 12) (hlen : (textX x).length + 10 ≤ 16384) :
    ∃ tx y, Around x y ∧ outcome (around (textX x)) = (tx ++ [endTok (around (textX x)).length], 0, 0) ∧ parse (tx ++ [endTok (around (textX x)).length]) 0 = .ok (y, [endTok (around (textX x)).length]) := by
  have o0 : Ok (.node 1 0 [] [] 0) := .num 0 0 (by decide) (by decide)
  have o1 : Ok (.node 1 1 [] [] 0) := .num 1 0 (by decide) (by decide)
  have t0 : textX (.node 1 0 [] [] 0) = [48] := by simp only [textX, wordD, if_true, dec1 0 0 rfl (by decide)]; rfl
  have t1 : textX (.node 1 1 [] [] 0) = [49] := by simp only [textX, wordD, if_true, dec1 1 1 rfl (by decide)]; rfl
  have hl := Lx.bin (k := 10) (by decide) o0.lex (Lx.bin (k := 7) (by decide) (Lx.parens hx.lex) o1.lex)
  have e : textX (.node 1 0 [] [] 0) ++ ([32] ++ opT 10 ++ [32]) ++ (([40] ++ textX x ++ [41]) ++ ([32] ++ opT 7 ++ [32]) ++ textX (.node 1 1 [] [] 0)) = around (textX x) := by
    rw [t0, t1, show opT 10 = [43] from rfl, show opT 7 = [42] from rfl]; unfold around; simp
  rw [e] at hl
  refine read_gen (Q := Around x) (by unfold around; simp only [List.length_append, List.length_cons, List.length_nil]; omega) hl (L := 4) (by decide) fun tx hw => ?_
  obtain ⟨y, ⟨ya, yb, p, rfl, _, ⟨yp, y1, q, rfl, hy, _⟩⟩, hp⟩ := Pc.bin (k := 10) (L := 4) (o := 0) (Q := Sm (.node 1 0 [] [] 0)) (Q' := fun y => ∃ yp y1 q, y = .node 7 0 [] [yp, y1] q ∧ Sm x yp ∧ Sm (.node 1 1 [] [] 0) y1) (by decide) rfl (by decide) hw
    (fun tx h => back1 o0 (by decide) 0 (by decide) tx h)
    (fun tx h => Pc.bin (k := 7) (L := 5) (o := 0) (Q := Sm x) (Q' := Sm (.node 1 1 [] [] 0)) (by decide) rfl (by decide) h
      (fun tx h => by
        obtain ⟨y, hy, hp⟩ := Pc.paren (Q := Sm x) (L := 1) (by decide) (by decide) h fun tx h => back1 hx ⟨Nat.le_refl _, (lv6_ok _).1⟩ 1 (by omega) tx h
        exact ⟨y, hy, hp.at_ (by decide) (by decide) (by decide)⟩)
      (fun tx h => back1 o1 (by decide) 0 (by decide) tx h))
  exact ⟨_, ⟨ya, yp, y1, p, q, rfl, hy⟩, hp⟩
end Go.Proofs.YtdibkgjldmepcaaDoor.Xp
