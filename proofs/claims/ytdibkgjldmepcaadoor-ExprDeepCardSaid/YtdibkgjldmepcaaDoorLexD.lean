/- All the tokens: what lex.All answers. -/
import Derived.Test.YtdibkgjldmepcaaDoorLexC
namespace Go.Proofs.YtdibkgjldmepcaaDoor.Lex
open Go.RowKit Mem
set_option linter.unusedVariables false

theorem info_Tok : (Tryd.prog.info? 72).map (fun i => (i.zero, i.size, i.bytes)) = some (some (.agg #[.int .i64 0, .int .i64 0, .int .i64 0, .string ⟨#[]⟩, .int .i64 0]), 5, 48) := by kernel_rfl
def flat1 (t : Tok) : List Value := [.int .i64 t.kind, .int .i64 t.at_, .int .i64 t.en, strV t.text, .int .i64 t.n]
def flatT : List Tok → List Value
  | [] => []
  | t :: ts => flat1 t ++ flatT ts
theorem flatT_append (a b : List Tok) : flatT (a ++ b) = flatT a ++ flatT b := by
  induction a with
  | nil => rfl
  | cons t a ih => simp [flatT, ih]
theorem add_plain (g o j : Nat) : (⟨g, o, none⟩ : Addr).add j = ⟨g, o + j, none⟩ := by unfold Addr.add; split <;> simp_all
theorem cells5_new (w : World) (a b c d e : Value) (t : TypeId) : ∀ j u, [a, b, c, d, e][j]? = some u → (w.alloc (.cells #[a, b, c, d, e] t)).cell? ((⟨w.heap.size, 0, none⟩ : Addr).add j) = some u := by
  intro j u hj
  rw [add_plain, Nat.zero_add, (At.new w t #[a, b, c, d, e]).cell]
  exact (Array.getElem?_toList ..).symm.trans hj

/-- Tokens collected: the slice's block is none of those of before. -/
structure Acc (W wr : World) (v : Value) (ts : List Tok) : Prop where
  items : Items wr 72 5 v ts.length (flatT ts)
  own : ∀ g, v.ownBlock = some g → W.heap.size ≤ g
  foot : Foot (fun _ => False) W wr
section
variable {W wr w2 w3 : World} {v v' : Value} {ts : List Tok} {t : Tok}
theorem Acc.nil (w : World) : Acc w w (.slice none 0 0) [] := ⟨Items.nil _ _ _, fun g hg => by simp [Value.ownBlock] at hg, Foot.refl _ _⟩
theorem Acc.still (h : Acc W wr v ts) (hf : Foot (fun _ => False) wr w2) : Acc W w2 v ts := ⟨h.items.keep hf fun _ _ => id, h.own, h.foot.trans hf fun _ _ h => h⟩
theorem Acc.push (h : Acc W wr v ts) (hi : Items w3 72 5 v' (ts.length + 1) (flatT ts ++ flat1 t)) (hf : Foot (fun k => v.ownBlock = some k) wr w3) (hm : Moved wr v v') : Acc W w3 v' (ts ++ [t]) :=
  ⟨by rw [List.length_append, flatT_append]; simpa [flatT] using hi, fun g hg => by
    rcases hm g hg with h1 | h1
    · exact h.own g h1
    · exact Nat.le_trans h.foot.size h1, h.foot.trans hf fun k hk e => by have := h.own k e; omega⟩
end

def endTok (n : Nat) : Tok := ⟨4, n, n, [], 0⟩
/-- What All answers: the tokens, the fault's code and place. -/
def outcome (l : Bytes) : List Tok × Int × Int :=
  if 16384 < l.length then ([], 13, 16384) else
  match lexAll l with
  | .ok ts => (ts ++ [endTok l.length], 0, 0)
  | .error (e, a) => ([], e, (a : Int))
theorem tokN_err {l : Bytes} {e : Int} (hl : l ≠ []) (h : tokN l = .error e) : e = 10 ∨ e = 11 ∨ e = 13 ∨ e = 16 := by
  cases l with
  | nil => exact absurd rfl hl
  | cons b r =>
    unfold tokN at h
    simp only at h
    split at h
    · split at h
      · cases h; exact .inr (.inl rfl)
      · split at h
        · cases h
        · cases h; exact .inr (.inr (.inr rfl))
    · split at h
      · split at h
        · cases h; exact .inr (.inr (.inl rfl))
        · cases h
      · split at h
        · cases h; exact .inl rfl
        · cases h
/-- The answer as a value, and its tokens in memory. -/
structure AllRes (W w : World) (l : Bytes) (e : Ending) : Prop where
  foot : Foot (fun _ => False) W w
  res : ∃ a c, e = .returned (.tuple #[.slice a (outcome l).1.length c, .agg #[.int .i64 (outcome l).2.1, .int .i64 (outcome l).2.2]]) ∧
    Items w 72 5 (.slice a (outcome l).1.length c) (outcome l).1.length (flatT (outcome l).1)
theorem AllRes.mk' {W w : World} {l : Bytes} {ts : List Tok} {c1 c2 : Int} {a : Option Addr} {c : Nat} (ho : outcome l = (ts, c1, c2)) (hf : Foot (fun _ => False) W w)
    (hi : Items w 72 5 (.slice a ts.length c) ts.length (flatT ts)) : AllRes W w l (.returned (.tuple #[.slice a ts.length c, .agg #[.int .i64 c1, .int .i64 c2]])) :=
  ⟨hf, a, c, by rw [ho], by rw [ho]; exact hi⟩
theorem AllRes.mk2 {W w : World} {l : Bytes} {ts : List Tok} {c1 c2 : Int} {a : Option Addr} {c n : Nat} (hn : ts.length = n) (ho : outcome l = (ts, c1, c2)) (hf : Foot (fun _ => False) W w)
    (hi : Items w 72 5 (.slice a n c) n (flatT ts)) : AllRes W w l (.returned (.tuple #[.slice a n c, .agg #[.int .i64 c1, .int .i64 c2]])) := by
  subst hn; exact AllRes.mk' ho hf hi
/-- Of the tokens that are to come, ts are there and the rest begins at i. -/
def Upto (l : Bytes) (ts : List Tok) (i : Nat) : Prop := lexAll l = (lexW l.length (l.drop i)).map fun r => ts ++ r
theorem Upto.start (l : Bytes) : Upto l [] (skipN false l) := by
  unfold Upto lexAll
  cases lexW l.length (l.drop (skipN false l)) <;> rfl
theorem Upto.next {l : Bytes} {ts : List Tok} {i : Nat} {t : T} (h : Upto l ts i) (hi : i < l.length) (ht : tokN (l.drop i) = .ok t) :
    Upto l (ts ++ [⟨t.kind, i, i + t.len, (l.drop i).take t.len, t.n⟩]) (i + t.len + skipN false (l.drop (i + t.len))) := by
  unfold Upto at h ⊢
  rw [h, lexW_ok ht, List.length_drop, show l.length - (l.length - i) = i by omega]
  have hb : behind t.len (l.drop i) = l.drop (i + t.len + skipN false (l.drop (i + t.len))) := by
    unfold behind
    simp only [List.drop_drop, Nat.add_assoc]
  rw [hb]
  cases lexW l.length (l.drop (i + t.len + skipN false (l.drop (i + t.len)))) with
  | error e => rfl
  | ok r => simp [Except.map]
theorem Upto.err {l : Bytes} {ts : List Tok} {i : Nat} {e : Int} (h : Upto l ts i) (hi : i < l.length) (hl : ¬ 16384 < l.length) (ht : tokN (l.drop i) = .error e) : outcome l = ([], e, (i : Int)) := by
  unfold Upto at h
  rw [lexW_err (by intro h0; have := congrArg List.length h0; simp at this; omega) ht, List.length_drop, show l.length - (l.length - i) = i by omega] at h
  unfold outcome
  rw [if_neg hl, h]
  rfl
theorem Upto.done {l : Bytes} {ts : List Tok} {i : Nat} (h : Upto l ts i) (hi : ¬ i < l.length) (hl : ¬ 16384 < l.length) : outcome l = (ts ++ [endTok l.length], 0, 0) := by
  unfold Upto at h
  rw [List.drop_of_length_le (by omega), lexW_nil] at h
  unfold outcome
  rw [if_neg hl, h]
  simp [Except.map]

theorem cells5_new' (w : World) (o : Obj) (a b c d e : Value) (t : TypeId) : ∀ j u, [a, b, c, d, e][j]? = some u → ((w.alloc o).alloc (.cells #[a, b, c, d, e] t)).cell? ((⟨w.heap.size + 1, 0, none⟩ : Addr).add j) = some u := by
  have h := cells5_new (w.alloc o) a b c d e t
  rwa [show (w.alloc o).heap.size = w.heap.size + 1 by simp] at h
theorem one1 (t : Tok) : ∀ u ∈ flat1 t, u.oneCell' = true := by
  intro u hu
  simp only [flat1, List.mem_cons, List.not_mem_nil, or_false] at hu
  rcases hu with rfl | rfl | rfl | rfl | rfl <;> rfl

set_option maxHeartbeats 1000000 in
theorem All_c (s : ByteArray) (w : World) (hs0 : s.size ≤ 9223372036854775807) (hv : Vars w) :
    Calls Tryd.prog 18 #[.string s] w fun e w' => AllRes w w' (bs s) e := by
  have hlen := bs_len s
  obtain ⟨i0, hi, hz0, hz1, hz2⟩ := info_parts info_Tok
  by_cases hbig : 16384 < s.size
  · have ho : outcome (bs s) = ([], 13, 16384) := by unfold outcome; rw [hlen, if_pos hbig]
    have HO := Lib.hid ho
    have hb : (16384 : Int) < s.size := by omega
    clear hlen ho hv hbig
    go_enter Tryd.func18, Tryd.ntmps18
    go_wp2_with fail
    refine bodyPost_ret (v := .tuple #[.slice none 0 0, .agg #[.int .i64 13, .int .i64 16384]]) (by simp [results, Tryd.results18, go_sem, *]) rfl ?_
    exact AllRes.mk' (ts := []) HO.out ((Foot.refl _ w).alloc _) (Items.nil _ _ _)
  · have hs : s.size ≤ 281474976710656 := by omega
    have hsk := fun W => skip_c s 0 W (by omega) hs
    rw [List.drop_zero, Nat.zero_add] at hsk
    have hsl := skipN_le false (bs s)
    rw [hlen] at hsl
    have HU0 := Lib.hid (Upto.start (bs s))
    have HL := Lib.hid hlen
    have HV := Lib.hid hv
    generalize hk0 : skipN false (bs s) = k0 at *
    clear hk0 hlen hv
    have hb : ¬ (16384 : Int) < s.size := by omega
    clear hbig
    go_enter Tryd.func18, Tryd.ntmps18
    go_wp2_with (go_at_call 33; refine (hsk _).mono ?_; rintro e w' ⟨rfl, rfl⟩)
    have HA0 := Lib.hid (At.new w 47 #[.int .i64 0, .int .i64 0])
    have HF0 := Lib.hid ((Foot.refl (fun _ => False) w).alloc (.cells #[.int .i64 0, .int .i64 0] 47))
    generalize w.alloc (.cells #[.int .i64 0, .int .i64 0] 47) = W1 at *
    go_loopw [4, 5] (fun v k wr => ∃ (ts : List Tok) (i : Nat), k = .int .i64 i ∧ i ≤ s.size ∧ ts.length ≤ i ∧ Hid (Acc W1 wr v ts) ∧ Hid (Upto (bs s) ts i)) (fun _ k _ => s.size - (intOf k).toNat)
    case atStart => exact ⟨[], k0, rfl, hsl, Nat.zero_le _, Lib.hid (Acc.nil _), HU0⟩
    case round =>
      obtain ⟨ts, i, rfl, hle, hts, HO, HU⟩ := hrel
      have HVr := Lib.hid (HV.out.keep (HF0.out.trans HO.out.foot fun _ _ h => h))
      by_cases hlt : i < s.size
      · have hx := fun W hW => token_c s i W hlt hs hW
        have hne : (bs s).drop i ≠ [] := by rw [bs_drop hlt]; exact List.cons_ne_nil _ _
        have hdl : ((bs s).drop i).length = s.size - i := by rw [List.length_drop, bs_len]
        cases hT : tokN ((bs s).drop i) with
        | error e =>
          have he := tokN_err hne hT
          have HO2 := Lib.hid (HU.out.err (by rw [HL.out]; exact hlt) (by rw [HL.out]; omega) hT)
          unfold tokRes at hx
          simp only [hT] at hx
          unfold noTok at hx
          have h5 : (e != 0) = true := by rw [bne_iff_ne]; omega
          have h6 : (e == 0) = false := by rw [beq_eq_false_iff_ne]; omega
          clear hne hdl hT he hsk
          go_wp2_with fail
          refine (hx _ HVr.out).mono ?_
          rintro e1 w1 ⟨rfl, hf⟩
          have hA := (HA0.out.keep HO.out.foot id).keep hf id
          have hlt1 := hA.lt
          have c0 : w1.cell? ⟨w.heap.size, 0, none⟩ = some (.int .i64 0) := hA.cell 0
          have c1 : w1.cell? ⟨w.heap.size, 1, none⟩ = some (.int .i64 0) := hA.cell 1
          have f0 := hA.free 0
          have f1 := hA.free 1
          have HF := Lib.hid ((HF0.out.trans HO.out.foot fun _ _ h => h).trans hf fun _ _ h => h)
          clear hf hA
          go_wp2_with fail
          refine bodyPost_ret (v := .tuple #[.slice none 0 0, .agg #[.int .i64 e, .int .i64 i]]) (by simp [results, Tryd.results18, go_sem, *]) rfl ?_
          refine AllRes.mk' (ts := []) HO2.out ?_ (Items.nil _ _ _)
          refine Foot.alloc (Foot.setCell (Foot.setCell HF.out ?_ _) ?_ _) _ <;> (intro h; exact absurd h (by simp only; omega))
        | ok t =>
          have htl := tokN_len hT
          unfold tokRes at hx
          simp only [hT] at hx
          unfold tokAgg at hx
          simp only at hx
          rw [hdl] at htl
          have hsk2 := fun W => skip_c s (i + t.len) W (by omega) hs
          have hsl2 := skipN_le false ((bs s).drop (i + t.len))
          rw [List.length_drop, HL.out] at hsl2
          have HU2 := Lib.hid (HU.out.next (by rw [HL.out]; exact hlt) hT)
          generalize hTk : (⟨t.kind, i, i + t.len, ((bs s).drop i).take t.len, t.n⟩ : Tok) = tk at HU2
          have HF1 : Hid (flat1 tk = [.int .i64 t.kind, .int .i64 i, .int .i64 ((i + t.len : Nat) : Int), strV (((bs s).drop i).take t.len), .int .i64 t.n]) := Lib.hid (by rw [← hTk]; rfl)
          generalize skipN false ((bs s).drop (i + t.len)) = k2 at *
          obtain ⟨txt, htx⟩ : ∃ z, strV (((bs s).drop i).take t.len) = .string z := ⟨_, rfl⟩
          rw [htx] at hx HF1
          clear htx
          obtain ⟨h1, h2⟩ := htl
          generalize t.len = k1 at *
          generalize t.kind = kd at *
          generalize t.n = nn at *
          clear hne hdl hT hTk hsk
          go_wp2_with fail
          refine (hx _ HVr.out).mono ?_
          rintro e1 w1 ⟨rfl, hf⟩
          have HO1 := Lib.hid (HO.out.still hf)
          clear hf HO
          go_wp2_with (at_builtin; refine wpList_append rfl (.tmp 29) (.tmp 31) 44 rfl 72 i0 (.agg #[.int .i64 0, .int .i64 0, .int .i64 0, .string ⟨#[]⟩, .int .i64 0]) 5 Tryd.underlying44 hi hz0 hz1 rfl rfl ((HO1.out.items.alloc _).alloc _) ⟨w1.heap.size + 1, 0, none⟩ 1 1 (flat1 tk) rfl rfl (by rw [HF1.out]; exact cells5_new' _ _ _ _ _ _ _ _) (one1 tk) (by omega) (by unfold maxLen; omega) (by rw [hz2]; omega) ?_)
          intro a' c' w4 hI4 hF4 hM4
          have HO4 := Lib.hid ((HO1.out.still (((Foot.refl (fun _ => False) w1).alloc _).alloc _)).push hI4 hF4 hM4)
          have hc2 := ((((At.new w1 72 #[.int .i64 kd, .int .i64 i, .int .i64 ((i : Int) + k1), .string txt, .int .i64 nn]).alloc (.cells #[.int .i64 kd, .int .i64 i, .int .i64 ((i : Int) + k1), .string txt, .int .i64 nn] 72)).keep hF4 (fun e => absurd (HO1.out.items.lt e) (Nat.lt_irrefl _))).cell 2)
          have hc2 : w4.cell? ⟨w1.heap.size, 2, none⟩ = some (.int .i64 ((i : Int) + k1)) := hc2
          simp only [Int.natCast_add] at hsk2
          clear hI4 hF4 hM4 HO1
          go_wp2_with (go_at_call 33; refine (hsk2 _).mono ?_; rintro e2 w5 ⟨rfl, rfl⟩)
          go_roundw
          case rel => exact ⟨ts ++ [tk], i + k1 + k2, by go_num, by omega, by rw [List.length_append, List.length_singleton]; omega, HO4, HU2⟩
          case measure => simp [intOf]; omega
      · have hO2 := Lib.hid (HU.out.done (by rw [HL.out]; exact hlt) (by rw [HL.out]; omega))
        have HF1 : Hid (flat1 (endTok (bs s).length) = [.int .i64 4, .int .i64 s.size, .int .i64 s.size, .string ⟨#[]⟩, .int .i64 0]) := Lib.hid (by rw [HL.out]; rfl)
        have hA := HA0.out.keep HO.out.foot id
        have hlt1 := hA.lt
        have HA := Lib.hid hA
        clear hA hsk
        go_wp2_with (at_builtin; refine wpList_append rfl (.tmp 37) (.tmp 43) 44 rfl 72 i0 (.agg #[.int .i64 0, .int .i64 0, .int .i64 0, .string ⟨#[]⟩, .int .i64 0]) 5 Tryd.underlying44 hi hz0 hz1 rfl rfl (HO.out.items.alloc _) ⟨wr.heap.size, 0, none⟩ 1 1 (flat1 (endTok (bs s).length)) rfl rfl (by rw [HF1.out]; exact cells5_new _ _ _ _ _ _ _) (one1 _) (by omega) (by unfold maxLen; omega) (by rw [hz2]; omega) ?_)
        intro a' c' w4 hI4 hF4 hM4
        have HO4 := Lib.hid ((HO.out.still ((Foot.refl (fun _ => False) wr).alloc _)).push hI4 hF4 hM4)
        have hA4 := (HA.out.alloc (.cells #[.int .i64 4, .int .i64 s.size, .int .i64 s.size, .string ⟨#[]⟩, .int .i64 0] 72)).keep hF4 (fun e => absurd (HO.out.own _ e) (by have := HA0.out.lt; omega))
        have hlt4 := hA4.lt
        have c0 : w4.cell? ⟨w.heap.size, 0, none⟩ = some (.int .i64 0) := hA4.cell 0
        have c1 : w4.cell? ⟨w.heap.size, 1, none⟩ = some (.int .i64 0) := hA4.cell 1
        have f0 := hA4.free 0
        have f1 := hA4.free 1
        clear hI4 hF4 hM4 hA4
        go_wp2_with fail
        have hlt0 := HA0.out.lt
        have HO5 := HO4.out
        refine bodyPost_ret (v := .tuple #[.slice a' (ts.length + 1) c', .agg #[.int .i64 0, .int .i64 0]]) (by simp [results, Tryd.results18, go_sem, *]) rfl ?_
        have hI := (HO5.items.setOther (p := ⟨w.heap.size, 0, none⟩) (fun e => by have := HO5.own _ e; simp only at this; omega) (.int .i64 0)).setOther (p := ⟨w.heap.size, 1, none⟩) (fun e => by have := HO5.own _ e; simp only at this; omega) (.int .i64 0)
        exact AllRes.mk2 (W := w) (List.length_append ..) hO2.out (Foot.setCell (Foot.setCell (HF0.out.trans HO5.foot fun _ _ h => h) (p := ⟨w.heap.size, 0, none⟩) (fun h => absurd h (by simp only; omega)) _) (p := ⟨w.heap.size, 1, none⟩) (fun h => absurd h (by simp only; omega)) _) (by rw [List.length_append] at hI; exact hI)
end Go.Proofs.YtdibkgjldmepcaaDoor.Lex
