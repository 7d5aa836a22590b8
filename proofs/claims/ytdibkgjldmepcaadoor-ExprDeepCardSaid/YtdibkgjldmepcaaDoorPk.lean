/- Generated expressions as trees: made, with all that is known of them. -/
import Derived.Test.YtdibkgjldmepcaaDoorPx
import Derived.Test.YtdibkgjldmepcaaDoorGenQ
import Derived.Test.YtdibkgjldmepcaaDoorOpen
import Derived.Test.YtdibkgjldmepcaaDoorPp
import Derived.Test.YtdibkgjldmepcaaDoorPy
import Derived.Test.YtdibkgjldmepcaaDoorPt
namespace Go.Proofs.YtdibkgjldmepcaaDoor.Xp
open Go.RowKit Mem Lex Gen
set_option linter.unusedVariables false

theorem names_laid {w : World} {P : Nat → Prop} {g : Nat} {t : TypeId} {l : List Bytes} (hA : At w g t (l.map fun s => Value.string (mk s)).toArray) (hP : P g) (hi : ∀ s ∈ l, Ident s) (hl : l.length ≤ 1000000) :
    Names w P (.slice (some ⟨g, 0, none⟩) l.length l.length) l := by
  refine ⟨?_, hi, hl⟩
  have h := Reads.ofAt (P := P) 1 (l.map fun s => [D.str s]) l.length hA hP (fun x hx => by obtain ⟨s, _, rfl⟩ := List.mem_map.1 hx; rfl) (by rw [List.length_map]; unfold maxLen; omega) fun k f d hd => by
    rw [List.getElem?_map] at hd
    cases hk : l[k]? with
    | none => rw [hk] at hd; cases hd
    | some s =>
      rw [hk] at hd
      cases f with
      | zero =>
        cases hd
        exact ⟨.string (mk s), by simp [hk], .str s⟩
      | succ f => simp at hd
  rwa [List.length_map] at h
theorem names_none {w : World} {P : Nat → Prop} : Names w P (.slice none 0 0) [] := ⟨Reads.nil, (fun s h => by cases h), by decide⟩
theorem Sm.symm {x y : Ex} (h : Sm x y) : Sm y x := by
  induction h with
  | mk k n s l m p q hl h ih => exact .mk _ _ _ _ _ _ _ hl.symm fun i a b ha hb => ih i b a hb ha
/-- What is made is right, reads as a tree, and is printed as its text. -/
theorem made_c (R : Nat) (P : Nat → Prop) (hP : ¬ P R) (v0 v1 v2 v3 : Value) (l0 l1 l2 l3 : List Bytes) (dn : Nat) (hd : dn ≤ 10) (w : World) (hs : Src w R) (h0 : Names w P v0 l0) (h1 : Names w P v1 l1) (h2 : Names w P v2 l2) (h3 : Names w P v3 l3) :
    Calls Tryd.prog 17 #[.pointer (some ⟨R, 0, none⟩), .agg #[v0, v1, v2, v3], .int .i64 dn] w fun e w' => ∃ (x : Ex) (k n : Int) (s : ByteArray) (a : Option Addr) (m c : Nat) (p : Int),
      e = .returned (.agg #[.int .i64 k, .int .i64 n, .string s, .slice a m c, .int .i64 p]) ∧ Ok x ∧ nestX x ≤ 2 * dn ∧ sizeX x ≤ 2 ^ (dn + 1) - 1 ∧ Tr w' (fun b => w.heap.size ≤ b) (.agg #[.int .i64 k, .int .i64 n, .string s, .slice a m c, .int .i64 p]) x ∧
      (∀ W, Foot (fun _ => False) w' W → Calls Tryd.prog 14 #[.agg #[.int .i64 k, .int .i64 n, .string s, .slice a m c, .int .i64 p]] W fun e w' => e = .returned (.string (mk (textX x))) ∧ Foot (fun _ => False) W w') ∧ Foot (fun b => b = R) w w' := by
  refine (expr_c R P hP v0 v1 v2 v3 l0 l1 l2 l3 dn hd w hs h0 h1 h2 h3).mono ?_
  rintro e w' ⟨v, k, f, t, rfl, hx, he, hs', hf⟩
  obtain ⟨x, rfl, ho, rfl, _, hn, hz⟩ := ExT.ok hx
  have hpr := prints hx hd w' _ v he
  have ht : Tr w' (fun b => w.heap.size ≤ b) v x := he
  obtain ⟨k', n, s, a, m, c, p, rfl⟩ := ht.five
  exact ⟨x, k', n, s, a, m, c, p, rfl, ho, hn, hz, ht, hpr, hf⟩
theorem src_in {w W : World} {a : Option Addr} {len cap : Nat} {zs : List Int} (h : IntsIn w a len cap zs) (hf : Foot (fun _ => False) w W) (hl : len ≤ 1000000) (R : Nat) (hA : At W R 40 #[.slice a len cap, .int .i64 0]) (hR : w.heap.size ≤ R) : Src W R := by
  obtain ⟨hr, hle, hm, hz⟩ := h
  have hb : ∀ x, a = some x → 0 < len → x.block < w.heap.size := fun x hx h0 => by
    obtain ⟨b, off, rfl, hc⟩ := hr.2 h0
    cases hx
    exact World.block_lt_of_cell? w ⟨b, off + 0, none⟩ (hc 0 h0)
  exact ⟨a, len, cap, 0, zs, by simpa using hA, ReadsI.keep hr hf fun x hx h0 => ⟨hb x hx h0, id⟩, fun x hx h0 => by have := hb x hx h0; omega, Nat.zero_le _, hl, hz⟩
end Go.Proofs.YtdibkgjldmepcaaDoor.Xp

namespace Go.Proofs.YtdibkgjldmepcaaDoor.Xp
open Go.RowKit Mem Lex Gen
set_option linter.unusedVariables false
set_option linter.unusedSimpArgs false

def ex1 : Bytes := [49, 45, 40, 50, 45, 51, 41, 45, 40, 40, 52, 41, 41]
def ts1 : List Tok := [⟨2, 0, 1, [49], 1⟩, ⟨3, 1, 2, [45], 0⟩, ⟨3, 2, 3, [40], 0⟩, ⟨2, 3, 4, [50], 2⟩, ⟨3, 4, 5, [45], 0⟩, ⟨2, 5, 6, [51], 3⟩, ⟨3, 6, 7, [41], 0⟩, ⟨3, 7, 8, [45], 0⟩, ⟨3, 8, 9, [40], 0⟩, ⟨3, 9, 10, [40], 0⟩, ⟨2, 10, 11, [52], 4⟩, ⟨3, 11, 12, [41], 0⟩, ⟨3, 12, 13, [41], 0⟩, ⟨4, 13, 13, [], 0⟩]
theorem out_ex1 : outcome ex1 = (ts1, 0, 0) := by
  have h : LT 13 ex1 [⟨2, 0, 1, [49], 1⟩, ⟨3, 1, 2, [45], 0⟩, ⟨3, 2, 3, [40], 0⟩, ⟨2, 3, 4, [50], 2⟩, ⟨3, 4, 5, [45], 0⟩, ⟨2, 5, 6, [51], 3⟩, ⟨3, 6, 7, [41], 0⟩, ⟨3, 7, 8, [45], 0⟩, ⟨3, 8, 9, [40], 0⟩, ⟨3, 9, 10, [40], 0⟩, ⟨2, 10, 11, [52], 4⟩, ⟨3, 11, 12, [41], 0⟩, ⟨3, 12, 13, [41], 0⟩] := by
    refine LT.tok (w := [49]) (rest := [45, 40, 50, 45, 51, 41, 45, 40, 40, 52, 41, 41]) (b := 49) (t := ⟨2, 1, 1⟩) ⟨[], rfl⟩ ⟨by decide, by decide⟩ rfl rfl ?_
    refine LT.tok (w := [45]) (rest := [40, 50, 45, 51, 41, 45, 40, 40, 52, 41, 41]) (b := 45) (t := ⟨3, 1, 0⟩) ⟨[], rfl⟩ ⟨by decide, by decide⟩ rfl rfl ?_
    refine LT.tok (w := [40]) (rest := [50, 45, 51, 41, 45, 40, 40, 52, 41, 41]) (b := 40) (t := ⟨3, 1, 0⟩) ⟨[], rfl⟩ ⟨by decide, by decide⟩ rfl rfl ?_
    refine LT.tok (w := [50]) (rest := [45, 51, 41, 45, 40, 40, 52, 41, 41]) (b := 50) (t := ⟨2, 1, 2⟩) ⟨[], rfl⟩ ⟨by decide, by decide⟩ rfl rfl ?_
    refine LT.tok (w := [45]) (rest := [51, 41, 45, 40, 40, 52, 41, 41]) (b := 45) (t := ⟨3, 1, 0⟩) ⟨[], rfl⟩ ⟨by decide, by decide⟩ rfl rfl ?_
    refine LT.tok (w := [51]) (rest := [41, 45, 40, 40, 52, 41, 41]) (b := 51) (t := ⟨2, 1, 3⟩) ⟨[], rfl⟩ ⟨by decide, by decide⟩ rfl rfl ?_
    refine LT.tok (w := [41]) (rest := [45, 40, 40, 52, 41, 41]) (b := 41) (t := ⟨3, 1, 0⟩) ⟨[], rfl⟩ ⟨by decide, by decide⟩ rfl rfl ?_
    refine LT.tok (w := [45]) (rest := [40, 40, 52, 41, 41]) (b := 45) (t := ⟨3, 1, 0⟩) ⟨[], rfl⟩ ⟨by decide, by decide⟩ rfl rfl ?_
    refine LT.tok (w := [40]) (rest := [40, 52, 41, 41]) (b := 40) (t := ⟨3, 1, 0⟩) ⟨[], rfl⟩ ⟨by decide, by decide⟩ rfl rfl ?_
    refine LT.tok (w := [40]) (rest := [52, 41, 41]) (b := 40) (t := ⟨3, 1, 0⟩) ⟨[], rfl⟩ ⟨by decide, by decide⟩ rfl rfl ?_
    refine LT.tok (w := [52]) (rest := [41, 41]) (b := 52) (t := ⟨2, 1, 4⟩) ⟨[], rfl⟩ ⟨by decide, by decide⟩ rfl rfl ?_
    refine LT.tok (w := [41]) (rest := [41]) (b := 41) (t := ⟨3, 1, 0⟩) ⟨[], rfl⟩ ⟨by decide, by decide⟩ rfl rfl ?_
    refine LT.tok (w := [41]) (rest := []) (b := 41) (t := ⟨3, 1, 0⟩) ⟨[], rfl⟩ ⟨by decide, by decide⟩ rfl rfl ?_
    exact LT.nil _
  unfold outcome
  rw [if_neg (by decide), show lexAll ex1 = .ok _ from h]
  rfl
def ex2 : Bytes := [45, 40, 45, 120, 41, 32, 42, 32, 40, 121, 41]
def ts2 : List Tok := [⟨3, 0, 1, [45], 0⟩, ⟨3, 1, 2, [40], 0⟩, ⟨3, 2, 3, [45], 0⟩, ⟨1, 3, 4, [120], 0⟩, ⟨3, 4, 5, [41], 0⟩, ⟨3, 6, 7, [42], 0⟩, ⟨3, 8, 9, [40], 0⟩, ⟨1, 9, 10, [121], 0⟩, ⟨3, 10, 11, [41], 0⟩, ⟨4, 11, 11, [], 0⟩]
theorem out_ex2 : outcome ex2 = (ts2, 0, 0) := by
  have h : LT 11 ex2 [⟨3, 0, 1, [45], 0⟩, ⟨3, 1, 2, [40], 0⟩, ⟨3, 2, 3, [45], 0⟩, ⟨1, 3, 4, [120], 0⟩, ⟨3, 4, 5, [41], 0⟩, ⟨3, 6, 7, [42], 0⟩, ⟨3, 8, 9, [40], 0⟩, ⟨1, 9, 10, [121], 0⟩, ⟨3, 10, 11, [41], 0⟩] := by
    refine LT.tok (w := [45]) (rest := [40, 45, 120, 41, 32, 42, 32, 40, 121, 41]) (b := 45) (t := ⟨3, 1, 0⟩) ⟨[], rfl⟩ ⟨by decide, by decide⟩ rfl rfl ?_
    refine LT.tok (w := [40]) (rest := [45, 120, 41, 32, 42, 32, 40, 121, 41]) (b := 40) (t := ⟨3, 1, 0⟩) ⟨[], rfl⟩ ⟨by decide, by decide⟩ rfl rfl ?_
    refine LT.tok (w := [45]) (rest := [120, 41, 32, 42, 32, 40, 121, 41]) (b := 45) (t := ⟨3, 1, 0⟩) ⟨[], rfl⟩ ⟨by decide, by decide⟩ rfl rfl ?_
    refine LT.tok (w := [120]) (rest := [41, 32, 42, 32, 40, 121, 41]) (b := 120) (t := ⟨1, 1, 0⟩) ⟨[], rfl⟩ ⟨by decide, by decide⟩ rfl rfl ?_
    refine LT.tok (w := [41]) (rest := [32, 42, 32, 40, 121, 41]) (b := 41) (t := ⟨3, 1, 0⟩) ⟨[], rfl⟩ ⟨by decide, by decide⟩ rfl rfl ?_
    refine LT.blank ?_
    refine LT.tok (w := [42]) (rest := [32, 40, 121, 41]) (b := 42) (t := ⟨3, 1, 0⟩) ⟨[], rfl⟩ ⟨by decide, by decide⟩ rfl rfl ?_
    refine LT.blank ?_
    refine LT.tok (w := [40]) (rest := [121, 41]) (b := 40) (t := ⟨3, 1, 0⟩) ⟨[], rfl⟩ ⟨by decide, by decide⟩ rfl rfl ?_
    refine LT.tok (w := [121]) (rest := [41]) (b := 121) (t := ⟨1, 1, 0⟩) ⟨[], rfl⟩ ⟨by decide, by decide⟩ rfl rfl ?_
    refine LT.tok (w := [41]) (rest := []) (b := 41) (t := ⟨3, 1, 0⟩) ⟨[], rfl⟩ ⟨by decide, by decide⟩ rfl rfl ?_
    exact LT.nil _
  unfold outcome
  rw [if_neg (by decide), show lexAll ex2 = .ok _ from h]
  rfl
def ex3 : Bytes := [97, 32, 60, 32, 98, 32, 60, 32, 99]
def ts3 : List Tok := [⟨1, 0, 1, [97], 0⟩, ⟨3, 2, 3, [60], 0⟩, ⟨1, 4, 5, [98], 0⟩, ⟨3, 6, 7, [60], 0⟩, ⟨1, 8, 9, [99], 0⟩, ⟨4, 9, 9, [], 0⟩]
theorem out_ex3 : outcome ex3 = (ts3, 0, 0) := by
  have h : LT 9 ex3 [⟨1, 0, 1, [97], 0⟩, ⟨3, 2, 3, [60], 0⟩, ⟨1, 4, 5, [98], 0⟩, ⟨3, 6, 7, [60], 0⟩, ⟨1, 8, 9, [99], 0⟩] := by
    refine LT.tok (w := [97]) (rest := [32, 60, 32, 98, 32, 60, 32, 99]) (b := 97) (t := ⟨1, 1, 0⟩) ⟨[], rfl⟩ ⟨by decide, by decide⟩ rfl rfl ?_
    refine LT.blank ?_
    refine LT.tok (w := [60]) (rest := [32, 98, 32, 60, 32, 99]) (b := 60) (t := ⟨3, 1, 0⟩) ⟨[], rfl⟩ ⟨by decide, by decide⟩ rfl rfl ?_
    refine LT.blank ?_
    refine LT.tok (w := [98]) (rest := [32, 60, 32, 99]) (b := 98) (t := ⟨1, 1, 0⟩) ⟨[], rfl⟩ ⟨by decide, by decide⟩ rfl rfl ?_
    refine LT.blank ?_
    refine LT.tok (w := [60]) (rest := [32, 99]) (b := 60) (t := ⟨3, 1, 0⟩) ⟨[], rfl⟩ ⟨by decide, by decide⟩ rfl rfl ?_
    refine LT.blank ?_
    refine LT.tok (w := [99]) (rest := []) (b := 99) (t := ⟨1, 1, 0⟩) ⟨[], rfl⟩ ⟨by decide, by decide⟩ rfl rfl ?_
    exact LT.nil _
  unfold outcome
  rw [if_neg (by decide), show lexAll ex3 = .ok _ from h]
  rfl
def tr1 : Ex := .node 11 0 [] [.node 11 0 [] [.node 1 1 [] [] 0, .node 11 0 [] [.node 1 2 [] [] 3, .node 1 3 [] [] 5] 4] 1, .node 1 4 [] [] 10] 7
def tr2 : Ex := .node 7 0 [] [.node 5 0 [] [.node 5 0 [] [.node 2 0 [120] [] 3] 2] 0, .node 2 0 [121] [] 9] 6
def tr3 : Ex := .node 12 0 [] [.node 2 0 [97] [] 0, .node 2 0 [98] [] 4] 2
theorem parse_ex1 : parse ts1 0 = .ok (tr1, ts1.drop 13) := by kernel_rfl
theorem parse_ex2 : parse ts2 0 = .ok (tr2, ts2.drop 9) := by kernel_rfl
theorem parse_ex3 : parse ts3 0 = .ok (tr3, ts3.drop 3) := by kernel_rfl
theorem ok_tr1 : Ok tr1 := .bin 11 _ _ 7 (by decide) (.bin 11 _ _ 1 (by decide) (.num 1 0 (by decide) (by decide)) (.bin 11 _ _ 4 (by decide) (.num 2 3 (by decide) (by decide)) (.num 3 5 (by decide) (by decide)))) (.num 4 10 (by decide) (by decide))
theorem ok_tr2 : Ok tr2 := .bin 7 _ _ 6 (by decide) (.un 5 _ 0 (by decide) (.un 5 _ 2 (by decide) (.var [120] 3 (by unfold Ident; decide)))) (.var [121] 9 (by unfold Ident; decide))
theorem text_tr1 : textX tr1 = [49, 32, 45, 32, 40, 50, 32, 45, 32, 51, 41, 32, 45, 32, 52] := by
  simp only [tr1, textX, wordD, if_true, dec1 1 1 rfl (by decide), dec1 2 2 rfl (by decide), dec1 3 3 rfl (by decide), dec1 4 4 rfl (by decide)]
  rfl
theorem text_tr2 : textX tr2 = [45, 45, 120, 32, 42, 32, 121] := by
  simp only [tr2, textX, wordD]
  rfl

theorem Ok.rng {x : Ex} (h : Ok x) : Rng x := by
  induction h with
  | num n p h0 h1 => exact .mk _ _ _ _ _ (by omega) (by omega) (by decide) (fun _ h => by cases h)
  | var s p h => exact .mk _ _ _ _ _ (by decide) (by decide) (by have := ident_len h; omega) (fun _ h => by cases h)
  | arg p => exact .mk _ _ _ _ _ (by decide) (by decide) (by decide) (fun _ h => by cases h)
  | inn s p h => exact .mk _ _ _ _ _ (by decide) (by decide) (by have := ident_len h; omega) (fun _ h => by cases h)
  | un k a p h ha ih => exact .mk _ _ _ _ _ (by decide) (by decide) (by decide) (fun x hx => by simp at hx; rw [hx]; exact ih)
  | bin k a b p h ha hb ia ib => exact .mk _ _ _ _ _ (by decide) (by decide) (by decide) (fun x hx => by simp at hx; rcases hx with rfl | rfl; exact ia; exact ib)
theorem rng_tr1 : Rng tr1 := ok_tr1.rng
theorem rng_none : Rng (.node 0 0 [] [] 0) := .mk _ _ _ _ _ (by decide) (by decide) (by decide) (fun _ h => by cases h)
set_option maxHeartbeats 4000000 in
set_option maxRecDepth 100000 in
/-- A text that is lexed and parsed. -/
theorem read_c (s : ByteArray) (hs0 : s.size ≤ 9223372036854775807) (ts : List Tok) (y : Ex) (r : List Tok) (w : World) (hv : Vars w) (ho : outcome (bs s) = (ts, 0, 0)) (hp : parse ts 0 = .ok (y, r)) :
    Calls Tryd.prog 15 #[.string s] w fun e w' => ∃ k n us a m c p, e = .returned (.tuple #[.agg #[.int .i64 k, .int .i64 n, .string us, .slice a m c, .int .i64 p], .bool (decide (r.length = 1))]) ∧ Tr w' (fun k => w.heap.size ≤ k) (.agg #[.int .i64 k, .int .i64 n, .string us, .slice a m c, .int .i64 p]) y ∧ Foot (fun _ => False) w w' := by
  have AL := fun W hW => All_c s W hs0 hW
  have HO := Lib.hid ho
  have HP := Lib.hid hp
  have hA := At.new w 24 #[.int .i64 0, .int .i64 0, .string ⟨#[]⟩, .slice none 0 0, .int .i64 0]
  have hf0 := (Foot.refl (fun _ => False) w).alloc (.cells #[.int .i64 0, .int .i64 0, .string ⟨#[]⟩, .slice none 0 0, .int .i64 0] 24)
  have HV0 := Lib.hid (hv.keep hf0)
  have HF0 := Lib.hid hf0
  have HA := Lib.hid hA
  have hsz0 := size_alloc w (.cells #[.int .i64 0, .int .i64 0, .string ⟨#[]⟩, .slice none 0 0, .int .i64 0] 24)
  clear hA hf0 hv ho hp
  go_enter Tryd.func15, Tryd.ntmps15
  go_wp2_with fail
  generalize w.alloc (.cells #[.int .i64 0, .int .i64 0, .string ⟨#[]⟩, .slice none 0 0, .int .i64 0] 24) = W1 at *
  refine (AL _ HV0.out).mono ?_
  rintro e w1 ⟨hf, a1, c1, rfl, hi⟩
  rw [HO.out] at hi ⊢
  obtain ⟨htk, hpos⟩ := toks_of HO.out hi
  dsimp only at hi htk hpos ⊢
  have hf1 := hf.alloc (.cells #[.int .i64 0, .int .i64 0] 47)
  have HF1 := Lib.hid (HF0.out.trans hf1 fun _ _ h => h)
  have HA1 := Lib.hid (HA.out.keep hf1 id)
  have HTK := Lib.hid (htk.still ((Foot.refl (fun _ => False) w1).alloc (.cells #[.int .i64 0, .int .i64 0] 47)))
  have hsz1 := hf1.size
  have PC := fun W hW => parse_c (.slice a1 ts.length c1) ts 0 W hW hpos
  rw [HP.out] at PC
  generalize hln : ts.length = ln at *
  clear hi htk hf hf1 AL HA HF0
  go_wp2_with fail
  generalize w1.alloc (.cells #[.int .i64 0, .int .i64 0] 47) = W2 at *
  refine (PC _ HTK.out).mono ?_
  rintro e w2 ⟨⟨u, j, rfl, hTr, hl, hj⟩, hf⟩
  obtain ⟨k, n, us, a, m, c, p, rfl⟩ := hTr.five
  obtain ⟨x1, x2, x3, x4⟩ := two (Foot.refl (fun _ => False) ((w2.alloc (.cells #[.int .i64 k, .int .i64 n, .string us, .slice a m c, .int .i64 p] 24)).alloc (.cells #[.int .i64 0, .int .i64 0] 47)))
  have hf3 := hf.trans x3 fun _ _ h => h
  have hA3 := HA1.out.keep hf3 id
  have hT3 := hTr.still x3
  have HF3 := Lib.hid (HF1.out.trans hf3 fun _ _ h => h)
  have hsz2 := hf.size
  have hsz3 := hf.size
  have hbb : ((j : Int) == (ln : Int) - 1) = decide (r.length = 1) := by
    have : r.length = ts.length - j := by rw [hl, List.length_drop]
    cases hx : ((j : Int) == (ln : Int) - 1) with
    | true => rw [beq_iff_eq] at hx; rw [decide_eq_true (by omega)]
    | false => rw [beq_eq_false_iff_ne] at hx; rw [decide_eq_false (by omega)]
  have hwl : IntKind.i64.wrap ((ln : Int) - 1) = (ln : Int) - 1 := by have := HTK.out.few; rw [IntKind.wrap_i64]; omega
  generalize hbe : decide (r.length = 1) = bb at *
  have HBE := Lib.hid hbe
  clear hbe
  clear hTr hl hf HA1 PC
  go_upto_region 5 with fail
  generalize (w2.alloc (.cells #[.int .i64 k, .int .i64 n, .string us, .slice a m c, .int .i64 p] 24)).alloc (.cells #[.int .i64 0, .int .i64 0] 47) = W3 at *
  obtain ⟨f0, f1⟩ := cells2 x2
  obtain ⟨y0, y1, y2, y3, y4⟩ := cells5 x1
  obtain ⟨e0, e1, e2, e3, e4⟩ := cells5 hA3
  obtain ⟨ef0, ef1, ef2, ef3, ef4⟩ := free5 hA3
  have HT := Lib.hid ((keepL hT3 (foot5' (Foot.refl (fun k => k < W2.heap.size) W3) (show w.heap.size < W2.heap.size by omega) (.int .i64 k) (.int .i64 n) (.string us) (.slice a m c) (.int .i64 p))).weak (P' := fun k => w.heap.size ≤ k) (fun k _ hk => by omega))
  clear x1 x2 x3 x4 hA3 hT3 hf3
  go_wp2_with fail
  refine bodyPost_ret (v := .tuple #[.agg #[.int .i64 k, .int .i64 n, .string us, .slice a m c, .int .i64 p], .bool bb]) (by simp [results, Tryd.results15, go_sem, *]) rfl ⟨_, _, _, _, _, _, _, by rw [HBE.out], HT.out, foot5 HF3.out (Nat.le_refl _) _ _ _ _ _⟩
set_option maxHeartbeats 4000000 in
set_option maxRecDepth 100000 in
theorem known_c (w : World) (hv : Vars w) : Calls Tryd.prog 10 #[] w fun e w' => e = .returned (.bool true) ∧ Foot (fun _ => False) w w' := by
  have R1 := fun W hW => read_c ⟨#[49, 45, 40, 50, 45, 51, 41, 45, 40, 40, 52, 41, 41]⟩ (by decide) ts1 tr1 _ W hW out_ex1 parse_ex1
  have R2 := fun W hW => read_c ⟨#[45, 40, 45, 120, 41, 32, 42, 32, 40, 121, 41]⟩ (by decide) ts2 tr2 _ W hW out_ex2 parse_ex2
  have R3 := fun W hW => read_c ⟨#[97, 32, 60, 32, 98, 32, 60, 32, 99]⟩ (by decide) ts3 tr3 _ W hW out_ex3 parse_ex3
  rw [show decide ((ts1.drop 13).length = 1) = true by decide] at R1
  rw [show decide ((ts2.drop 9).length = 1) = true by decide] at R2
  rw [show decide ((ts3.drop 3).length = 1) = false by decide] at R3
  have q1 : ((mk [49, 32, 45, 32, 40, 50, 32, 45, 32, 51, 41, 32, 45, 32, 52]).toList == [49, 32, 45, 32, 40, 50, 32, 45, 32, 51, 41, 32, 45, 32, 52]) = true := by rw [toList_bs, bs_mk]; exact beq_self_eq_true _
  have q2 : ((mk [45, 45, 120, 32, 42, 32, 121]).toList == [45, 45, 120, 32, 42, 32, 121]) = true := by rw [toList_bs, bs_mk]; exact beq_self_eq_true _
  have HV := Lib.hid hv
  clear hv
  go_enter Tryd.func10, Tryd.ntmps10
  go_wp2_with fail
  refine (R1 _ HV.out).mono ?_
  rintro e w1 ⟨k1, n1, s1, a1, m1, c1, p1, rfl, ht1, hf⟩
  have hf1 := hf.alloc (.cells #[.int .i64 k1, .int .i64 n1, .string s1, .slice a1 m1 c1, .int .i64 p1] 24)
  have HA1 := Lib.hid (At.new w1 24 #[.int .i64 k1, .int .i64 n1, .string s1, .slice a1 m1 c1, .int .i64 p1])
  have HT1 := Lib.hid (ht1.still ((Foot.refl (fun _ => False) w1).alloc (.cells #[.int .i64 k1, .int .i64 n1, .string s1, .slice a1 m1 c1, .int .i64 p1] 24)))
  have HF1 := Lib.hid hf1
  clear hf hf1 ht1 R1
  go_wp2_with fail
  generalize w1.alloc (.cells #[.int .i64 k1, .int .i64 n1, .string s1, .slice a1 m1 c1, .int .i64 p1] 24) = W1 at *
  refine (R2 _ (HV.out.keep HF1.out)).mono ?_
  rintro e w2 ⟨k2, n2, s2, a2, m2, c2, p2, rfl, ht2, hf⟩
  have hf2 := hf.alloc (.cells #[.int .i64 k2, .int .i64 n2, .string s2, .slice a2 m2 c2, .int .i64 p2] 24)
  have HA2 := Lib.hid (At.new w2 24 #[.int .i64 k2, .int .i64 n2, .string s2, .slice a2 m2 c2, .int .i64 p2])
  have HA1 := Lib.hid (HA1.out.keep hf2 id)
  have HT1 := Lib.hid (HT1.out.still hf2)
  have HT2 := Lib.hid (ht2.still ((Foot.refl (fun _ => False) w2).alloc (.cells #[.int .i64 k2, .int .i64 n2, .string s2, .slice a2 m2 c2, .int .i64 p2] 24)))
  have HF2 := Lib.hid (HF1.out.trans hf2 fun _ _ h => h)
  clear hf hf2 ht2 R2 HF1
  go_wp2_with fail
  generalize w2.alloc (.cells #[.int .i64 k2, .int .i64 n2, .string s2, .slice a2 m2 c2, .int .i64 p2] 24) = W2 at *
  refine (R3 _ (HV.out.keep HF2.out)).mono ?_
  rintro e w3 ⟨k3, n3, s3, a3, m3, c3, p3, rfl, _, hf⟩
  have hf3 := hf.alloc (.cells #[.int .i64 k3, .int .i64 n3, .string s3, .slice a3 m3 c3, .int .i64 p3] 24)
  have HA1 := Lib.hid (HA1.out.keep hf3 id)
  have HA2 := Lib.hid (HA2.out.keep hf3 id)
  have HT1 := Lib.hid (HT1.out.still hf3)
  have HT2 := Lib.hid (HT2.out.still hf3)
  have HF3 := Lib.hid (HF2.out.trans hf3 fun _ _ h => h)
  clear hf hf3 R3 HF2
  obtain ⟨x0, x1, x2, x3, x4⟩ := cells5 HA1.out
  go_wp2_with fail
  generalize w3.alloc (.cells #[.int .i64 k3, .int .i64 n3, .string s3, .slice a3 m3 c3, .int .i64 p3] 24) = W3 at *
  refine (xprint_c ok_tr1 _ _ W3 (HV.out.keep HF3.out) HT1.out (by decide)).mono ?_
  rintro e w4 ⟨rfl, hf⟩
  rw [text_tr1]
  have HA1 := Lib.hid (HA1.out.keep hf id)
  have HA2 := Lib.hid (HA2.out.keep hf id)
  have HT1 := Lib.hid (HT1.out.still hf)
  have HT2 := Lib.hid (HT2.out.still hf)
  have HF4 := Lib.hid (HF3.out.trans hf fun _ _ h => h)
  clear hf HF3 x0 x1 x2 x3 x4
  obtain ⟨y0, y1, y2, y3, y4⟩ := cells5 HA2.out
  go_wp2_with fail
  refine (xprint_c ok_tr2 _ _ w4 (HV.out.keep HF4.out) HT2.out (by decide)).mono ?_
  rintro e w5 ⟨rfl, hf⟩
  rw [text_tr2]
  have HA1 := Lib.hid (HA1.out.keep hf id)
  have HT1 := Lib.hid (HT1.out.still hf)
  have HF5 := Lib.hid (HF4.out.trans hf fun _ _ h => h)
  clear hf HF4 y0 y1 y2 y3 y4
  obtain ⟨x0, x1, x2, x3, x4⟩ := cells5 HA1.out
  go_wp2_with fail
  refine (right_c rng_tr1 (fun k => k < w5.heap.size) _ w5 (HV.out.keep HF5.out) (HT1.out.weak (fun k hk _ => hk)) (fun _ h => h) (by decide)).mono ?_
  rintro e w6 ⟨rfl, hf⟩
  rw [show fitB tr1 1 0 = true by kernel_rfl]
  have HF6 := Lib.hid (HF5.out.trans hf fun _ _ h => h)
  clear hf HF5
  go_wp2_with fail
  refine (right_c rng_none (fun k => k < w6.heap.size) _ w6 (HV.out.keep HF6.out) Tr.leaf (fun _ h => h) (by decide)).mono ?_
  rintro e w7 ⟨rfl, hf⟩
  rw [show fitB (.node 0 0 [] [] 0) 1 0 = false by kernel_rfl]
  go_wp2_with fail
  go_ret
  exact ⟨rfl, HF6.out.trans hf fun _ _ h => h⟩
end Go.Proofs.YtdibkgjldmepcaaDoor.Xp
