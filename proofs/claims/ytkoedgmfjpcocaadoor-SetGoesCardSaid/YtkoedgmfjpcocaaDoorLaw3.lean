/- The reference's lists and the sets tell the same: plain mathematics for the laws of sets; what a law's walk holds of memory. -/
import Derived.Test.YtkoedgmfjpcocaaDoorKnown3
namespace Go.Proofs.YtkoedgmfjpcocaaDoor.Sets
open Go.RowKit Mem Words
open Refs (ints nums Gives inB inB_mem without)
set_option linter.unusedVariables false

theorem mem_nums {l : List Nat} {i : Int} : i ∈ nums l ↔ ∃ j ∈ l, (j : Int) = i := by simp [nums]
theorem mem_els {p : Nat → Bool} {j : Nat} : j ∈ els p ↔ j < 128 ∧ p j = true := by simp [els]
theorem cast_mem {p : Nat → Bool} {j : Nat} : (j : Int) ∈ nums (els p) ↔ j < 128 ∧ p j = true := by
  rw [mem_nums]
  constructor
  · rintro ⟨k, hk, e⟩
    obtain rfl : k = j := by omega
    exact mem_els.1 hk
  · intro h
    exact ⟨j, mem_els.2 h, rfl⟩
theorem has_eq (p : Nat → Bool) (i : Int) : inB (nums (els p)) i = hasP p i := by
  rw [inB_mem]
  unfold hasP
  rw [Bool.eq_iff_iff, decide_eq_true_eq, Bool.and_eq_true, decide_eq_true_eq]
  constructor
  · intro h
    obtain ⟨j, hj, rfl⟩ := mem_nums.1 h
    obtain ⟨h1, h2⟩ := mem_els.1 hj
    exact ⟨by omega, by simpa using h2⟩
  · rintro ⟨h1, h2⟩
    obtain ⟨j, rfl⟩ : ∃ j : Nat, i = j := ⟨i.toNat, by omega⟩
    exact cast_mem.2 ⟨by omega, by simpa using h2⟩
theorem or_eq (p q : Nat → Bool) : Agree (ofP (nums (els p) ++ nums (els q))) (orP p q) := by
  intro j hj
  simp only [ofP, orP]
  rw [Bool.eq_iff_iff, Bool.or_eq_true, List.contains_eq_mem, decide_eq_true_eq, List.mem_append, cast_mem, cast_mem]
  constructor
  · rintro (h | h)
    · exact .inl h.2
    · exact .inr h.2
  · rintro (h | h)
    · exact .inl ⟨hj, h⟩
    · exact .inr ⟨hj, h⟩
theorem without_nums (p : Nat → Bool) (ys : List Int) : without (nums (els p)) ys = nums (els fun j => p j && !inB ys (j : Int)) := by
  unfold without nums els
  rw [List.filter_map, List.filter_filter]
  congr 1
  apply List.filter_congr
  intro j _
  simp [Bool.and_comm]
theorem not_eq (p q : Nat → Bool) : without (nums (els p)) (nums (els q)) = nums (els (notP p q)) := by
  rw [without_nums]
  congr 1
  apply els_congr
  intro j hj
  have h : inB (nums (els q)) (j : Int) = q j := by
    rw [inB_mem, Bool.eq_iff_iff, decide_eq_true_eq, cast_mem]
    exact ⟨fun h => h.2, fun h => ⟨hj, h⟩⟩
  simp [notP, h]
theorem and_eq (p q : Nat → Bool) : without (nums (els p)) (nums (els (notP p q))) = nums (els (andP p q)) := by
  rw [not_eq]
  congr 1
  apply els_congr
  intro j _
  simp only [notP, andP]
  cases p j <;> cases q j <;> rfl
theorem within_eq (p q : Nat → Bool) : decide (Agree (andP p q) p) = decide ((nums (els (notP p q))).length = 0) := by
  rw [decide_eq_decide, nums_len]
  constructor
  · intro h
    have : els (notP p q) = els noneP := els_congr fun j hj => by
      have := h j hj
      simp only [andP] at this
      simp only [notP, noneP]
      cases hp : p j
      · rfl
      · rw [hp] at this; simp at this; simp [this]
    rw [this, els_none]; rfl
  · intro h j hj
    have h2 : els (notP p q) = [] := List.eq_nil_of_length_eq_zero h
    have h3 : Agree (notP p q) noneP := els_inj (by rw [h2, els_none])
    have := h3 j hj
    simp only [notP, noneP] at this
    simp only [andP]
    cases hp : p j
    · rfl
    · rw [hp] at this; simp at this; simp [this]

/-- Two lists that are one. -/
theorem Same_yes (a b : Option Addr) (n m cap cap' : Nat) (zs : List Int) (w : World) (hr : ReadsI w a n zs) (hq : ReadsI w b m zs) (hn : n ≤ 9223372036854775807) (hm : m ≤ 9223372036854775807) :
    Calls Tryd.prog 12 #[.slice a n cap, .slice b m cap'] w fun e w' => e = .returned (.bool true) ∧ Foot (fun _ => False) w w' := by
  have h := Refs.Same' a b n m cap cap' zs zs w hr hq hn hm
  rwa [decide_eq_true rfl] at h

/-- A set in its box, by its cells. -/
def Box (w : World) (b : Nat) (p : Nat → Bool) : Prop := At w b 28 #[.int .u64 (lo p : Nat), .int .u64 (hi p : Nat)]
theorem Box.c0 {w : World} {b : Nat} {p : Nat → Bool} (h : Box w b p) : w.cell? ⟨b, 0, none⟩ = some (.int .u64 (lo p : Nat)) := At.cell h 0
theorem Box.c1 {w : World} {b : Nat} {p : Nat → Bool} (h : Box w b p) : w.cell? ⟨b, 1, none⟩ = some (.int .u64 (hi p : Nat)) := At.cell h 1
theorem Box.foot {w w' : World} {b : Nat} {p : Nat → Bool} (h : Box w b p) (hF : Foot (fun _ => False) w w') : Box w' b p := At.keep h hF id
/-- What the walk of a law of two sets holds: whence it came, the two boxes, the table, the two lists. -/
structure Env (w wk : World) (bx by_ : Nat) (x y : Nat → Bool) : Prop where
  foot : Foot (fun _ => False) w wk
  x : Box wk bx x
  y : Box wk by_ y
  tab : Tab wk
theorem Env.step {w wk wl : World} {bx by_ : Nat} {x y : Nat → Bool} (h : Env w wk bx by_ x y) (hF : Foot (fun _ => False) wk wl) : Env w wl bx by_ x y :=
  ⟨h.foot.trans hF fun _ _ h => h, h.x.foot hF, h.y.foot hF, h.tab.foot hF id⟩
/-- The same with the reference's two lists. -/
structure Env2 (w wk : World) (bx by_ : Nat) (x y : Nat → Bool) (pa qa : Option Addr) (n m : Nat) (P Q : List Int) : Prop where
  env : Env w wk bx by_ x y
  p : ReadsI wk pa n P
  q : ReadsI wk qa m Q
theorem Env2.step {w wk wl : World} {bx by_ n m : Nat} {x y : Nat → Bool} {pa qa : Option Addr} {P Q : List Int} (h : Env2 w wk bx by_ x y pa qa n m P Q) (hF : Foot (fun _ => False) wk wl) : Env2 w wl bx by_ x y pa qa n m P Q :=
  ⟨h.env.step hF, h.p.keep hF fun _ _ => id, h.q.keep hF fun _ _ => id⟩
theorem Foot.bel {w w' : World} (h : Foot (fun _ => False) w w') : Below w.heap.size w w' := h.below (fun _ _ h => h.elim) (Nat.le_refl _)
end Go.Proofs.YtkoedgmfjpcocaaDoor.Sets
