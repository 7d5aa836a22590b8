/- The rules of sets, said of their predicates; what the walk of three sets holds. -/
import Derived.Test.YtkoedgmfjpcocaaDoorLaw3
namespace Go.Proofs.YtkoedgmfjpcocaaDoor.Sets
open Go.RowKit Mem Words
open Refs (nums)
set_option linter.unusedVariables false

theorem agree_of {p q : Nat → Bool} (h : ∀ j, p j = q j) : Agree p q := fun j _ => h j
theorem rule1 (x y : Nat → Bool) : Agree (orP (andP x y) (notP x y)) x := agree_of fun j => by simp only [orP, andP, notP]; cases x j <;> cases y j <;> rfl
theorem rule2 (x y : Nat → Bool) : Agree (andP (notP x y) y) noneP := agree_of fun j => by simp only [andP, notP, noneP]; cases x j <;> cases y j <;> rfl
theorem rule3 (x y : Nat → Bool) : Agree (orP x y) (orP y x) := agree_of fun j => by simp only [orP]; cases x j <;> cases y j <;> rfl
theorem rule4 (x y z : Nat → Bool) : Agree (andP x (orP y z)) (orP (andP x y) (andP x z)) := agree_of fun j => by simp only [orP, andP]; cases x j <;> cases y j <;> cases z j <;> rfl
theorem rule5 (x y z : Nat → Bool) : Agree (notP x (orP y z)) (notP (notP x y) z) := agree_of fun j => by simp only [orP, notP]; cases x j <;> cases y j <;> cases z j <;> rfl
theorem len_rule (x y : Nat → Bool) : ∀ l : List Nat, (l.filter (orP x y)).length + (l.filter (andP x y)).length = (l.filter x).length + (l.filter y).length
  | [] => rfl
  | j :: l => by
    have ih := len_rule x y l
    have h1 : orP x y j = (x j || y j) := rfl
    have h2 : andP x y j = (x j && y j) := rfl
    rw [List.filter_cons, List.filter_cons, List.filter_cons, List.filter_cons, h1, h2]
    cases x j <;> cases y j <;> simp <;> omega
theorem rule6 (x y : Nat → Bool) : (els (orP x y)).length + (els (andP x y)).length = (els x).length + (els y).length := len_rule x y _

/-- Two sets that agree are one value. -/
theorem eq_yes {p q : Nat → Bool} (h : Agree p q) (w : World) : Sem.run Tryd.prog (Op.equalIn 10000 28 (.agg #[.int .u64 (lo p : Nat), .int .u64 (hi p : Nat)]) (.agg #[.int .u64 (lo q : Nat), .int .u64 (hi q : Nat)])) w = .ok true w := by
  have h2 := eqSets p q w
  rwa [decide_eq_true h] at h2
theorem eq_none {p : Nat → Bool} (h : Agree p noneP) (w : World) : Sem.run Tryd.prog (Op.equalIn 10000 28 (.agg #[.int .u64 (lo p : Nat), .int .u64 (hi p : Nat)]) (.agg #[.int .u64 0, .int .u64 0])) w = .ok true w := by
  have h2 := eq_yes h w
  rwa [lo_none, hi_none] at h2

structure Env3 (w wk : World) (b : Nat) (x y z : Nat → Bool) : Prop where
  foot : Foot (fun _ => False) w wk
  x : Box wk b x
  y : Box wk (b + 1) y
  z : Box wk (b + 2) z
  no : At wk (b + 3) 28 #[.int .u64 0, .int .u64 0]
  tab : Tab wk
theorem Env3.step {w wk wl : World} {b : Nat} {x y z : Nat → Bool} (h : Env3 w wk b x y z) (hF : Foot (fun _ => False) wk wl) : Env3 w wl b x y z :=
  ⟨h.foot.trans hF fun _ _ h => h, h.x.foot hF, h.y.foot hF, h.z.foot hF, h.no.keep hF id, h.tab.foot hF id⟩
theorem Env3.n0 {w wk : World} {b : Nat} {x y z : Nat → Bool} (h : Env3 w wk b x y z) : wk.cell? ⟨b + 3, 0, none⟩ = some (.int .u64 0) := h.no.cell 0
theorem Env3.n1 {w wk : World} {b : Nat} {x y z : Nat → Bool} (h : Env3 w wk b x y z) : wk.cell? ⟨b + 3, 1, none⟩ = some (.int .u64 0) := h.no.cell 1
theorem of_nums (x : Nat → Bool) : Agree (ofP (nums (els x))) x := by
  intro j hj
  simp only [ofP]
  rw [Bool.eq_iff_iff, List.contains_eq_mem, decide_eq_true_eq, cast_mem]
  exact ⟨fun h => h.2, fun h => ⟨hj, h⟩⟩
theorem nums_inj {x y : Nat → Bool} : nums (els x) = nums (els y) ↔ Agree x y := by
  constructor
  · intro h j hj
    have h1 := of_nums x j hj
    have h2 := of_nums y j hj
    rw [h] at h1
    exact h1.symm.trans h2
  · intro h
    rw [els_congr h]
theorem nums_fits (x : Nat → Bool) : ∀ z ∈ nums (els x), -9223372036854775808 ≤ z ∧ z ≤ 9223372036854775807 := by
  intro z hz
  obtain ⟨j, hj, rfl⟩ := mem_nums.1 hz
  have := (mem_els.1 hj).1
  omega

/-- For a region that draws its order: what is held of each world. -/
theorem Env.hold {w wk : World} {bx by_ : Nat} {x y : Nat → Bool} (h : Hid (Env w wk bx by_ x y)) :
    wk.cell? ⟨bx, 0, none⟩ = some (.int .u64 (lo x : Nat)) ∧ wk.cell? ⟨bx, 1, none⟩ = some (.int .u64 (hi x : Nat)) ∧ wk.cell? ⟨by_, 0, none⟩ = some (.int .u64 (lo y : Nat)) ∧ wk.cell? ⟨by_, 1, none⟩ = some (.int .u64 (hi y : Nat)) ∧
      Hid (Env w wk bx by_ x y) := ⟨h.out.x.c0, h.out.x.c1, h.out.y.c0, h.out.y.c1, h⟩
theorem Env.hstep {w wk wl : World} {bx by_ : Nat} {x y : Nat → Bool} (hF : Foot (fun _ => False) wk wl) (h : Hid (Env w wk bx by_ x y)) : Hid (Env w wl bx by_ x y) := Lib.hid (h.out.step hF)
theorem Env.drew {w wk : World} {bx by_ : Nat} {x y : Nat → Bool} (h : Hid (Env w wk bx by_ x y)) : Hid (Env w wk.drew bx by_ x y) := Env.hstep ((Foot.refl _ wk).drew) h
theorem Env3.hold {w wk : World} {b : Nat} {x y z : Nat → Bool} (h : Hid (Env3 w wk b x y z)) :
    wk.cell? ⟨b, 0, none⟩ = some (.int .u64 (lo x : Nat)) ∧ wk.cell? ⟨b, 1, none⟩ = some (.int .u64 (hi x : Nat)) ∧ wk.cell? ⟨b + 1, 0, none⟩ = some (.int .u64 (lo y : Nat)) ∧ wk.cell? ⟨b + 1, 1, none⟩ = some (.int .u64 (hi y : Nat)) ∧
      wk.cell? ⟨b + 2, 0, none⟩ = some (.int .u64 (lo z : Nat)) ∧ wk.cell? ⟨b + 2, 1, none⟩ = some (.int .u64 (hi z : Nat)) ∧ wk.cell? ⟨b + 3, 0, none⟩ = some (.int .u64 0) ∧ wk.cell? ⟨b + 3, 1, none⟩ = some (.int .u64 0) ∧
      Hid (Env3 w wk b x y z) := ⟨h.out.x.c0, h.out.x.c1, h.out.y.c0, h.out.y.c1, h.out.z.c0, h.out.z.c1, h.out.n0, h.out.n1, h⟩
theorem Env3.hstep {w wk wl : World} {b : Nat} {x y z : Nat → Bool} (hF : Foot (fun _ => False) wk wl) (h : Hid (Env3 w wk b x y z)) : Hid (Env3 w wl b x y z) := Lib.hid (h.out.step hF)
theorem Env3.drew {w wk : World} {b : Nat} {x y z : Nat → Bool} (h : Hid (Env3 w wk b x y z)) : Hid (Env3 w wk.drew b x y z) := Env3.hstep ((Foot.refl _ wk).drew) h
end Go.Proofs.YtkoedgmfjpcocaaDoor.Sets
