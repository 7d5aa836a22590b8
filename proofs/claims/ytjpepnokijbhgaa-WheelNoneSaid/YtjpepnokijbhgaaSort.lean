/- slices.SortFunc over timers, by the program's own compare: the row that a slice holds rises behind it. -/
import Derived.Test.YtjpepnokijbhgaaChecked
import Derived.Test.YtjpepnokijbhgaaTim
import Derived.Shelf.SlSortCmp.NoneTotal
import Derived.Shelf.SlicesG.Cmp
import Derived.LoopTactic
import Derived.Deep.RegionHeld3
namespace Go.Proofs
open Go.Shelf Go.RowKit Go.Lib Go.Sort
set_option linter.unusedVariables false
def Try.sortFired_ren : Go.Shelf.Ren := ⟨fun | 6 => 25 | 15 => 28 | 14 => 27 | 28 => 39 | 29 => 40 | 20 => 31 | 21 => 32 | 22 => 33 | 23 => 34 | 24 => 35 | 25 => 36 | 26 => 37 | 27 => 38 | 46 => 42 | 47 => 43 | 48 => 44 | 49 => 45 | 50 => 46 | 57 => 47 | n => n, fun | 22 => 39 | 24 => 31 | 25 => 59 | 3 => 3 | 39 => 62 | 0 => 0 | 53 => 73 | 55 => 75 | 4 => 4 | 46 => 67 | 45 => 66 | 50 => 41 | 5 => 5 | 9 => 9 | 66 => 78 | 70 => 82 | 76 => 84 | 77 => 85 | n => n, fun | n => n⟩
theorem Try.sortFired : SlLaysF0.n6 Try.prog Try.sortFired_ren := {
  mixed := by kernel_rfl
  f6 := ⟨Try.f25.name, by decide, Try.func25.trans (congrArg some (by kernel_rfl))⟩
  f14 := ⟨Try.f27.name, by decide, Try.func27.trans (congrArg some (by kernel_rfl))⟩
  f15 := Try.func28.trans (congrArg some (by kernel_rfl))
  f20 := ⟨Try.f31.name, by decide, Try.func31.trans (congrArg some (by kernel_rfl))⟩
  f21 := ⟨Try.f32.name, by decide, Try.func32.trans (congrArg some (by kernel_rfl))⟩
  f22 := ⟨Try.f33.name, by decide, Try.func33.trans (congrArg some (by kernel_rfl))⟩
  f23 := ⟨Try.f34.name, by decide, Try.func34.trans (congrArg some (by kernel_rfl))⟩
  f24 := ⟨Try.f35.name, by decide, Try.func35.trans (congrArg some (by kernel_rfl))⟩
  f25 := ⟨Try.f36.name, by decide, Try.func36.trans (congrArg some (by kernel_rfl))⟩
  f26 := ⟨Try.f37.name, by decide, Try.func37.trans (congrArg some (by kernel_rfl))⟩
  f27 := ⟨Try.f38.name, by decide, Try.func38.trans (congrArg some (by kernel_rfl))⟩
  f28 := Try.func39.trans (congrArg some (by kernel_rfl))
  f29 := Try.func40.trans (congrArg some (by kernel_rfl))
  f46 := ⟨Try.f42.name, by decide, Try.func42.trans (congrArg some (by kernel_rfl))⟩
  f47 := Try.func43.trans (congrArg some (by kernel_rfl))
  f48 := Try.func44.trans (congrArg some (by kernel_rfl))
  f49 := ⟨Try.f45.name, by decide, Try.func45.trans (congrArg some (by kernel_rfl))⟩
  f50 := ⟨Try.f46.name, by decide, Try.func46.trans (congrArg some (by kernel_rfl))⟩
  f57 := ⟨Try.f47.name, by decide, Try.func47.trans (congrArg some (by kernel_rfl))⟩
  t0 := Try.underlying0
  a0 := Try.isAgg0
  z0 := Try.sizeOf0
  v0 := Try.zeroValue0
  t3 := Try.underlying3
  a3 := Try.isAgg3
  z3 := Try.sizeOf3
  v3 := Try.zeroValue3
  t4 := Try.underlying4
  a4 := Try.isAgg4
  z4 := Try.sizeOf4
  v4 := Try.zeroValue4
  t5 := Try.underlying5
  a5 := Try.isAgg5
  z5 := Try.sizeOf5
  v5 := Try.zeroValue5
  t9 := Try.underlying9
  a9 := Try.isAgg9
  z9 := Try.sizeOf9
  v9 := Try.zeroValue9
  t22 := Try.underlying39
  a22 := Try.isAgg39
  z22 := Try.sizeOf39
  v22 := Try.zeroValue39
  t25 := Try.underlying59
  a25 := Try.isAgg59
  z25 := Try.sizeOf59
  v25 := Try.zeroValue59
  t39 := Try.underlying62
  a39 := Try.isAgg62
  z39 := Try.sizeOf62
  v39 := Try.zeroValue62
  t45 := Try.underlying66
  a45 := Try.isAgg66
  z45 := Try.sizeOf66
  v45 := Try.zeroValue66
  t46 := Try.underlying67
  a46 := Try.isAgg67
  z46 := Try.sizeOf67
  v46 := Try.zeroValue67
  t50 := Try.underlying41
  a50 := Try.isAgg41
  z50 := Try.sizeOf41
  v50 := Try.zeroValue41
  t53 := Try.underlying73
  a53 := Try.isAgg73
  z53 := Try.sizeOf73
  v53 := Try.zeroValue73
  t55 := Try.underlying75
  a55 := Try.isAgg75
  z55 := Try.sizeOf75
  v55 := Try.zeroValue75
  t66 := Try.underlying78
  a66 := Try.isAgg78
  z66 := Try.sizeOf78
  v66 := Try.zeroValue78
  t70 := Try.underlying82
  a70 := Try.isAgg82
  z70 := Try.sizeOf82
  v70 := Try.zeroValue82
  t76 := Try.underlying84
  a76 := Try.isAgg84
  z76 := Try.sizeOf84
  v76 := Try.zeroValue84
  t77 := Try.underlying85
  a77 := Try.isAgg85
  z77 := Try.sizeOf85
  v77 := Try.zeroValue85 }
def Try.cmpInt_ren : Go.Shelf.Ren := ⟨fun | 5 => 30 | 7 => 41 | n => n, fun | 22 => 3 | 3 => 3 | 4 => 4 | n => n, fun | n => n⟩
theorem Try.cmpInt : SlLaysC2.n5 Try.prog Try.cmpInt_ren := {
  mixed := by kernel_rfl
  f5 := ⟨Try.f30.name, by decide, Try.func30.trans (congrArg some (by kernel_rfl))⟩
  f7 := ⟨Try.f41.name, by decide, Try.func41.trans (congrArg some (by kernel_rfl))⟩
  t3 := Try.underlying3
  a3 := Try.isAgg3
  z3 := Try.sizeOf3
  v3 := Try.zeroValue3
  t4 := Try.underlying4
  a4 := Try.isAgg4
  z4 := Try.sizeOf4
  v4 := Try.zeroValue4
  t22 := Try.underlying3
  a22 := Try.isAgg3
  z22 := Try.sizeOf3
  v22 := Try.zeroValue3 }
end Go.Proofs
namespace Go.Proofs.Ytjpepnokijbhgaa.Srt
open Go.Shelf Go.RowKit Go.Lib Go.Sort Mem Tim
set_option linter.unusedVariables false
set_option linter.unusedSectionVars false

/-- What cmp.Or answers of two. -/
def or2 (a b : Int) : Int := if a ≠ 0 then a else b
def cf (x y : F) : Int := or2 (Lib.compareInt x.1 y.1) (Lib.compareInt x.2 y.2)
def encF (x : F) : List Value := [.int .i64 x.1, .int .i64 x.2]

theorem Or2 (g : Nat) (a b : Int) (w : World) (h0 : w.cell? ⟨g, 0, none⟩ = some (.int .i64 a)) (h1 : w.cell? ⟨g, 1, none⟩ = some (.int .i64 b)) :
    Calls Try.prog 29 #[.slice (some ⟨g, 0, none⟩) 2 2] w fun e w' => e = .returned (.int .i64 (or2 a b)) ∧ w' = w := by
  by_cases ha : a = 0
  · subst ha
    rw [show or2 0 b = b from rfl]
    by_cases hb : b = 0
    · subst hb
      go_enter Try.func29, Try.ntmps29
      go_wp2
      refine wp_loop_rounds 3 ?_
      rw [rounds_succ]; go_wp2
      rw [rounds_succ]; go_wp2
      rw [rounds_succ]; go_wp2
      go_ret
      exact ⟨rfl, rfl⟩
    · have hb1 : (b != 0) = true := by simpa using hb
      go_enter Try.func29, Try.ntmps29
      go_wp2
      refine wp_loop_rounds 2 ?_
      rw [rounds_succ]; go_wp2
      rw [rounds_succ]; go_wp2
      go_ret
      exact ⟨rfl, rfl⟩
  · have ha1 : (a != 0) = true := by simpa using ha
    rw [show or2 a b = a from if_pos ha]
    go_enter Try.func29, Try.ntmps29
    go_wp2
    refine wp_loop_rounds 1 ?_
    rw [rounds_succ]; go_wp2
    go_ret
    exact ⟨rfl, rfl⟩

theorem newCell0 (w : World) (a b : Value) (t : TypeId) (g : Nat) (hg : g = w.heap.size) : (w.alloc (.cells #[a, b] t)).cell? ⟨g, 0, none⟩ = some a := by subst hg; exact (Mem.At.new w t #[a, b]).cell 0
theorem newCell1 (w : World) (a b : Value) (t : TypeId) (g : Nat) (hg : g = w.heap.size) : (w.alloc (.cells #[a, b] t)).cell? ⟨g, 1, none⟩ = some b := by subst hg; exact (Mem.At.new w t #[a, b]).cell 1

set_option maxHeartbeats 1000000 in
/-- The program's compare: two blocks for what came in, one for what is handed to cmp.Or. -/
theorem compare (x y : F) (W : World) : Calls Try.prog 26 #[.agg #[.int .i64 x.1, .int .i64 x.2], .agg #[.int .i64 y.1, .int .i64 y.2]] W fun e w' => e = .returned (.int .i64 (cf x y)) ∧ ∃ q os', w' = grow (W.drewN q) os' := by
  obtain ⟨x1, x2⟩ := x
  obtain ⟨y1, y2⟩ := y
  have h1 : ∀ W', Calls Try.prog 30 #[.int .i64 x1, .int .i64 y1] W' fun e w' => e = .returned (.int .i64 (Lib.compareInt x1 y1)) ∧ w' = W' := fun W' => AnyG.cmp_Compare_int Try.cmpInt x1 y1 W'
  have h2 : ∀ W', Calls Try.prog 30 #[.int .i64 x2, .int .i64 y2] W' fun e w' => e = .returned (.int .i64 (Lib.compareInt x2 y2)) ∧ w' = W' := fun W' => AnyG.cmp_Compare_int Try.cmpInt x2 y2 W'
  show Calls _ _ _ _ fun e w' => e = .returned (.int .i64 (or2 (Lib.compareInt x1 y1) (Lib.compareInt x2 y2))) ∧ _
  generalize Lib.compareInt x1 y1 = r1 at h1 ⊢
  generalize Lib.compareInt x2 y2 = r2 at h2 ⊢
  have H1 := Lib.hid h1; have H2 := Lib.hid h2
  clear h1 h2
  generalize ho : or2 r1 r2 = ro
  have H3 : Hid (∀ (g : Nat) (w : World), w.cell? ⟨g, 0, none⟩ = some (.int .i64 r1) → w.cell? ⟨g, 1, none⟩ = some (.int .i64 r2) → Calls Try.prog 29 #[.slice (some ⟨g, 0, none⟩) 2 2] w fun e w' => e = .returned (.int .i64 ro) ∧ w' = w) := Lib.hid fun g w a b => by rw [← ho]; exact Or2 g r1 r2 w a b
  clear ho
  go_enter Try.func26, Try.ntmps26
  go_wp2_with fail
  have A0 := (At.new W 31 #[.int .i64 x1, .int .i64 x2]).alloc (.cells #[.int .i64 y1, .int .i64 y2] 31)
  have A1 := At.new (W.alloc (.cells #[.int .i64 x1, .int .i64 x2] 31)) 31 #[.int .i64 y1, .int .i64 y2]
  rw [World.size_alloc] at A1
  have c0 := A0.cell 0
  have c1 := A0.cell 1
  have d0 := A1.cell 0
  have d1 := A1.cell 1
  clear A0 A1
  go_region_held3 (fun w' => w'.cell? ⟨W.heap.size, 0, none⟩ = some (.int .i64 x1) ∧ w'.cell? ⟨W.heap.size, 1, none⟩ = some (.int .i64 x2) ∧ w'.cell? ⟨W.heap.size + 1, 0, none⟩ = some (.int .i64 y1) ∧ w'.cell? ⟨W.heap.size + 1, 1, none⟩ = some (.int .i64 y2))
    (first | go_keep)
    (first
      | (go_at_call_of 30 (Value.int .i64 x1); (with_reducible refine (H1.out _).mono ?_); rintro e w2 ⟨rfl, rfl⟩)
      | (go_at_call_of 30 (Value.int .i64 x2); (with_reducible refine (H2.out _).mono ?_); rintro e w2 ⟨rfl, rfl⟩)
      | (go_at_call 29; (with_reducible refine (H3.out _ _ (by simp; exact newCell0 _ _ _ _ _ (by simp)) (by simp; exact newCell1 _ _ _ _ _ (by simp))).mono ?_); rintro e w2 ⟨rfl, rfl⟩))
  go_wp2_with fail
  go_ret
  exact ⟨rfl, 1, #[.cells #[.int .i64 x1, .int .i64 x2] 31, .cells #[.int .i64 y1, .int .i64 y2] 31, .cells #[.int .i64 r1, .int .i64 r2] 3], by rw [alloc_eq_grow, alloc_eq_grow, alloc_eq_grow, grow_grow, grow_grow]; rfl⟩

theorem cf_lt (x y : F) : cf x y < 0 ↔ lt x y := by
  obtain ⟨x1, x2⟩ := x
  obtain ⟨y1, y2⟩ := y
  show or2 (Lib.compareInt x1 y1) (Lib.compareInt x2 y2) < 0 ↔ _
  unfold or2 Lib.compareInt lt
  simp only
  rcases Int.lt_trichotomy x1 y1 with h | h | h <;> rcases Int.lt_trichotomy x2 y2 with h2 | h2 | h2 <;> (repeat' split) <;> omega
theorem ltOf_cf (x y : F) : ltOf cf x y = decide (lt x y) := by
  unfold ltOf
  exact decide_eq_decide.2 (cf_lt x y)
theorem swo : SWO (ltOf cf) where
  irrefl x := by rw [ltOf_cf]; exact decide_eq_false (lt_irrefl x)
  trans x y z h1 h2 := by rw [ltOf_cf] at *; exact decide_eq_true (lt_trans (of_decide_eq_true h1) (of_decide_eq_true h2))
  ntrans x y z h1 h2 := by
    rw [ltOf_cf] at *
    have h3 := of_decide_eq_false h1
    have h4 := of_decide_eq_false h2
    refine decide_eq_false fun h => ?_
    unfold lt at *
    omega
theorem lays (blk off size : Nat) (w : World) : CmpLays Try.prog 26 #[] encF 2 cf blk off size w := fun _ _ _ _ x y => compare x y _

theorem flatK_eq (l : List F) : flatK encF 2 l.toArray = (flat2 l).toArray := by
  apply Array.ext
  · simp [length_flat2]
  · intro t h1 h2
    have ht : t < l.length * 2 := by simpa using h1
    have hq : t / 2 < l.length := by omega
    have hget : l[t / 2]? = some (l[t / 2]) := List.getElem?_eq_getElem hq
    obtain ⟨g0, g1⟩ := flat2_get l (t / 2) _ hget
    have e1 : (flatK encF 2 l.toArray)[t] = (encF l[t / 2])[t % 2]! := by
      have := get_flatK encF 2 l.toArray t (by simpa using ht)
      rw [getElem!_pos _ t h1] at this
      rw [this]
      congr 1
      simp [hq]
    rw [e1]
    have e2 : (flat2 l)[t]? = some ((flat2 l).toArray[t]) := by rw [List.getElem_toArray, List.getElem?_eq_getElem]
    rcases Nat.mod_two_eq_zero_or_one t with h | h
    · rw [show t / 2 * 2 = t by omega] at g0
      rw [h]
      rw [e2] at g0
      exact (Option.some.inj g0).symm
    · rw [show t / 2 * 2 + 1 = t by omega] at g1
      rw [h]
      rw [e2] at g1
      exact (Option.some.inj g1).symm

theorem take_put {cur : Array Value} {off : Nat} {xs : List Value} (hfit : off + xs.length ≤ cur.size) : ((putCells id off xs.toArray cur).toList.drop off).take xs.length = xs := by
  apply List.ext_getElem?
  intro j
  by_cases hj : j < xs.length
  · rw [List.getElem?_take_of_lt hj, List.getElem?_drop, Array.getElem?_toList]
    simp [putCells, hj, show off + j < cur.size by omega]
  · rw [List.getElem?_take_eq_none (by omega), List.getElem?_eq_none (by omega)]

/-- slices.SortFunc over a slice of the call's own: behind it the slice holds the same timers, rising. -/
theorem SortFunc (v : Value) (l s : List F) (w : World) (h : Items w 31 2 v l.length (flat2 l)) (hp : l.Perm s) (hs : s.Pairwise lt) (hl : l.length < 4611686018427387904) :
    Calls Try.prog 25 #[v, .func (.func 26) #[] #[]] w fun e w' => e = .returned (.tuple #[]) ∧ Items w' 31 2 v s.length (flat2 s) ∧ Foot (fun k => v.ownBlock = some k) w w' := by
  have hlen := hp.length_eq
  by_cases h0 : l = []
  · subst h0
    obtain rfl : s = [] := List.nil_perm.1 hp
    obtain ⟨a, cap, rfl, _, _⟩ := h.shape
    refine (AnyF.slices_SortFunc_none { Try.sortFired with } a cap _ w).mono ?_
    rintro e w' ⟨rfl, rfl⟩
    exact ⟨rfl, h, Foot.refl _ _⟩
  · have hpos : 0 < l.length := List.length_pos_iff.2 h0
    obtain ⟨g, off, cap, cur, rfl, h1, h2, h3, h4, h5⟩ := h.open hpos
    have hml := Nat.mul_le_mul_right 2 h1
    have hH : HoldsK encF 2 w g off l.toArray := by
      unfold HoldsK
      rw [flatK_eq]
      intro j hj
      have hj' : j < l.length * 2 := by simpa [length_flat2] using hj
      refine ⟨?_, h3.free _⟩
      rw [h3.cell, ← Array.getElem?_toList, take_drop_get h5 hj']
      simp [show j < (flat2 l).length by rw [length_flat2]; exact hj']
    have eg : ∀ args w, (callFunc 26 args).run Try.prog w = .ok (.enter 26 args) w := enters_of Try.func26 (by kernel_rfl) rfl
    refine (AnyQ.slices_SortFunc (α := F) Try.sortFired 2 Try.isAgg31 Try.sizeOf31 encF (fun _ => rfl) (fun x v hv => by simp [encF] at hv; rcases hv with rfl | rfl <;> rfl) cf swo 26 #[] g off cap l.toArray w eg (lays g off _ w) hH h3.lt (by simpa using hl)).mono ?_
    rintro e w' ⟨rfl, d', n, os, hperm, hsort, rfl⟩
    have hT : ∀ x y, ltOf cf x y = false → ltOf cf y x = false → x = y := fun x y a b => by
      rw [ltOf_cf] at a b
      have a' := of_decide_eq_false a
      have b' := of_decide_eq_false b
      exact Decidable.byContradiction fun hne => b' (lt_total a' hne)
    have hd : d'.toList = s := by
      have e1 := sorted_unique_holds swo hT l.toArray d' hperm hsort
      have e2 := sorted_unique_holds swo hT l.toArray s.toArray ⟨by simpa using hlen.symm, fun i hi => by
          have hi' : l.length ≤ i := by simpa using hi
          rw [getElem!_neg _ i (by simp; omega), getElem!_neg _ i (by simp; omega)], by
          have e3 : s.toArray.extract 0 l.toArray.size = s.toArray := by simp [hlen]
          have e4 : l.toArray.extract 0 l.toArray.size = l.toArray := by simp
          rw [e3, e4]
          exact hp.symm⟩ (fun i j _ hij hj => by
          have hj' : j < s.length := by simp at hj; omega
          rw [getElem!_pos _ j (by simpa using hj'), getElem!_pos _ i (by simp; omega), ltOf_cf]
          exact decide_eq_false (lt_asymm (List.pairwise_iff_getElem.1 hs i j (by omega) hj' hij)))
      exact e1.trans e2.symm
    obtain rfl : d' = s.toArray := by rw [← hd]
    have hw : (grow (putRow id (Sort.ahead w n) g off (flat2 s).toArray) os) = sortWorldK encF 2 w g off n s.toArray os := by unfold sortWorldK putRowK; rw [flatK_eq]
    have hb : (grow (putRow id (Sort.ahead w n) g off (flat2 s).toArray) os).heap[g]? = some (.cells (putCells id off (flat2 s).toArray cur) 31 (0, 0)) := by
      have hg := h3.lt
      unfold Mem.At at h3
      rw [heap_grow_old _ _ (by simpa using hg)]
      simp [putRow, mapBlock, Sort.ahead, Array.getElem?_modify, h3, onCells]
    refine ⟨rfl, ⟨length_flat2 s, some ⟨g, off, none⟩, cap, by rw [hlen], by omega, h2, ?_, fun _ => ⟨g, off, _, rfl, by rw [← hw]; exact hb, by simpa [putCells] using h4, ?_⟩⟩, ?_⟩
    · intro x hx
      cases hx
      rw [← hw]
      exact (Array.getElem?_eq_some_iff.1 hb).1
    · have := take_put (cur := cur) (off := off) (xs := flat2 s) (by rw [length_flat2]; omega)
      rwa [length_flat2] at this
    · rw [← hw]
      refine ⟨rfl, rfl, rfl, by simp, fun k hk hne => ?_⟩
      have hgk : g ≠ k := fun e => hne (by rw [e]; rfl)
      rw [heap_grow_old _ _ (by simpa using hk)]
      simp [putRow, mapBlock, Sort.ahead, Array.getElem?_modify, hgk]
#print axioms SortFunc
end Go.Proofs.Ytjpepnokijbhgaa.Srt
