/- A range over the iterator of a set: one rule for whoever loops over it. -/
import Derived.Test.YtkoedgmfjpcocaaDoorIter
namespace Go.Proofs.YtkoedgmfjpcocaaDoor.Sets
open Go.RowKit Go.Shelf Mem Words
set_option linter.unusedVariables false
attribute [local go_sem] Oper.semAt_some

/-- A block that the loop's own steps may turn: a set, or no cells at all. -/
def Loose (w : World) (k : Nat) : Prop := SetB w k ∨ ∃ o, w.heap[k]? = some o ∧ o.isCells = false
/-- What may happen beside the body: new blocks, and loose ones from B on. -/
def Still (B : Nat) (w w' : World) : Prop := Foot (fun k => B ≤ k ∧ Loose w k) w w'
/-- What the body keeps. -/
def Kept (B : Nat) (w w' : World) : Prop := Kp w w' ∧ ∀ k o, B ≤ k → w.heap[k]? = some o → o.isCells = false → w'.heap[k]? = some o
def bodyEnd (B : Nat) (I : List Nat → World → Prop) (Ix : Nat → List Nat → World → Prop) (xs : List Nat) (w : World) : Exit → Act → World → Prop
  | .normal, _, w' => Kept B w w' ∧ I xs w'
  | .exit id, _, w' => Kept B w w' ∧ Ix id xs w'
  | _, _, _ => False

theorem SetB.cells {w : World} {k : Nat} (h : SetB w k) : ∃ o, w.heap[k]? = some o ∧ o.isCells = true := by
  obtain ⟨cs, h⟩ := h
  exact ⟨_, h, rfl⟩
theorem keep_obj {B k : Nat} {w w' : World} {o : Obj} (h : Tame B w w') (ho : w.heap[k]? = some o) (hc : o.isCells = false) : w'.heap[k]? = some o := by
  refine (h.block k (Array.getElem?_eq_some_iff.1 ho).1 ?_).trans ho
  rintro ⟨_, hs⟩
  obtain ⟨o', h1, h2⟩ := hs.cells
  rw [ho] at h1
  cases h1
  rw [hc] at h2
  cases h2
theorem Still.tame {B B' : Nat} {w w' : World} (h : Tame B w w') (hB : B' ≤ B) : Still B' w w' := h.mono fun k _ ⟨h1, h2⟩ => ⟨by omega, .inl h2⟩
theorem Still.put {B l : Nat} {w : World} {o : Obj} (o' : Obj) (hB : B ≤ l) (hl : w.heap[l]? = some o) (ho : o.isCells = false) : Still B w (w.putObj l o') :=
  ⟨rfl, rfl, rfl, by simp, fun k _ hn => World.putObj_heap_other (fun e => hn (by subst e; exact ⟨hB, .inr ⟨o, hl, ho⟩⟩))⟩
theorem Still.alloc (B : Nat) (w : World) (o : Obj) : Still B w (w.alloc o) := ((Foot.refl (fun _ => False) w).alloc o).mono fun _ _ h => h.elim
theorem Kp.put {l : Nat} {w : World} {o : Obj} (o' : Obj) (hl : w.heap[l]? = some o) (ho : o.isCells = false) (h0 : l ≠ 0) : Kp w (w.putObj l o') :=
  ⟨by simp, fun k cs h => (World.putObj_heap_other (fun e => by subst e; rw [show w.heap[k]? = some (.cells cs 28 (0, 0)) from h] at hl; cases hl; cases ho)).trans h, World.putObj_heap_other (fun e => h0 e.symm)⟩

theorem range_all {n : Nat} (hn : 3 ≤ n) {g : Operand} {ps : Array Tmp} {assign body : Code} {Q : Exit → Act → World → Prop} {a : Act} {w : World} {Bx : Nat} (hg : a.eval g = .func (.func 29) #[] #[.pointer (some ⟨Bx, 0, none⟩)])
    (hps : ps.size = 1) (p : Nat → Bool) (hbox : At w Bx 28 #[.int .u64 (lo p : Nat), .int .u64 (hi p : Nat)]) (hT : Tab w)
    (I : List Nat → World → Prop) (Ix : Nat → List Nat → World → Prop) (hI : ∀ s W W', I s W → Still w.heap.size W W' → I s W') (hIx : ∀ c s W W', Ix c s W → Still w.heap.size W W' → Ix c s W') (h0 : I [] w) (a₁ : Nat → Act)
    (hassign : ∀ (l x : Nat) (W : World) (K : Act → World → Prop), K (a₁ x) W →
      assign.wpIn (Fence.wide.inRound l) (n - 1 - 1) Tryd.prog (Exit.then K (fun _ _ _ => False)) { tmps := (ps.zip #[.int .i64 (x : Nat)]).foldl (fun t (q, v) => t.setIfInBounds q v) a.tmps, defers := [] } W)
    (hbody : ∀ (l : Nat) (pre : List Nat) (x : Nat) (W : World), I pre W → (pre ++ [x]) <+: els p → body.wpIn (Fence.wide.inRound l) (n - 1 - 1) Tryd.prog (bodyEnd w.heap.size I Ix (pre ++ [x]) W) (a₁ x) W)
    (hdone : ∀ (D : Nat) (W : World), w.heap.size ≤ D → I (els p) W → W.heap[D]? = some (.deferred (some [])) → Q .normal { a with defers := { target := .collected D, args := #[] } :: a.defers } W)
    (hstop : ∀ (D id : Nat) (pre : List Nat) (x : Nat) (W : World), w.heap.size ≤ D → (pre ++ [x]) <+: els p → Ix id (pre ++ [x]) W → W.heap[D]? = some (.deferred (some [])) → (Code.exit id).wpIn Fence.wide n Tryd.prog Q { a with defers := { target := .collected D, args := #[] } :: a.defers } W) :
    (Code.rangeFunc g ps assign body).wpIn Fence.wide n Tryd.prog Q a w := by
  refine wpIn_rangeFunc fun fn _ => ?_
  rw [show Fence.wide.round = none from rfl]
  generalize hB : w.heap.size = B at *
  have hB0 : 0 < B := by rw [← hB]; exact hT.1
  -- the loop's record, whatever its state
  obtain ⟨rec, hrec⟩ : ∃ rec : LoopState → Option Code → Loop, rec = fun st pe => { state := st, pending := pe, fn, tmps := a.tmps, params := ps, assign, body, defers := B } := ⟨_, rfl⟩
  have hen := run_enterLoop_outer (P := Tryd.prog) (w := w) fn a.tmps ps assign body
  rw [hB] at hen
  generalize hw1 : (w.alloc (.deferred (some []))).alloc (.loop { state := .ready, pending := none, fn, tmps := a.tmps, params := ps, assign, body, defers := B }) = w1 at hen
  have hL1 : w1.heap[B + 1]? = some (.loop (rec .ready none)) := by
    rw [← hw1, hrec]
    have := World.alloc_heap_new (w.alloc (.deferred (some []))) (.loop { state := .ready, pending := none, fn, tmps := a.tmps, params := ps, assign, body, defers := B })
    rwa [World.size_alloc, hB] at this
  have hK1 : w1.heap[B]? = some (.deferred (some [])) := by
    rw [← hw1, ← hB]
    exact (Below.heap_alloc _ _ _ (by simp)).trans (World.alloc_heap_new w _)
  have hS1 : Foot (fun _ => False) w w1 := by rw [← hw1]; exact ((Foot.refl _ w).alloc _).alloc _
  have hI1 : I [] w1 := hI _ _ _ h0 (hS1.mono fun _ _ h => h.elim)
  have hsz : w1.heap.size = B + 2 := by rw [← hw1]; simp [hB]
  refine ⟨B + 1, _, w1, { target := .fn (.func 29) #[.pointer (some ⟨Bx, 0, none⟩)], args := #[.func (.yield (B + 1)) #[] #[]] }, w1, 29,
    #[.func (.yield (B + 1)) #[] #[], .pointer (some ⟨Bx, 0, none⟩)], w1, hen, ?_, fun f' _ => trivial, ?_, fun _ => by omega, ?_⟩
  · simp only [resolve, hg]
    simp [go_sem]
  · have eg := enters_of Tryd.func29 (by kernel_rfl) rfl
    simp [invoke, go_sem, eg _ _]
  refine (all_in (n - 1) (by omega) (B + 1) Bx (B + 2) p
    (fun pre W => I pre W ∧ W.heap[B + 1]? = some (.loop (rec .ready none)) ∧ W.heap[B]? = some (.deferred (some [])))
    (fun pre W => ∃ id, Ix id pre W ∧ W.heap[B + 1]? = some (.loop (rec .done (some (.exit id)))) ∧ W.heap[B]? = some (.deferred (some [])))
    (fun s W W' ⟨h1, h2, h3⟩ ht => ⟨hI _ _ _ h1 (Still.tame ht (by omega)), keep_obj ht h2 rfl, keep_obj ht h3 rfl⟩) ?_ w1 (by omega) (hbox.keep hS1 id) (hT.foot hS1 id) ⟨hI1, hL1, hK1⟩).mono ?_
  · -- one round
    rintro pre x W ⟨hi, hl, hk⟩ hpre
    have hlt : B + 1 < W.heap.size := (Array.getElem?_eq_some_iff.1 hl).1
    have hy := run_yield (P := Tryd.prog) (args := #[.int .i64 (x : Nat)]) hl (by rw [hrec]; exact hps.symm)
    rw [hrec] at hy
    refine ⟨fn, _, assign, body, hy, roundIn_of_wpIn trivial (hassign _ x W _ ⟨_, run_beginRound hl (by rw [hrec]), ?_⟩)⟩
    obtain ⟨busy, hbusy⟩ : ∃ busy : Loop, busy = { rec .ready none with state := .busy } := ⟨_, rfl⟩
    rw [← hbusy]
    have hl2 : (W.putObj (B + 1) (.loop busy)).heap[B + 1]? = some (.loop busy) := World.putObj_heap_same hlt
    have hk2 : (W.putObj (B + 1) (.loop busy)).heap[B]? = some (.deferred (some [])) := (World.putObj_heap_other (by omega)).trans hk
    have kp1 : Kp W (W.putObj (B + 1) (.loop busy)) := Kp.put _ hl rfl (by omega)
    refine wpIn_mono (hbody _ pre x _ (hI _ _ _ hi (Still.put _ (by omega) hl rfl)) hpre) ?_
    have fin : ∀ (jump : Option Code) (W3 : World), Kept B (W.putObj (B + 1) (.loop busy)) W3 → ∃ o : Loop, W3.heap[B + 1]? = some (.loop o) ∧
        (Instr.endRound (B + 1) jump).run Tryd.prog W3 = .ok (.bool jump.isNone) (W3.putObj (B + 1) (.loop (rec (if jump.isNone then .ready else .done) jump))) ∧
        (W3.putObj (B + 1) (.loop (rec (if jump.isNone then .ready else .done) jump))).heap[B + 1]? = some (.loop (rec (if jump.isNone then .ready else .done) jump)) ∧
        (W3.putObj (B + 1) (.loop (rec (if jump.isNone then .ready else .done) jump))).heap[B]? = some (.deferred (some [])) := fun jump W3 hk3 => by
      have hl3 := hk3.2 _ _ (by omega) hl2 rfl
      have he := run_endRound (P := Tryd.prog) jump hl3
      rw [hbusy, hrec] at he
      refine ⟨_, hl3, by rw [hrec]; exact he, World.putObj_heap_same (Array.getElem?_eq_some_iff.1 hl3).1, (World.putObj_heap_other (by omega)).trans (hk3.2 _ _ (Nat.le_refl _) hk2 rfl)⟩
    rintro e a3 W3 hp
    cases e with
    | normal =>
      obtain ⟨hk3, hi3⟩ := hp
      obtain ⟨o, hl3, hr, hl4, hk4⟩ := fin none W3 hk3
      exact ⟨_, _, hr, .inl ⟨rfl, ⟨hI _ _ _ hi3 (Still.put _ (by omega) hl3 rfl), hl4, hk4⟩, (kp1.trans hk3.1).trans (Kp.put _ hl3 rfl (by omega))⟩⟩
    | exit id =>
      obtain ⟨hk3, hi3⟩ := hp
      obtain ⟨o, hl3, hr, hl4, hk4⟩ := fin (some (.exit id)) W3 hk3
      exact ⟨_, _, hr, .inr ⟨rfl, id, hIx _ _ _ _ hi3 (Still.put _ (by omega) hl3 rfl), hl4, hk4⟩⟩
    | ret => exact hp.elim
    | goto t => exact hp.elim
    | panic ch => exact hp.elim
    | outgrown => exact hp.elim
  · -- behind the iterator
    rintro e W2 ⟨⟨v, rfl⟩, (⟨hi, hl, hk⟩ | ⟨pre, x, hpre, id, hi, hl, hk⟩)⟩
    · refine ⟨none, _, ?_, hdone B _ (Nat.le_refl _) (hI _ _ _ hi (Still.put (.loop { rec .ready none with state := .exhausted }) (by omega) hl rfl)) ((World.putObj_heap_other (by omega)).trans hk)⟩
      have := run_endLoop (P := Tryd.prog) hl (by rw [hrec]; simp)
      rw [hrec] at this ⊢
      exact this
    · refine ⟨some (.exit id), _, ?_, hstop B id pre x _ (Nat.le_refl _) hpre (hIx _ _ _ _ hi (Still.put (.loop { rec .done (some (.exit id)) with state := .exhausted }) (by omega) hl rfl)) ((World.putObj_heap_other (by omega)).trans hk)⟩
      have := run_endLoop (P := Tryd.prog) hl (by rw [hrec]; simp)
      rw [hrec] at this ⊢
      exact this
end Go.Proofs.YtkoedgmfjpcocaaDoor.Sets
