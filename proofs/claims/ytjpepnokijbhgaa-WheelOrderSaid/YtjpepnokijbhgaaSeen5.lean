/- The map of the timers that were armed (law 5's WheelOrder); rows of small numbers that came in. -/
import Derived.Test.YtjpepnokijbhgaaFires5
import Derived.Test.YtjpepnokijbhgaaOpen5
import Derived.Test.YtjpepnokijbhgaaRef5
namespace Go.Proofs.Ytjpepnokijbhgaa.Whl
open Go.RowKit Mem MapK Tim MapF
set_option linter.unusedVariables false

/-- A row of numbers of 16 bits that came in. -/
structure Row16 (w : World) (a : Option Addr) (len cap : Nat) (z : Nat → Int) : Prop where
  le : len ≤ cap
  max : cap ≤ maxLen
  cells : 0 < len → ∃ b off, a = some ⟨b, off, none⟩ ∧ ∀ i, i < len → w.cell? ⟨b, off + i, none⟩ = some (.int .u16 (z i)) ∧ (0 ≤ z i ∧ z i ≤ 65535)
section
open Go.ChangeShapes Go.WideShapes
variable {H : Type} {enc : TypeId × Value → H} {w : World}
theorem openRow16 {a : Option Addr} {len cap : Nat} {d : DataW H} {p : List MemPlace} (h : DataW.Trod enc Try.prog w 0 (fun _ => true) true 47 (.slice a len cap) d p) : ∃ z, Row16 w a len cap z := by
  have hc : Try.prog.cellsOf 49 = 1 := by kernel_rfl
  obtain ⟨h1, h2, h3⟩ := open_elems Try.underlying47 (by rw [hc]; decide) h
  by_cases hn : len = 0
  · exact ⟨fun _ => 0, h1, h2, fun h => absurd h (by omega)⟩
  · obtain ⟨b, off, rfl, hi⟩ := h3 (by omega)
    have : ∀ i, i < len → ∃ z : Int, w.cell? ⟨b, off + i, none⟩ = some (.int .u16 z) ∧ (0 ≤ z ∧ z ≤ 65535) := by
      intro i hil
      obtain ⟨cs, n, y, hl, hcell, ht⟩ := hi i (by omega)
      rw [hc] at hl hcell
      match cs, hl with
      | [v], _ =>
        obtain ⟨z, hv, _, hw⟩ := DataW.trod_int Try.underlying49 ht
        obtain rfl : v = .int .u16 z := by simpa using hv
        have h0 := hcell 0 (by omega)
        rw [Nat.mul_one, Nat.add_zero] at h0
        refine ⟨z, h0, ?_⟩
        simp [Lit.wf, IntKind.min, IntKind.max, IntKind.bits, IntKind.signed] at hw
        omega
    obtain ⟨z, hz⟩ := Go.Deep.choose_lt this
    exact ⟨z, h1, h2, fun _ => ⟨b, off, rfl, hz⟩⟩
end
theorem Row16.cell {w w1 : World} {a : Option Addr} {len cap : Nat} {z : Nat → Int} (h : Row16 w a len cap z) (hb : Below w.heap.size w w1) {j : Nat} (hj : j < len) :
    ∃ b off, a = some ⟨b, off, none⟩ ∧ w1.cell? ⟨b, off + j, none⟩ = some (.int .u16 (z j)) ∧ (0 ≤ z j ∧ z j ≤ 65535) := by
  obtain ⟨b, off, ha, hc⟩ := h.cells (by omega)
  obtain ⟨c0, hI⟩ := hc j hj
  exact ⟨b, off, ha, (hb.cell (p := ⟨b, _, none⟩) (World.block_lt_of_cell? w _ c0)).trans c0, hI⟩

/-- All with k ticks left. -/
def stand (k : Int) (T : List F) : TRows := T.map fun f => (f, k)
def marks (T : List F) : List (F × Bool) := T.map fun f => (f, true)
theorem stand_tick {k : Int} (T : List F) (h : k ≠ 1) : tickL (stand k T) = stand (k - 1) T := by
  induction T with
  | nil => rfl
  | cons f r ih =>
    show tickL ((f, k) :: stand k r) = (f, k - 1) :: stand (k - 1) r
    rw [← ih]
    simp [tickL, h]
theorem stand_fired {k : Int} (T : List F) (h : k ≠ 1) : firedL (stand k T) = [] := by
  induction T with
  | nil => rfl
  | cons f r ih =>
    show firedL ((f, k) :: stand k r) = []
    rw [← ih]
    simp [firedL, h]
theorem stand_last (T : List F) : firedL (stand 1 T) = T ∧ tickL (stand 1 T) = [] := by
  induction T with
  | nil => exact ⟨rfl, rfl⟩
  | cons f r ih =>
    refine ⟨?_, ?_⟩
    · show firedL ((f, 1) :: stand 1 r) = f :: r
      conv => rhs; rw [← ih.1]
      simp [firedL]
    · show tickL ((f, 1) :: stand 1 r) = []
      rw [← ih.2]
      simp [tickL]
theorem stand_of {k : Int} : ∀ {L : TRows}, (∀ p ∈ L, p.2 = k) → L = stand k (L.map (·.1))
  | [], _ => rfl
  | (f, y) :: r, h => by
    obtain rfl : y = k := h (f, y) (by simp)
    show (f, y) :: r = (f, y) :: stand y (r.map (·.1))
    rw [← stand_of fun p hp => h p (by simp [hp])]
/-- Armed: who is there then. -/
def joins (f : F) (k : Int) (T : List F) : List F := (armL f k (stand k T)).map (·.1)
theorem joins_eq (f : F) (k : Int) (T : List F) : armL f k (stand k T) = stand k (joins f k T) := by
  refine stand_of fun p hp => ?_
  rcases List.mem_cons.1 ((ins_perm _ _).mem_iff.1 hp) with rfl | hp
  · rfl
  · obtain ⟨g, _, rfl⟩ := List.mem_map.1 (mem_out hp).1
    rfl
theorem joins_perm (f : F) (k : Int) (T : List F) : (joins f k T).Perm (f :: T.filter fun g => decide (g ≠ f)) := by
  have h := (ins_perm (f, k) (out (stand k T) f)).map (·.1)
  refine h.trans ?_
  have : (out (stand k T) f).map (·.1) = T.filter fun g => decide (g ≠ f) := by
    unfold out stand
    rw [List.filter_map, List.map_map]
    simp [Function.comp_def]
  rw [List.map_cons, this]
theorem marks_perm (f : F) (k : Int) (T : List F) : ((f, true) :: out (marks T) f).Perm (marks (joins f k T)) := by
  have : out (marks T) f = marks (T.filter fun g => decide (g ≠ f)) := by
    unfold out marks
    rw [List.filter_map]
    rfl
  rw [this]
  exact ((joins_perm f k T).map fun g => (g, true)).symm
theorem length_joins (f : F) (k : Int) (T : List F) : (joins f k T).length ≤ T.length + 1 := by
  rw [(joins_perm f k T).length_eq, List.length_cons]
  exact Nat.succ_le_succ (List.length_filter_le _ _)
theorem look_marks {T : List F} (hn : T.Nodup) {f : F} (h : f ∈ T) : MapK.look (marks T) f = some true :=
  look_some (by unfold marks; rw [List.map_map]; simpa [Function.comp_def] using hn) (List.mem_map.2 ⟨f, h, rfl⟩)

/-! ### the map of the marks -/
def SMap (w : World) (b : Nat) (T : List F) : Prop := MapV Try.prog 31 ekF Value.bool w (some b) (marks T)
section
variable {w w1 : World} {b : Nat} {T : List F} {S : Nat → Prop}
theorem SMap.keep (h : SMap w b T) (hf : Foot S w w1) (hs : ¬ S b) : SMap w1 b T := MapV.keep h hf fun j hj => by cases hj; exact hs
theorem SMap.ne {g : Nat} {t : TypeId} {cs : Array Value} (h : SMap w b T) (hg : At w g t cs) : b ≠ g := fun e => MapV.ne h hg (by rw [e])
theorem SMap.lt (h : SMap w b T) : b < w.heap.size := MapV.lt h
theorem zeroB (w : World) : (zeroValue 4).run Try.prog w = .ok (.bool false) w := by kernel_rfl
theorem look_yes {i t : Int} (h : SMap w b T) (hi : I64 i) (ht : I64 t) (hn : T.Nodup) (hm : (i, t) ∈ T) : (Instr.lookup 48 (.map (some b)) (.agg #[.int .i64 i, .int .i64 t]) false).run Try.prog w = .ok (.bool true) w := by
  obtain ⟨lx, hx⟩ := keyF (x := (i, t)) hi ht
  have h1 := run_look (x := (i, t)) (d := false) lawF injF Try.underlying48 (zeroB w) false h hx
  rw [look_marks hn hm] at h1
  exact h1
variable {o : Oper} {a : Act} {Q : Exit → Act → World → Prop} {ops : Array Oper} {rest : List Oper}
theorem wpList_lenB (hg : o.guard = none) (m : Operand) (hop : o.op = Op.call { callee := Callee.builtin Builtin.len, args := #[m], argTypes := #[48] }) (hm : a.eval m = .map (some b)) (h : SMap w b T) {n : Nat} (hn : T.length = n)
    (hK : wpList Try.prog ops Q rest (a.put o.dst (.int .i64 n)) w) : wpList Try.prog ops Q (o :: rest) a w := by
  refine wpList_plain hg fun K' hK' => ?_
  subst hn
  have hrun := MapK.run_len Try.underlying48 h o.type
  rw [show (marks T).length = T.length by simp [marks]] at hrun
  unfold Oper.wp
  simp [execOp, hop, resolve, invoke, builtin, hm, hrun, Result.andThen]
  exact hK' _ _ hK
theorem wpList_mark (hg : o.guard = none) (m x v : Operand) (hop : o.op = Op.mapUpdate 48 m x v) {i t : Int} (hi : I64 i) (ht : I64 t) (hm : a.eval m = .map (some b)) (h : SMap w b T) (hx : a.eval x = .agg #[.int .i64 i, .int .i64 t]) (hv : a.eval v = .bool true) (k : Int)
    (hK : ∀ w', SMap w' b (joins (i, t) k T) → Foot (fun j => j = b) w w' → w'.heap.size = w.heap.size → wpList Try.prog ops Q rest (a.put o.dst undef) w') : wpList Try.prog ops Q (o :: rest) a w := by
  refine wpList_plain hg fun K' hK' => ?_
  obtain ⟨lx, hkey⟩ := keyF (x := (i, t)) hi ht
  obtain ⟨w', hrun, r1, r2, r3⟩ := MapK.run_store (x := (i, t)) (y := true) lawF injF Try.underlying48 h hkey
  rw [show ekF (i, t) = .agg #[.int .i64 i, .int .i64 t] from rfl] at hrun
  unfold Oper.wp
  simp [execOp, hop, hm, hx, hv, hrun, Result.andThen]
  exact hK' _ _ (hK w' (MapV.perm r1 (marks_perm (i, t) k T)) r2 r3)
end
end Go.Proofs.Ytjpepnokijbhgaa.Whl
