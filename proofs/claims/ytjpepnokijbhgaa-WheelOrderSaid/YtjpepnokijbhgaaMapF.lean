/- Maps keyed by a timer, at the operation, over the program: the key's law, the look-up as an equation, the store, the removal, the range and its rounds. -/
import Derived.Test.YtjpepnokijbhgaaChecked
import Derived.Test.YtjpepnokijbhgaaTim
import Derived.DeepKeys4
import Derived.KernelRfl
import Derived.ChangeKeysEq
import Derived.Laws.StructEq
namespace Go.Proofs.Ytjpepnokijbhgaa.MapF
open Go.RowKit Mem MapK Tim
open Go.Maps (Keyed)
set_option linter.unusedVariables false

theorem laidOut : laidOutB Try.prog = true := by kernel_rfl
theorem rowF : (31 : TypeId) < Try.prog.types.size := of_decide_eq_true (by kernel_rfl)
theorem wideF : (match Try.prog.underlying 31 with | some (.array _ _) | some (.struct _) => true | _ => false) = true := by kernel_rfl
theorem lawF : Keyed Try.prog 31 := Keyed.of_law (deep_law_laid laidOut (m := 2) (by omega) rowF (by kernel_rfl) wideF)
def ekF (x : F) : Value := .agg #[.int .i64 x.1, .int .i64 x.2]
theorem injF (a b : F) (h : ekF a = ekF b) : a = b := by
  obtain ⟨a1, a2⟩ := a
  obtain ⟨b1, b2⟩ := b
  simp [ekF] at h
  rw [h.1, h.2]
/-- A number of 64 bits. -/
def I64 (z : Int) : Prop := -9223372036854775808 ≤ z ∧ z ≤ 9223372036854775807
theorem I64.wf {z : Int} (h : I64 z) : (Lit.int .i64 z).wf = true := by
  unfold I64 at h
  simp [Lit.wf, IntKind.min, IntKind.max, IntKind.bits, IntKind.signed]
  omega
theorem keyF {x : F} (h1 : I64 x.1) (h2 : I64 x.2) : ∃ l, keyOf Try.prog 31 (ekF x) = some l := by
  have hk : Try.prog.keyType 31 = true := by kernel_rfl
  have hc : Try.prog.cellsOf 31 = 2 := by kernel_rfl
  have hi : Try.prog.cellsOf 3 = 1 := by kernel_rfl
  obtain ⟨n, hn⟩ : ∃ n, Try.prog.types.size + 1 = n + 2 := ⟨Try.prog.types.size - 1, by have : 1 ≤ Try.prog.types.size := Nat.le_of_lt (Nat.lt_of_le_of_lt (by decide : 1 ≤ (31 : Nat)) rowF); omega⟩
  unfold keyOf
  simp only [Try.underlying31, hk, Value.formed, ekF, hn]
  simp [hc, hi, Program.keyLits, Try.underlying31, Try.underlying3, Value.cells, h1.wf, h2.wf]

/-- The wheel's map; its range under way. -/
def WMap (w : World) (mv : Option Nat) (L : TRows) : Prop := MapV Try.prog 31 ekF (Value.int .i64) w mv L
def WGo (w : World) (mv : Option Nat) (r : Nat) (D T : TRows) : Prop := Going Try.prog 31 ekF (Value.int .i64) w mv r D T

section
variable {w w1 : World} {mv : Option Nat} {b r : Nat} {L D T : TRows} {S : Nat → Prop}
theorem WMap.keep (h : WMap w mv L) (hf : Foot S w w1) (hs : ∀ j, mv = some j → ¬ S j) : WMap w1 mv L := MapV.keep h hf hs
theorem WMap.perm (h : WMap w mv L) {L' : TRows} (hp : L.Perm L') : WMap w mv L' := MapV.perm h hp
theorem WMap.ne {g : Nat} {t : TypeId} {cs : Array Value} (h : WMap w mv L) (hg : At w g t cs) : mv ≠ some g := MapV.ne h hg
theorem WMap.lt (h : WMap w (some b) L) : b < w.heap.size := MapV.lt h
theorem WGo.keep (h : WGo w mv r D T) (hf : Foot S w w1) (hs : ∀ j, mv = some j → ¬ S j) (hr : ¬ S r) : WGo w1 mv r D T := Going.keep h hf hs hr
theorem WGo.map (h : WGo w mv r D T) : WMap w mv (D ++ T) := Going.map h
theorem WGo.lt (h : WGo w mv r D T) : r < w.heap.size := Going.lt h
theorem WGo.ne {g : Nat} {t : TypeId} {cs : Array Value} (h : WGo w mv r D T) (hg : At w g t cs) : r ≠ g := Going.ne h hg
theorem WGo.apart (h : WGo w mv r D T) : mv ≠ some r := Going.apart h

theorem zeroI (w : World) : (zeroValue 3).run Try.prog w = .ok (.int .i64 0) w := by kernel_rfl
/-- The look-up with 'ok'. -/
theorem look_eq {i t : Int} (h : WMap w mv L) (hi : I64 i) (ht : I64 t) : (Instr.lookup 53 (.map mv) (.agg #[.int .i64 i, .int .i64 t]) true).run Try.prog w = .ok (.tuple #[.int .i64 (leftN L (i, t)), .bool (leftB L (i, t))]) w := by
  obtain ⟨lx, hx⟩ := keyF (x := (i, t)) hi ht
  exact run_look (x := (i, t)) (d := (0 : Int)) lawF injF Try.underlying53 (zeroI w) true h hx
theorem len_eq (h : WMap w mv L) (ty : TypeId) : (Builtin.len_ #[53] ty #[.map mv]).run Try.prog w = .ok (.int .i64 L.length) w := run_len Try.underlying53 h ty

variable {o : Oper} {a : Act} {Q : Exit → Act → World → Prop} {ops : Array Oper} {rest : List Oper}
/-- 'len(m)'. -/
theorem wpList_lenF (hg : o.guard = none) (m : Operand) (hop : o.op = Op.call { callee := Callee.builtin Builtin.len, args := #[m], argTypes := #[53] }) (hm : a.eval m = .map mv) (h : WMap w mv L)
    (hK : wpList Try.prog ops Q rest (a.put o.dst (.int .i64 L.length)) w) : wpList Try.prog ops Q (o :: rest) a w := by
  refine wpList_plain hg fun K' hK' => ?_
  have hrun := len_eq h o.type
  unfold Oper.wp
  simp [execOp, hop, resolve, invoke, builtin, hm, hrun, Result.andThen]
  exact hK' _ _ hK
/-- 'm[k] = v'. -/
theorem wpList_storeF (hg : o.guard = none) (m x v : Operand) (hop : o.op = Op.mapUpdate 53 m x v) {i t n : Int} (hi : I64 i) (ht : I64 t) (hm : a.eval m = .map (some b)) (h : WMap w (some b) L) (hx : a.eval x = .agg #[.int .i64 i, .int .i64 t]) (hv : a.eval v = .int .i64 n)
    (hK : ∀ w', WMap w' (some b) (((i, t), n) :: out L (i, t)) → Foot (fun j => j = b) w w' → w'.heap.size = w.heap.size → wpList Try.prog ops Q rest (a.put o.dst undef) w') : wpList Try.prog ops Q (o :: rest) a w := by
  refine wpList_plain hg fun K' hK' => ?_
  obtain ⟨lx, hkey⟩ := keyF (x := (i, t)) hi ht
  obtain ⟨w', hrun, r1, r2, r3⟩ := MapK.run_store (x := (i, t)) (y := n) lawF injF Try.underlying53 h hkey
  rw [show ekF (i, t) = .agg #[.int .i64 i, .int .i64 t] from rfl] at hrun
  unfold Oper.wp
  simp [execOp, hop, hm, hx, hv, hrun, Result.andThen]
  exact hK' _ _ (hK w' r1 r2 r3)
/-- 'm[k] = v' in a round, at the key that has come. -/
theorem wpList_restoreF (hg : o.guard = none) (m x v : Operand) (hop : o.op = Op.mapUpdate 53 m x v) {i t n n0 : Int} (hi : I64 i) (ht : I64 t) (hm : a.eval m = .map (some b)) (h : WGo w (some b) r (((i, t), n0) :: D) T) (hx : a.eval x = .agg #[.int .i64 i, .int .i64 t]) (hv : a.eval v = .int .i64 n)
    (hK : ∀ w', WGo w' (some b) r (((i, t), n) :: D) T → Foot (fun j => j = b) w w' → w'.heap.size = w.heap.size → wpList Try.prog ops Q rest (a.put o.dst undef) w') : wpList Try.prog ops Q (o :: rest) a w := by
  refine wpList_plain hg fun K' hK' => ?_
  obtain ⟨lx, hkey⟩ := keyF (x := (i, t)) hi ht
  obtain ⟨w', hrun, r1, r2, r3⟩ := run_restore (x := (i, t)) (y := n) lawF injF Try.underlying53 h hkey
  rw [show ekF (i, t) = .agg #[.int .i64 i, .int .i64 t] from rfl] at hrun
  unfold Oper.wp
  simp [execOp, hop, hm, hx, hv, hrun, Result.andThen]
  exact hK' _ _ (hK w' r1 r2 r3)
/-- 'delete(m, k)'. -/
theorem wpList_dropF (hg : o.guard = none) (m x : Operand) (hop : o.op = Op.call { callee := Callee.builtin Builtin.delete, args := #[m, x], argTypes := #[53, 31] }) {i t : Int} (hi : I64 i) (ht : I64 t) (hm : a.eval m = .map mv) (h : WMap w mv L) (hx : a.eval x = .agg #[.int .i64 i, .int .i64 t])
    (hK : ∀ w', WMap w' mv (out L (i, t)) → Foot (fun j => mv = some j) w w' → w'.heap.size = w.heap.size → wpList Try.prog ops Q rest (a.put o.dst (.tuple #[])) w') : wpList Try.prog ops Q (o :: rest) a w := by
  refine wpList_plain hg fun K' hK' => ?_
  obtain ⟨lx, hkey⟩ := keyF (x := (i, t)) hi ht
  obtain ⟨w', hrun, r1, r2, r3⟩ := run_drop (x := (i, t)) lawF injF Try.underlying53 h hkey o.type
  rw [show ekF (i, t) = .agg #[.int .i64 i, .int .i64 t] from rfl] at hrun
  unfold Oper.wp
  simp [execOp, hop, resolve, invoke, builtin, hm, hx, hrun, Result.andThen]
  exact hK' _ _ (hK w' r1 r2 r3)
/-- 'delete(m, k)' in a round, of the key that has come. -/
theorem wpList_redropF (hg : o.guard = none) (m x : Operand) (hop : o.op = Op.call { callee := Callee.builtin Builtin.delete, args := #[m, x], argTypes := #[53, 31] }) {i t n0 : Int} (hi : I64 i) (ht : I64 t) (hm : a.eval m = .map (some b)) (h : WGo w (some b) r (((i, t), n0) :: D) T) (hx : a.eval x = .agg #[.int .i64 i, .int .i64 t])
    (hK : ∀ w', WGo w' (some b) r D T → Foot (fun j => j = b) w w' → w'.heap.size = w.heap.size → wpList Try.prog ops Q rest (a.put o.dst (.tuple #[])) w') : wpList Try.prog ops Q (o :: rest) a w := by
  refine wpList_plain hg fun K' hK' => ?_
  obtain ⟨lx, hkey⟩ := keyF (x := (i, t)) hi ht
  obtain ⟨w', hrun, r1, r2, r3⟩ := run_redrop (x := (i, t)) lawF injF Try.underlying53 h hkey o.type
  rw [show ekF (i, t) = .agg #[.int .i64 i, .int .i64 t] from rfl] at hrun
  unfold Oper.wp
  simp [execOp, hop, resolve, invoke, builtin, hm, hx, hrun, Result.andThen]
  exact hK' _ _ (hK w' r1 r2 r3)
/-- 'range m'. -/
theorem wpList_rangeF (hg : o.guard = none) (m : Operand) (hop : o.op = Op.range 53 m) (hm : a.eval m = .map mv) (h : WMap w mv L)
    (hK : ∀ w', WGo w' mv w.heap.size [] L → Foot (fun _ => False) w w' → w'.heap.size = w.heap.size + 1 → wpList Try.prog ops Q rest (a.put o.dst (.pointer (some ⟨w.heap.size, 0, none⟩))) w') : wpList Try.prog ops Q (o :: rest) a w := by
  refine wpList_plain hg fun K' hK' => ?_
  obtain ⟨w', hrun, r1, r2, r3⟩ := run_range Try.underlying53 h
  unfold Oper.wp
  simp [execOp, hop, hm, hrun, Result.andThen]
  exact hK' _ _ (hK w' r1 r2 r3)
/-- The step. -/
theorem wpList_nextF (hg : o.guard = none) (it : Operand) (hop : o.op = Op.next it false) (hit : a.eval it = .pointer (some ⟨r, 0, none⟩)) (h : WGo w mv r D T)
    (hDone : T = [] → wpList Try.prog ops Q rest (a.put o.dst (.tuple #[.bool false])) w)
    (hMore : ∀ (i t n : Int) (T' : TRows) (w' : World), T.Perm (((i, t), n) :: T') → WGo w' mv r (((i, t), n) :: D) T' → Foot (fun j => j = r) w w' → w'.heap.size = w.heap.size →
      (Instr.entry (.pointer (some ⟨r, 0, none⟩))).run Try.prog w' = .ok (.tuple #[.agg #[.int .i64 i, .int .i64 t], .int .i64 n]) w' → wpList Try.prog ops Q rest (a.put o.dst (.tuple #[.bool true, .agg #[.int .i64 i, .int .i64 t], .int .i64 n])) w') :
    wpList Try.prog ops Q (o :: rest) a w := by
  refine wpList_plain hg fun K' hK' => ?_
  unfold Oper.wp
  rcases run_next h o.type with ⟨h0, hrun⟩ | ⟨x, y, T', w', hp, hrun, r1, r2, r3, r4⟩
  · simp [execOp, hop, hit, hrun, Result.andThen]
    exact hK' _ _ (hDone h0)
  · obtain ⟨i, t⟩ := x
    rw [show ekF (i, t) = .agg #[.int .i64 i, .int .i64 t] from rfl] at hrun r4
    simp [execOp, hop, hit, hrun, Result.andThen]
    exact hK' _ _ (hMore i t y T' w' hp r1 r2 r3 r4)
end

section
variable {w w1 : World} {mv : Option Nat} {r : Nat} {L D T : TRows}
variable {o : Oper} {a : Act} {Q : Exit → Act → World → Prop} {ops : Array Oper} {rest : List Oper}
theorem WGo.some {x : F × Int} (h : WGo w mv r (x :: D) T) : ∃ b, mv = some b := by
  cases mv with
  | none => exact absurd h.2.1 (by simp)
  | some b => exact ⟨b, rfl⟩
theorem wpList_restoreM (hg : o.guard = none) (m x v : Operand) (hop : o.op = Op.mapUpdate 53 m x v) {i t n n0 : Int} (hi : I64 i) (ht : I64 t) (hm : a.eval m = .map mv) (h : WGo w mv r (((i, t), n0) :: D) T) (hx : a.eval x = .agg #[.int .i64 i, .int .i64 t]) (hv : a.eval v = .int .i64 n)
    (hK : ∀ w', WGo w' mv r (((i, t), n) :: D) T → Foot (fun j => mv = some j) w w' → w'.heap.size = w.heap.size → wpList Try.prog ops Q rest (a.put o.dst undef) w') : wpList Try.prog ops Q (o :: rest) a w := by
  obtain ⟨b, rfl⟩ := h.some
  exact wpList_restoreF hg m x v hop hi ht hm h hx hv fun w' h1 h2 h3 => hK w' h1 (h2.mono fun _ _ e => by rw [e]) h3
theorem wpList_redropM (hg : o.guard = none) (m x : Operand) (hop : o.op = Op.call { callee := Callee.builtin Builtin.delete, args := #[m, x], argTypes := #[53, 31] }) {i t n0 : Int} (hi : I64 i) (ht : I64 t) (hm : a.eval m = .map mv) (h : WGo w mv r (((i, t), n0) :: D) T) (hx : a.eval x = .agg #[.int .i64 i, .int .i64 t])
    (hK : ∀ w', WGo w' mv r D T → Foot (fun j => mv = some j) w w' → w'.heap.size = w.heap.size → wpList Try.prog ops Q rest (a.put o.dst (.tuple #[])) w') : wpList Try.prog ops Q (o :: rest) a w := by
  obtain ⟨b, rfl⟩ := h.some
  exact wpList_redropF hg m x hop hi ht hm h hx fun w' h1 h2 h3 => hK w' h1 (h2.mono fun _ _ e => by rw [e]) h3
end
/-- 'm == nil'. -/
theorem eq_nil1 (d : Nat) (mv : Option Nat) (w : World) : (Op.equalIn (d + 1) 53 (.map mv) (.map none)).run Try.prog w = .ok mv.isNone w := by
  cases mv <;> simp [Op.equalIn, run_underlying Try.underlying53]
theorem eq_nil (mv : Option Nat) (w : World) : (binOp BinOp.eql 53 (.map mv) (.map none)).run Try.prog w = .ok (.bool mv.isNone) w := by
  have h' : (Op.equal 53 (.map mv) (.map none)).run Try.prog w = .ok mv.isNone w := eq_nil1 9999 mv w
  simp [binOp, h', Result.andThen]
/-- Two timers compared. -/
theorem eqF1 (d : Nat) (a b : F) (w : World) : Sem.run Try.prog (Op.equalIn (d + 3) 31 (ekF a) (ekF b)) w = .ok (decide (a = b)) w := by
  have h1 : Try.prog.stoodInHeld 31 = false := by kernel_rfl
  have h2 : Try.prog.underlying 31 = some (.struct (Try.prog.fieldsOf 31)) := by kernel_rfl
  have h := run_equalIn_struct (P := Try.prog) w (d + 2) 31 #[.int .i64 a.1, .int .i64 a.2] #[.int .i64 b.1, .int .i64 b.2] h2 h1
  unfold ekF
  rw [h]
  obtain ⟨a1, a2⟩ := a
  obtain ⟨b1, b2⟩ := b
  simp [Op.eqFields, go_sem, Try.underlying3]
  by_cases h1 : a1 = b1 <;> by_cases h2 : a2 = b2 <;> simp [h1, h2]
theorem eqFired (a1 a2 b1 b2 : Int) (w : World) : Sem.run Try.prog (Op.equalIn 10000 31 (.agg #[.int .i64 a1, .int .i64 a2]) (.agg #[.int .i64 b1, .int .i64 b2])) w = .ok (decide ((a1, a2) = (b1, b2))) w := eqF1 9997 (a1, a2) (b1, b2) w
end Go.Proofs.Ytjpepnokijbhgaa.MapF
