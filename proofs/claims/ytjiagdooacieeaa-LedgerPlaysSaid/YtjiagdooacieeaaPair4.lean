/- Ledger and reference side by side; the steps that came in. -/
import Derived.Test.YtjiagdooacieeaaRef4New
import Derived.Test.YtjiagdooacieeaaKnown4
import Derived.Test.YtjiagdooacieeaaOpen
namespace Go.Proofs.Ytjiagdooacieeaa.Led
open Go.RowKit Mem
set_option linter.unusedVariables false

/-- The steps that came in. -/
structure MovesIn (w : World) (a : Option Addr) (len cap : Nat) (F : Nat → Int × Int) : Prop where
  le : len ≤ cap
  max : cap ≤ maxLen
  cells : 0 < len → ∃ b off, a = some ⟨b, off, none⟩ ∧ ∀ i, i < len → w.cell? ⟨b, off + i * 2, none⟩ = some (.int .i64 (F i).1) ∧ w.cell? ⟨b, off + i * 2 + 1, none⟩ = some (.int .i64 (F i).2)

section
open Go.ChangeShapes Go.WideShapes
theorem openSteps {H : Type} {enc : TypeId × Value → H} {w : World} {a : Option Addr} {len cap : Nat} {d : DataW H} {p : List MemPlace} (h : DataW.Trod enc Try.prog w 0 (fun _ => true) true 23 (.slice a len cap) d p) : ∃ F, MovesIn w a len cap F := by
  obtain ⟨h1, h2, h3⟩ := open_fields Try.underlying23 Try.underlying33 (by kernel_rfl) (by kernel_rfl) (by decide) h
  by_cases hn : len = 0
  · exact ⟨fun _ => (0, 0), h1, h2, fun h => absurd h (by omega)⟩
  · obtain ⟨b, off, rfl, hi⟩ := h3 (by omega)
    have : ∀ i, i < len → ∃ z : Int × Int, w.cell? ⟨b, off + i * 2, none⟩ = some (.int .i64 z.1) ∧ w.cell? ⟨b, off + i * 2 + 1, none⟩ = some (.int .i64 z.2) := by
      intro i hil
      obtain ⟨v0, _, _, c0, t0⟩ := hi i (by omega) 0 _ rfl
      obtain ⟨v1, _, _, c1, t1⟩ := hi i (by omega) 1 _ rfl
      obtain ⟨z0, rfl, _⟩ := cell_i64 Try.underlying3 t0
      obtain ⟨z1, rfl, _⟩ := cell_i64 Try.underlying3 t1
      exact ⟨(z0, z1), c0, c1⟩
    obtain ⟨F, hF⟩ := Go.Deep.choose_lt this
    exact ⟨F, h1, h2, fun _ => ⟨b, off, rfl, hF⟩⟩
theorem openInts {H : Type} {enc : TypeId × Value → H} {w : World} {a : Option Addr} {len cap : Nat} {d : DataW H} {p : List MemPlace} (h : DataW.Trod enc Try.prog w 0 (fun _ => true) true 22 (.slice a len cap) d p) : ∃ zs, IntsIn w a len cap zs :=
  open_ints_in Try.underlying22 Try.underlying3 (by kernel_rfl) h
end

theorem MovesIn.cell {w w1 : World} {a : Option Addr} {len cap : Nat} {F : Nat → Int × Int} (h : MovesIn w a len cap F) (hb : Below w.heap.size w w1) {j : Nat} (hj : j < len) :
    ∃ b off, a = some ⟨b, off, none⟩ ∧ w1.cell? ⟨b, off + j * 2, none⟩ = some (.int .i64 (F j).1) ∧ w1.cell? ⟨b, off + j * 2 + 1, none⟩ = some (.int .i64 (F j).2) := by
  obtain ⟨b, off, ha, hc⟩ := h.cells (by omega)
  obtain ⟨c0, c1⟩ := hc j hj
  exact ⟨b, off, ha, (hb.cell (p := ⟨b, _, none⟩) (World.block_lt_of_cell? w _ c0)).trans c0, (hb.cell (p := ⟨b, _, none⟩) (World.block_lt_of_cell? w _ c1)).trans c1⟩

/-- Capacities that may not be. -/
def NoCaps (zs : List Int) (n : Nat) : Prop := 24 < n ∨ ¬ CapsOk zs n
theorem New_no (a : Option Addr) (n cap : Nat) (zs : List Int) (w : World) (hr : ReadsI w a n zs) (hm : n ≤ 9223372036854775807) (hg : NoCaps zs n) :
    Calls Try.prog 9 #[.slice a n cap] w fun e w' => e = .returned (.tuple #[.pointer none, .int .i64 1]) ∧ Foot (fun _ => False) w w' := by
  by_cases h : 24 < n
  · exact (New_many a n cap w h hm).mono fun e w' ⟨h1, h2⟩ => ⟨h1, by subst h2; exact Foot.refl _ _⟩
  · exact New_bad a n cap zs w hr (by omega) (hg.resolve_left h)
theorem New_no' (a : Option Addr) (n cap : Nat) (zs : List Int) (w : World) (hr : ReadsI w a n zs) (hm : n ≤ 9223372036854775807) (hg : NoCaps zs n) :
    Calls Try.prog 10 #[.slice a n cap] w fun e w' => e = .returned (.tuple #[.pointer none, .int .i64 1]) ∧ w = w' := by
  by_cases h : 24 < n
  · exact Ref4.New_many a n cap w h hm
  · exact Ref4.New_bad a n cap zs w hr (by omega) (hg.resolve_left h)

/-- The Ledger and the reference's, side by side: H of the one, K of the other. -/
structure St (W w : World) (p g lo q gt n : Nat) (ac : Option Addr) (cc : Nat) (C H K : Nat → Int) : Prop where
  mine : Mine W w p g n C H
  ref : Ref4.RefAt w lo q gt n C K ac cc
  lt : p < lo ∧ g < lo
  lo : W.heap.size ≤ lo

section
variable {W w w' : World} {p g lo q gt n cc : Nat} {ac : Option Addr} {C H K H' : Nat → Int}
theorem St.still (h : St W w p g lo q gt n ac cc C H K) (hf : Foot (fun _ => False) w w') : St W w' p g lo q gt n ac cc C H K := ⟨h.mine.still hf, h.ref.still hf, h.lt, h.lo⟩
theorem St.left (h : St W w p g lo q gt n ac cc C H K) (hl : LedAt w' p g n C H') (hf : Foot (fun k => k = g) w w') : St W w' p g lo q gt n ac cc C H' K :=
  ⟨h.mine.step hl hf, h.ref.keep hf fun k e => by rw [show k = g from e]; exact h.lt.2, h.lt, h.lo⟩
theorem St.right (h : St W w p g lo q gt n ac cc C H K) (hl : Ref4.RefAt w' lo q gt n C H' ac cc) (hf : Foot (fun k => k = gt) w w') : St W w' p g lo q gt n ac cc C H H' :=
  ⟨⟨h.mine.led.keep hf (fun e => by have := h.ref.los; have := h.lt; omega) (fun e => by have := h.ref.los; have := h.lt; omega), h.mine.new, h.mine.below.trans (hf.below (fun k _ e => by have := h.ref.los; have := h.lo; omega) h.mine.below.size)⟩, hl, h.lt, h.lo⟩
theorem St.of_new {w1 : World} (h : Mine W w p g n C H) (hr : Ref4.RefAt w1 w.heap.size q gt n C K ac cc) (hf : Foot (fun _ => False) w w1) : St W w1 p g w.heap.size q gt n ac cc C H K :=
  ⟨h.still hf, hr, ⟨h.led.at_.lt, by obtain ⟨_, h1, _⟩ := h.led.row; exact h1.lt⟩, h.below.size⟩
end

section
variable (W : World) (p g lo q gt n : Nat) (ac : Option Addr) (cc : Nat) (C H K : Nat → Int) (c : Int) (w : World) (h : St W w p g lo q gt n ac cc C H K)
include h
theorem sTake : Calls Try.prog 11 #[.pointer (some ⟨p, 0, none⟩), .int .i64 c] w fun e w' => e = .returned (.int .i64 (takeR n C H c)) ∧ St W w' p g lo q gt n ac cc C (takeH n C H c) K :=
  (Take p g n C H c w h.mine.led).mono fun e w' ⟨h1, h2, h3⟩ => ⟨h1, h.left h2 h3⟩
theorem sGive : Calls Try.prog 13 #[.pointer (some ⟨p, 0, none⟩), .int .i64 c] w fun e w' => e = .returned (.int .i64 (giveR n H c)) ∧ St W w' p g lo q gt n ac cc C (giveH n H c) K :=
  (Give p g n C H c w h.mine.led).mono fun e w' ⟨h1, h2, h3⟩ => ⟨h1, h.left h2 h3⟩
theorem sReset : Calls Try.prog 15 #[.pointer (some ⟨p, 0, none⟩), .int .i64 c] w fun e w' => e = .returned (.tuple #[.int .i64 (heldOf n H c), .int .i64 (resetR n c)]) ∧ St W w' p g lo q gt n ac cc C (resetH n H c) K :=
  (Reset p g n C H c w h.mine.led).mono fun e w' ⟨h1, h2, h3⟩ => ⟨h1, h.left h2 h3⟩
theorem sFree : Calls Try.prog 17 #[.pointer (some ⟨p, 0, none⟩), .int .i64 c] w fun e w' => e = .returned (.int .i64 (freeOf n C H c)) ∧ St W w' p g lo q gt n ac cc C H K :=
  (Free p g n C H c w h.mine.led).mono fun e w' ⟨h1, k, h2⟩ => ⟨h1, by subst h2; exact h.still ((Foot.refl _ w).drewN k)⟩
theorem sHeld : Calls Try.prog 19 #[.pointer (some ⟨p, 0, none⟩), .int .i64 c] w fun e w' => e = .returned (.int .i64 (heldOf n H c)) ∧ St W w' p g lo q gt n ac cc C H K :=
  (Held p g n C H c w h.mine.led).mono fun e w' ⟨h1, h2⟩ => ⟨h1, by subst h2; exact h⟩
theorem sHas (a : Option Addr) (m cap : Nat) (zs : List Int) (hr : ReadsI w a m zs) (hm : m ≤ 9223372036854775807) :
    Calls Try.prog 21 #[.pointer (some ⟨p, 0, none⟩), .slice a m cap] w fun e w' => e = .returned (.bool (met n C H zs)) ∧ St W w' p g lo q gt n ac cc C H K :=
  (Has p g n C H a m cap zs w h.mine.led hr hm).mono fun e w' ⟨h1, k, h2⟩ => ⟨h1, by subst h2; exact h.still ((Foot.refl _ w).drewN k)⟩
theorem rTake : Calls Try.prog 12 #[.pointer (some ⟨q, 0, none⟩), .int .i64 c] w fun e w' => e = .returned (.int .i64 (takeR n C K c)) ∧ St W w' p g lo q gt n ac cc C H (takeH n C K c) :=
  (Ref4.Take lo q gt n cc C K ac c w h.ref).mono fun e w' ⟨h1, h2, h3⟩ => ⟨h1, h.right h2 h3⟩
theorem rGive : Calls Try.prog 14 #[.pointer (some ⟨q, 0, none⟩), .int .i64 c] w fun e w' => e = .returned (.int .i64 (giveR n K c)) ∧ St W w' p g lo q gt n ac cc C H (giveH n K c) :=
  (Ref4.Give lo q gt n cc C K ac c w h.ref).mono fun e w' ⟨h1, h2, h3⟩ => ⟨h1, h.right h2 h3⟩
theorem rReset : Calls Try.prog 16 #[.pointer (some ⟨q, 0, none⟩), .int .i64 c] w fun e w' => e = .returned (.tuple #[.int .i64 (heldOf n K c), .int .i64 (resetR n c)]) ∧ St W w' p g lo q gt n ac cc C H (resetH n K c) :=
  (Ref4.Reset lo q gt n cc C K ac c w h.ref).mono fun e w' ⟨h1, h2, h3⟩ => ⟨h1, h.right h2 h3⟩
theorem rFree : Calls Try.prog 18 #[.pointer (some ⟨q, 0, none⟩), .int .i64 c] w fun e w' => e = .returned (.int .i64 (freeOf n C K c)) ∧ St W w' p g lo q gt n ac cc C H K :=
  (Ref4.Free lo q gt n cc C K ac c w h.ref).mono fun e w' ⟨h1, k, h2⟩ => ⟨h1, by subst h2; exact h.still ((Foot.refl _ w).drewN k)⟩
theorem rHeld : Calls Try.prog 20 #[.pointer (some ⟨q, 0, none⟩), .int .i64 c] w fun e w' => e = .returned (.int .i64 (heldOf n K c)) ∧ St W w' p g lo q gt n ac cc C H K :=
  (Ref4.Held lo q gt n cc C K ac c w h.ref).mono fun e w' ⟨h1, h2⟩ => ⟨h1, by subst h2; exact h⟩
theorem rHas (a : Option Addr) (m cap : Nat) (zs : List Int) (hr : ReadsI w a m zs) (hm : m ≤ 9223372036854775807) :
    Calls Try.prog 22 #[.pointer (some ⟨q, 0, none⟩), .slice a m cap] w fun e w' => e = .returned (.bool (met n C K zs)) ∧ St W w' p g lo q gt n ac cc C H K :=
  (Ref4.Has lo q gt n cc C K ac a m cap zs w h.ref hr hm).mono fun e w' ⟨h1, k, h2⟩ => ⟨h1, by subst h2; exact h.still ((Foot.refl _ w).drewN k)⟩
end
end Go.Proofs.Ytjiagdooacieeaa.Led
