/- The chapter's example of ledgers (law 4's known). -/
import Derived.Test.YtjiagdooacieeaaLedNew
import Derived.LoopTactic
namespace Go.Proofs.Ytjiagdooacieeaa.Led
open Go.RowKit Mem
set_option linter.unusedVariables false

/-- A Ledger that the call made: none of its blocks was there in W, and of W's blocks nothing has turned. -/
structure Mine (W w : World) (p g n : Nat) (C H : Nat → Int) : Prop where
  led : LedAt w p g n C H
  new : W.heap.size ≤ p ∧ W.heap.size ≤ g
  below : Below W.heap.size W w

section
variable {W w w' : World} {p g n : Nat} {C H H' : Nat → Int}
theorem Mine.of_new {w0 : World} (h0 : Below W.heap.size W w0) (h : LedAt w' (w0.heap.size + 1) w0.heap.size n C H) (hf : Foot (fun _ => False) w0 w') : Mine W w' (w0.heap.size + 1) w0.heap.size n C H :=
  ⟨h, ⟨Nat.le_succ_of_le h0.size, h0.size⟩, h0.trans (hf.below (fun _ _ h => h.elim) h0.size)⟩
theorem Mine.step (h : Mine W w p g n C H) (hl : LedAt w' p g n C H') (hf : Foot (fun k => k = g) w w') : Mine W w' p g n C H' :=
  ⟨hl, h.new, h.below.trans (hf.below (fun k _ e => by have := h.new.2; omega) h.below.size)⟩
theorem Mine.still (h : Mine W w p g n C H) (hf : Foot (fun _ => False) w w') : Mine W w' p g n C H := ⟨h.led.still hf, h.new, h.below.trans (hf.below (fun _ _ h => h.elim) h.below.size)⟩
end

theorem take (W : World) (p g n : Nat) (C H : Nat → Int) (c : Int) (w : World) (h : Mine W w p g n C H) {r : Int} (hr' : takeR n C H c = r) :
    Calls Try.prog 11 #[.pointer (some ⟨p, 0, none⟩), .int .i64 c] w fun e w' => e = .returned (.int .i64 r) ∧ Mine W w' p g n C (takeH n C H c) :=
  (Take p g n C H c w h.led).mono fun e w' ⟨h1, h2, h3⟩ => ⟨by rw [← hr']; exact h1, h.step h2 h3⟩
theorem give (W : World) (p g n : Nat) (C H : Nat → Int) (c : Int) (w : World) (h : Mine W w p g n C H) {r : Int} (hr' : giveR n H c = r) :
    Calls Try.prog 13 #[.pointer (some ⟨p, 0, none⟩), .int .i64 c] w fun e w' => e = .returned (.int .i64 r) ∧ Mine W w' p g n C (giveH n H c) :=
  (Give p g n C H c w h.led).mono fun e w' ⟨h1, h2, h3⟩ => ⟨by rw [← hr']; exact h1, h.step h2 h3⟩
theorem reset (W : World) (p g n : Nat) (C H : Nat → Int) (c : Int) (w : World) (h : Mine W w p g n C H) :
    Calls Try.prog 15 #[.pointer (some ⟨p, 0, none⟩), .int .i64 c] w fun e w' => e = .returned (.tuple #[.int .i64 (heldOf n H c), .int .i64 (resetR n c)]) ∧ Mine W w' p g n C (resetH n H c) :=
  (Reset p g n C H c w h.led).mono fun e w' ⟨h1, h2, h3⟩ => ⟨h1, h.step h2 h3⟩
theorem freeM (W : World) (p g n : Nat) (C H : Nat → Int) (c : Int) (w : World) (h : Mine W w p g n C H) {r : Int} (hr' : freeOf n C H c = r) :
    Calls Try.prog 17 #[.pointer (some ⟨p, 0, none⟩), .int .i64 c] w fun e w' => e = .returned (.int .i64 r) ∧ Mine W w' p g n C H :=
  (Free p g n C H c w h.led).mono fun e w' ⟨h1, k, h2⟩ => ⟨by rw [← hr']; exact h1, by subst h2; exact h.still ((Foot.refl _ w).drewN k)⟩
theorem heldM (W : World) (p g n : Nat) (C H : Nat → Int) (c : Int) (w : World) (h : Mine W w p g n C H) {r : Int} (hr' : heldOf n H c = r) :
    Calls Try.prog 19 #[.pointer (some ⟨p, 0, none⟩), .int .i64 c] w fun e w' => e = .returned (.int .i64 r) ∧ Mine W w' p g n C H :=
  (Held p g n C H c w h.led).mono fun e w' ⟨h1, h2⟩ => ⟨by rw [← hr']; exact h1, by subst h2; exact h⟩
theorem hasM (W : World) (p g n : Nat) (C H : Nat → Int) (a : Option Addr) (m cap : Nat) (zs : List Int) (w : World) (h : Mine W w p g n C H) {r : Bool} (hr' : met n C H zs = r) (hr : ReadsI w a m zs) (hm : m ≤ 9223372036854775807) :
    Calls Try.prog 21 #[.pointer (some ⟨p, 0, none⟩), .slice a m cap] w fun e w' => e = .returned (.bool r) ∧ Mine W w' p g n C H :=
  (Has p g n C H a m cap zs w h.led hr hm).mono fun e w' ⟨h1, k, h2⟩ => ⟨by rw [← hr']; exact h1, by subst h2; exact h.still ((Foot.refl _ w).drewN k)⟩

def C21 : Nat → Int := capsOf [2, 1] 2
def H21 : Nat → Int := takeH 2 C21 (fun _ => 0) 0
theorem row21 (w : World) : ReadsI (w.alloc (.cells #[.int .i64 2, .int .i64 1] 3)) (some ⟨w.heap.size, 0, none⟩) 2 [2, 1] := At.reads (e := 3) (zs := [2, 1]) (At.new w 3 #[.int .i64 2, .int .i64 1])
theorem row11 (w : World) : ReadsI (w.alloc (.cells #[.int .i64 1, .int .i64 1] 3)) (some ⟨w.heap.size, 0, none⟩) 2 [1, 1] := At.reads (e := 3) (zs := [1, 1]) (At.new w 3 #[.int .i64 1, .int .i64 1])
theorem row2 (w : World) : ReadsI (w.alloc (.cells #[.int .i64 2] 3)) (some ⟨w.heap.size, 0, none⟩) 1 [2] := At.reads (e := 3) (zs := [2]) (At.new w 3 #[.int .i64 2])

set_option maxHeartbeats 400000 in
theorem known (w : World) : Calls Try.prog 8 #[] w fun e w' => e = .returned (.bool true) ∧ Below w.heap.size w w' := by
  have C1 := Lib.hid (New_ok (some ⟨w.heap.size, 0, none⟩) 2 2 [2, 1] _ (row21 w) (by omega) (by decide))
  rw [World.size_alloc] at C1
  have HS : Hid (Below w.heap.size w (w.alloc (.cells #[.int .i64 2, .int .i64 1] 3))) := Lib.hid ((Below.refl _ _).alloc (Nat.le_refl _) _)
  go_enter Try.func8, Try.ntmps8
  go_wp2_with fail
  refine C1.out.mono ?_
  rintro e w1 ⟨rfl, hL, hF⟩
  have M1 : Hid (Mine w w1 (w.heap.size + 1 + 1) (w.heap.size + 1) 2 C21 fun _ => 0) := Lib.hid (by have h := Mine.of_new (W := w) HS.out (by rw [World.size_alloc]; exact hL) hF; rw [World.size_alloc] at h; exact h)
  clear hL hF C1 HS
  go_wp2_with fail
  refine (take w _ _ 2 C21 _ 0 w1 M1.out (r := 0) (by decide)).mono ?_
  rintro e w2 ⟨rfl, hM⟩
  have M2 : Hid (Mine w w2 (w.heap.size + 1 + 1) (w.heap.size + 1) 2 C21 H21) := Lib.hid hM
  clear hM M1
  go_wp2_with fail
  refine (hasM w _ _ 2 C21 H21 _ 2 2 [1, 1] _ (M2.out.still ((Foot.refl (fun _ => False) w2).alloc _)) (r := true) (by decide) (row11 w2) (by omega)).mono ?_
  rintro e w3 ⟨rfl, hM⟩
  have M3 := Lib.hid hM
  clear hM M2
  go_wp2_with fail
  refine (hasM w _ _ 2 C21 H21 _ 1 1 [2] _ (M3.out.still ((Foot.refl (fun _ => False) w3).alloc _)) (r := false) (by decide) (row2 w3) (by omega)).mono ?_
  rintro e w4 ⟨rfl, hM⟩
  have M4 := Lib.hid hM
  clear hM M3
  go_wp2_with fail
  refine (give w _ _ 2 C21 H21 1 w4 M4.out (r := 9) (by decide)).mono ?_
  rintro e w5 ⟨rfl, hM⟩
  have M5 : Hid (Mine w w5 (w.heap.size + 1 + 1) (w.heap.size + 1) 2 C21 (giveH 2 H21 1)) := Lib.hid hM
  clear hM M4
  go_wp2_with fail
  refine (freeM w _ _ 2 C21 _ 0 w5 M5.out (r := 1) (by decide)).mono ?_
  rintro e w6 ⟨rfl, hM⟩
  have M6 := Lib.hid hM
  clear hM M5
  go_wp2_with fail
  refine (heldM w _ _ 2 C21 _ 0 w6 M6.out (r := 1) (by decide)).mono ?_
  rintro e w7 ⟨rfl, hM⟩
  have HB := Lib.hid hM.below
  clear hM M6
  go_wp2_with fail
  go_ret
  exact ⟨rfl, HB.out⟩
end Go.Proofs.Ytjiagdooacieeaa.Led
