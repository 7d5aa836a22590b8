/- The chapter's example of timers (law 5's known). -/
import Derived.Test.YtjpepnokijbhgaaTick
namespace Go.Proofs.Ytjpepnokijbhgaa.Whl
open Go.RowKit Mem MapK Tim MapF
set_option linter.unusedVariables false

/-- A Wheel that the call made: none of its blocks was there in W, and of W's blocks nothing has turned. -/
structure Mine (W w : World) (p : Nat) (mv : Option Nat) (L : TRows) : Prop where
  whl : WheelAt w p mv L
  new : W.heap.size ≤ p
  newm : ∀ b, mv = some b → W.heap.size ≤ b
  below : Below W.heap.size W w
section
variable {W w w' : World} {p : Nat} {mv mv' : Option Nat} {L L' : TRows}
theorem Mine.of_new {w0 : World} (h0 : Below W.heap.size W w0) (h : WheelAt w' w0.heap.size none []) (hf : Foot (fun _ => False) w0 w') : Mine W w' w0.heap.size none [] :=
  ⟨h, h0.size, (fun _ h => by cases h), h0.trans (hf.below (fun _ _ h => h.elim) h0.size)⟩
theorem Mine.still (h : Mine W w p mv L) (hf : Foot (fun _ => False) w w') : Mine W w' p mv L := ⟨h.whl.still hf, h.new, h.newm, h.below.trans (hf.below (fun _ _ h => h.elim) h.below.size)⟩
theorem Mine.step (h : Mine W w p mv L) (hl : WheelAt w' p mv' L') (hm : Fresh w mv mv') (hf : Foot (fun k => k = p ∨ mv = some k) w w') : Mine W w' p mv' L' :=
  ⟨hl, h.new, (fun b hb => by
    rcases hm b hb with h1 | h1
    · exact h.newm b h1
    · exact Nat.le_trans h.below.size h1), h.below.trans (hf.below (fun k _ e => by
      rcases e with e | e
      · have := h.new; omega
      · exact h.newm k e) h.below.size)⟩
end

theorem armM (W : World) (p : Nat) (mv : Option Nat) (L : TRows) (i t n : Int) (w : World) (h : Mine W w p mv L) (hi : I64 i) (ht : I64 t) {r : Int} {L' : TRows} (hr : armR (i, t) n = r) (hL : armS (i, t) n L = L') :
    Calls Try.prog 10 #[.pointer (some ⟨p, 0, none⟩), .agg #[.int .i64 i, .int .i64 t], .int .i64 n] w fun e w' => e = .returned (.int .i64 r) ∧ ∃ mv', Mine W w' p mv' L' :=
  (Arm p mv L i t n w h.whl hi ht).mono fun e w' ⟨h1, mv', h2, h3, h4⟩ => ⟨by rw [← hr]; exact h1, mv', by rw [← hL]; exact h.step h2 h3 h4⟩
theorem nextM (W : World) (p : Nat) (mv : Option Nat) (L : TRows) (w : World) (h : Mine W w p mv L) {r : Int} {b : Bool} (hr : nextN L = r) (hb : nextB L = b) :
    Calls Try.prog 21 #[.pointer (some ⟨p, 0, none⟩)] w fun e w' => e = .returned (.tuple #[.int .i64 r, .bool b]) ∧ Mine W w' p mv L :=
  (Next p mv L w h.whl).mono fun e w' ⟨h1, h2⟩ => ⟨by rw [← hr, ← hb]; exact h1, h.still h2⟩
theorem tickM (W : World) (p : Nat) (mv : Option Nat) (L : TRows) (w : World) (h : Mine W w p mv L) (hlen : L.length ≤ 1000000) {l : List F} {L' : TRows} (hl : firedL L = l) (hL : tickL L = L') :
    Calls Try.prog 17 #[.pointer (some ⟨p, 0, none⟩)] w fun e w' => ∃ a c, e = .returned (.slice a l.length c) ∧ Mine W w' p mv L' ∧ Firing w' w.heap.size (.slice a l.length c) l :=
  (Tick p mv L w h.whl hlen).mono fun e w' ⟨a, c, h1, h2, h3, h4⟩ => ⟨a, c, by rw [← hl]; exact h1, by rw [← hL]; exact h.step h2 (Fresh.refl _ _) (h4.mono fun _ _ h => .inr h), by rw [← hl]; exact h3⟩
theorem lenM (W : World) (p : Nat) (mv : Option Nat) (L : TRows) (w : World) (h : Mine W w p mv L) :
    Calls Try.prog 23 #[.pointer (some ⟨p, 0, none⟩)] w fun e w' => e = .returned (.int .i64 L.length) ∧ w = w' := Len p mv L w h.whl

theorem firing_row {w : World} {lo : Nat} {a : Option Addr} {n c : Nat} {l : List F} (h : Firing w lo (.slice a n c) l) (hn : n = l.length) {k : Nat} {i t : Int} (hk : l[k]? = some (i, t)) : ∃ g off, a = some ⟨g, off, none⟩ ∧ w.cell? ⟨g, off + k * 2, none⟩ = some (.int .i64 i) ∧ w.cell? ⟨g, off + k * 2 + 1, none⟩ = some (.int .i64 t) := by
  have hkl : k < l.length := (List.getElem?_eq_some_iff.1 hk).1
  obtain ⟨g, off, cap, hv, _, _, _, hc⟩ := h.items.cell (by omega)
  obtain ⟨h1, h2⟩ := flat2_get l k _ hk
  refine ⟨g, off, by injection hv, ?_, ?_⟩
  · rw [hc _ (by omega), h1]
  · rw [Nat.add_assoc, hc _ (by omega), h2]
theorem i0 : I64 0 := by unfold I64; omega
theorem i1 : I64 1 := by unfold I64; omega

set_option maxHeartbeats 400000 in
theorem known (w : World) : Calls Try.prog 9 #[] w fun e w' => e = .returned (.bool true) ∧ Below w.heap.size w w' := by
  have HB0 : Hid (Below w.heap.size w w) := Lib.hid (Below.refl _ _)
  go_enter Try.func9, Try.ntmps9
  go_wp2_with fail
  refine (New w).mono ?_
  rintro e w1 ⟨rfl, hw, hf⟩
  have M1 := Lib.hid (Mine.of_new HB0.out hw hf)
  clear hw hf
  go_wp2_with fail
  refine (armM w _ none [] 0 1 2 w1 M1.out i0 i1 (r := 0) (L' := [((0, 1), 2)]) (by decide) (by decide)).mono ?_
  rintro e w2 ⟨rfl, mv2, hM⟩
  have M2 := Lib.hid hM
  clear hM M1
  go_wp2_with fail
  refine (armM w _ mv2 _ 0 0 2 w2 M2.out i0 i0 (r := 0) (L' := [((0, 0), 2), ((0, 1), 2)]) (by decide) (by decide)).mono ?_
  rintro e w3 ⟨rfl, mv3, hM⟩
  have M3 := Lib.hid hM
  clear hM M2
  go_wp2_with fail
  refine (nextM w _ mv3 _ w3 M3.out (r := 2) (b := true) (by decide) (by decide)).mono ?_
  rintro e w4 ⟨rfl, hM⟩
  have M4 := Lib.hid hM
  clear hM M3
  go_wp2_with fail
  refine (tickM w _ mv3 _ w4 M4.out (by decide) (l := []) (L' := [((0, 0), 1), ((0, 1), 1)]) (by decide) (by decide)).mono ?_
  rintro e w5 ⟨a5, c5, rfl, hM, hF⟩
  have M5 := Lib.hid hM
  clear hM M4 hF
  go_wp2_with fail
  refine (tickM w _ mv3 _ w5 M5.out (by decide) (l := [(0, 0), (0, 1)]) (L' := []) (by decide) (by decide)).mono ?_
  rintro e w6 ⟨a6, c6, rfl, hM, hF⟩
  have M6 := Lib.hid hM
  have HB := Lib.hid hM.below
  obtain ⟨g, off, rfl, d0, d1⟩ := firing_row hF rfl (k := 0) rfl
  obtain ⟨g', off', hg, d2, d3⟩ := firing_row hF rfl (k := 1) rfl
  obtain ⟨rfl, rfl⟩ : g = g' ∧ off = off' := by simpa using hg
  rw [Nat.zero_mul, Nat.add_zero] at d0 d1
  rw [Nat.one_mul] at d2 d3
  have d4 : w6.cell? ⟨g, off + 3, none⟩ = some (.int .i64 1) := d3
  have h1 := eqFired 0 0 0 0
  have h2 := eqFired 0 1 0 1
  rw [decide_eq_true rfl] at h1 h2
  clear hM M5 hF hg
  go_wp2_with fail
  refine (lenM w _ mv3 _ w6 M6.out).mono ?_
  rintro e w7 ⟨rfl, rfl⟩
  go_wp2_with fail
  go_ret
  exact ⟨rfl, HB.out⟩
end Go.Proofs.Ytjpepnokijbhgaa.Whl
