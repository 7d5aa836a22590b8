/- The chapter's example of rings (law 2's known) and the comparison of rows of ints (law 2's same). -/
import Derived.Test.YtmiebedoijnnaaaRing
import Derived.LoopTactic
namespace Go.Proofs.Ytmiebedoijnnaaa.Ring
open Go.RowKit Mem
set_option linter.unusedVariables false

/-- A Ring that the call made: none of its blocks was there in W, and of W's blocks nothing has turned. -/
structure Mine (W w : World) (p room : Nat) (v : Value) (n : Nat) (xs : List Value) : Prop where
  ring : RingAt w p room v n xs
  new : ∀ k, Own p v k → W.heap.size ≤ k
  below : Below W.heap.size W w

section
variable {W w w' : World} {p room n n' : Nat} {v v' : Value} {xs xs' : List Value}
theorem Mine.of_new (h : RingAt w' W.heap.size room (.slice none 0 0) 0 []) (hf : Foot (fun _ => False) W w') : Mine W w' W.heap.size room (.slice none 0 0) 0 [] :=
  ⟨h, fun k hk => by rcases hk with rfl | hk; exact Nat.le_refl _; simp [Value.ownBlock] at hk, hf.below (fun _ _ h => h.elim) (Nat.le_refl _)⟩
theorem Mine.step (h : Mine W w p room v n xs) (hr : RingAt w' p room v' n' xs') (hf : Foot (Own p v) w w') (hm : Moved w v v') : Mine W w' p room v' n' xs' :=
  ⟨hr, fun k hk => by
    rcases hk with rfl | hk
    · exact h.new _ (.inl rfl)
    · rcases hm k hk with h1 | h1
      · exact h.new _ (.inr h1)
      · exact Nat.le_trans h.below.size h1, h.below.trans (hf.below (fun k _ hk => h.new k hk) h.below.size)⟩
theorem Mine.stay {S : Nat → Prop} (h : Mine W w p room v n xs) (hf : Foot S w w') (hs : ∀ k, S k → W.heap.size ≤ k) (hd : ∀ k, Own p v k → ¬ S k) : Mine W w' p room v n xs :=
  ⟨h.ring.keep hf hd, h.new, h.below.trans (hf.below (fun k _ hk => hs k hk) h.below.size)⟩
theorem Mine.still (h : Mine W w p room v n xs) (hf : Foot (fun _ => False) w w') : Mine W w' p room v n xs := h.stay hf (fun _ h => h.elim) fun _ _ => id
end

def Pushed (W w : World) (p room n : Nat) (v : Value) (xs : List Value) (w' : World) : Prop := ∃ a' c', Mine W w' p room (.slice a' n c') n xs ∧ Foot (Own p v) w w' ∧ Moved w v (.slice a' n c')

theorem push_yes (W w : World) (p room n cap : Nat) (a : Option Addr) (x : Int) (xs : List Value) (h : Mine W w p room (.slice a n cap) n xs) (hn : n < room) :
    Calls Try.prog 9 #[.pointer (some ⟨p, 0, none⟩), .int .i64 x] w fun e w' => e = .returned (.bool true) ∧ Pushed W w p room (n + 1) (.slice a n cap) (xs ++ [.int .i64 x]) w' :=
  (Push_room p room n cap a x xs w h.ring hn).mono fun e w' ⟨he, a', c', h1, h2, h3⟩ => ⟨he, a', c', h.step h1 h2 h3, h2, h3⟩
theorem push_no (W w : World) (p room cap : Nat) (a : Option Addr) (x : Int) (xs : List Value) (h : Mine W w p room (.slice a room cap) room xs) :
    Calls Try.prog 9 #[.pointer (some ⟨p, 0, none⟩), .int .i64 x] w fun e w' => e = .returned (.bool false) ∧ ∃ k, w' = w.drewN k :=
  Push_full p room cap a x xs w h.ring
theorem pop_yes (W w : World) (p room n cap : Nat) (a : Option Addr) (x : Value) (xs : List Value) (h : Mine W w p room (.slice a (n + 1) cap) (n + 1) (x :: xs)) (h1c : ∀ v ∈ x :: xs, v.oneCell' = true) :
    Calls Try.prog 10 #[.pointer (some ⟨p, 0, none⟩)] w fun e w' => e = .returned (.tuple #[x, .bool true]) ∧ Pushed W w p room n (.slice a (n + 1) cap) xs w' :=
  (Pop_some p room n cap a x xs w h.ring h1c).mono fun e w' ⟨he, a', c', h1, h2, h3⟩ => ⟨he, a', c', h.step h1 h2 h3, h2, h3⟩
theorem remove_yes (W w : World) (p room n cap k : Nat) (a : Option Addr) (x : Value) (xs : List Value) (h : Mine W w p room (.slice a n cap) n xs) (h1c : ∀ v ∈ xs, v.oneCell' = true) (hk : k < n) (hx : xs[k]? = some x) :
    Calls Try.prog 11 #[.pointer (some ⟨p, 0, none⟩), .int .i64 k] w fun e w' => e = .returned (.tuple #[x, .bool true]) ∧ Pushed W w p room (n - 1) (.slice a n cap) (xs.take k ++ xs.drop (k + 1)) w' :=
  (Remove_in p room n cap k a x xs w h.ring h1c hk hx).mono fun e w' ⟨he, a', c', h1, h2, h3⟩ => ⟨he, a', c', h.step h1 h2 h3, h2, h3⟩

/-- How many are left where element k, if there is one, goes. -/
def leftN (n : Nat) (k : Int) : Nat := if 0 ≤ k ∧ k < n then n - 1 else n
def restOf {α : Type} (xs : List α) (k : Int) : List α := if 0 ≤ k ∧ k < xs.length then xs.take k.toNat ++ xs.drop (k.toNat + 1) else xs
theorem left_le (n : Nat) (k : Int) : leftN n k ≤ n := by unfold leftN; split <;> omega

theorem remove_any (W w : World) (p room n cap : Nat) (k : Int) (a : Option Addr) (xs : List Value) (h : Mine W w p room (.slice a n cap) n xs) (h1c : ∀ v ∈ xs, v.oneCell' = true) :
    Calls Try.prog 11 #[.pointer (some ⟨p, 0, none⟩), .int .i64 k] w fun e w' => (∃ r b, e = .returned (.tuple #[r, .bool b])) ∧ Pushed W w p room (leftN n k) (.slice a n cap) (restOf xs k) w' := by
  have hl : xs.length = n := by rw [h.ring.items.1, Nat.mul_one]
  by_cases hin : 0 ≤ k ∧ k < n
  · obtain ⟨m, rfl⟩ := Int.eq_ofNat_of_zero_le hin.1
    have e1 : leftN n (m : Int) = n - 1 := by unfold leftN; rw [if_pos hin]
    have e2 : restOf xs (m : Int) = xs.take m ++ xs.drop (m + 1) := by unfold restOf; rw [hl, if_pos hin]; rfl
    rw [e1, e2]
    have hx : xs[m]? = some (xs[m]'(by omega)) := List.getElem?_eq_getElem (by omega)
    exact (remove_yes W w p room n cap m a _ xs h h1c (by omega) hx).mono fun e w' ⟨he, hp⟩ => ⟨⟨_, _, he⟩, hp⟩
  · have e1 : leftN n k = n := by unfold leftN; rw [if_neg hin]
    have e2 : restOf xs k = xs := by unfold restOf; rw [hl, if_neg hin]
    rw [e1, e2]
    refine (Remove_out p room n cap a k xs w h.ring (by omega)).mono fun e w' ⟨he, hw⟩ => ⟨⟨_, _, he⟩, ?_⟩
    subst hw
    exact ⟨a, cap, h, Foot.refl _ _, Moved.refl _ _⟩

set_option maxHeartbeats 400000 in
theorem known (w : World) : Calls Try.prog 8 #[] w fun e w' => e = .returned (.bool true) ∧ Below w.heap.size w w' := by
  have C1 := Lib.hid (New_ok 2 w (by omega))
  go_enter Try.func8, Try.ntmps8
  go_wp2_with fail
  refine C1.out.mono ?_
  rintro e w1 ⟨rfl, hR, hF⟩
  have M1 := Lib.hid (Mine.of_new hR hF)
  clear hR hF C1
  go_wp2_with fail
  refine (push_yes w w1 w.heap.size 2 0 0 none 1 [] M1.out (by omega)).mono ?_
  rintro e w2 ⟨rfl, a2, c2, hM, _, _⟩
  have M2 := Lib.hid hM; clear hM M1
  go_wp2_with fail
  refine (push_yes w w2 w.heap.size 2 1 c2 a2 2 _ M2.out (by omega)).mono ?_
  rintro e w3 ⟨rfl, a3, c3, hM, _, _⟩
  have M3 := Lib.hid hM; clear hM M2
  go_wp2_with fail
  refine (push_no w w3 w.heap.size 2 c3 a3 3 _ M3.out).mono ?_
  rintro e w4 ⟨rfl, k, rfl⟩
  have M4 : Hid (Mine w (w3.drewN k) w.heap.size 2 (.slice a3 2 c3) 2 [.int .i64 1, .int .i64 2]) := Lib.hid (M3.out.still ((Foot.refl _ _).drewN k))
  clear M3
  go_wp2_with fail
  refine (pop_yes w (w3.drewN k) w.heap.size 2 1 c3 a3 (.int .i64 1) [.int .i64 2] M4.out (by simp [Value.oneCell'])).mono ?_
  rintro e w5 ⟨rfl, a5, c5, hM, _, _⟩
  have M5 := Lib.hid hM; clear hM M4
  go_wp2_with fail
  refine (push_yes w w5 w.heap.size 2 1 c5 a5 4 _ M5.out (by omega)).mono ?_
  rintro e w6 ⟨rfl, a6, c6, hM, _, _⟩
  have M6 : Hid (Mine w w6 w.heap.size 2 (.slice a6 2 c6) 2 [.int .i64 2, .int .i64 4]) := Lib.hid hM
  clear hM M5
  go_wp2_with fail
  refine (All w.heap.size 2 2 c6 a6 _ w6 M6.out.ring (by simp [Value.oneCell'])).mono ?_
  rintro e w7 ⟨rfl, hA, hF⟩
  have HB := Lib.hid (M6.out.still hF).below
  have e0 : w7.cell? ⟨w6.heap.size, 0, none⟩ = some (.int .i64 2) := hA.cell 0
  have e1 : w7.cell? ⟨w6.heap.size, 1, none⟩ = some (.int .i64 4) := hA.cell 1
  clear hA hF M6
  go_wp2_with fail
  go_ret
  exact ⟨rfl, HB.out⟩

set_option maxHeartbeats 400000 in
theorem same (a1 a2 : Option Addr) (n c1 c2 : Nat) (zs : List Int) (w : World) (h1 : ReadsI w a1 n zs) (h2 : ReadsI w a2 n zs) (hn : n ≤ 9223372036854775807) :
    Calls Try.prog 12 #[.slice a1 n c1, .slice a2 n c2] w fun e w' => e = .returned (.bool true) ∧ ∃ k, w' = w.drewN k := by
  by_cases h0 : n = 0
  · subst h0
    clear h1 h2
    go_enter Try.func12, Try.ntmps12
    go_wp2_with fail
    go_loopw [5] (fun i w' => i = .int .i64 0 ∧ ∃ k, w' = w.drewN k) (fun _ _ => 0)
    case atStart => exact ⟨rfl, 0, rfl⟩
    case round =>
      obtain ⟨rfl, k, rfl⟩ := hrel
      go_wp2_with fail
      go_ret
      exact ⟨rfl, k, rfl⟩
  · obtain ⟨b1, o1, rfl, hc1⟩ := h1.2 (by omega)
    obtain ⟨b2, o2, rfl, hc2⟩ := h2.2 (by omega)
    have H1 := Lib.hid hc1; have H2 := Lib.hid hc2
    clear h1 h2 hc1 hc2 h0
    go_enter Try.func12, Try.ntmps12
    go_wp2_with fail
    go_loopw [5] (fun i w' => ∃ j : Nat, j ≤ n ∧ i = .int .i64 j ∧ ∃ k, w' = w.drewN k) (fun i _ => n - (intOf i).toNat)
    case atStart => exact ⟨0, Nat.zero_le _, rfl, 0, rfl⟩
    case round =>
      obtain ⟨j, hj, rfl, k, rfl⟩ := hrel
      by_cases hlt : j < n
      · have e1 := H1.out j hlt
        have e2 := H2.out j hlt
        generalize zs.getD j 0 = z at e1 e2
        go_wp2_with fail
        go_quiet (fail)
        go_wp2_with fail
        go_roundw
        case rel => exact ⟨j + 1, by omega, by go_num, _, rfl⟩
        case measure => simp [intOf]; omega
      · go_wp2_with fail
        go_ret
        exact ⟨rfl, k, rfl⟩

end Go.Proofs.Ytmiebedoijnnaaa.Ring
