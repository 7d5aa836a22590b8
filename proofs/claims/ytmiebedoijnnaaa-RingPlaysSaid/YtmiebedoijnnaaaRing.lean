/- The contracts of package ring at elements of one int: New, Push, Pop, Head, Remove, All, Len, Room, Clear. -/
import Derived.Test.YtmiebedoijnnaaaChecked
import Derived.Test.YtmiebedoijnnaaaMem
import Derived.StillTailTactics
import Derived.Deep.QuietTactic
import Derived.BigQuiet
namespace Go.Proofs.Ytmiebedoijnnaaa.Ring
open Go.RowKit Mem
set_option linter.unusedVariables false

theorem info_int : (Try.prog.info? 3).map (fun i => (i.zero, i.size, i.bytes)) = some (some (.int .i64 0), 1, 8) := by kernel_rfl
theorem elem_ints : Try.prog.elem 28 = 3 := by kernel_rfl

/-- The Ring at block p: its capacity, its slice's value v, its n elements xs. -/
structure RingAt (w : World) (p room : Nat) (v : Value) (n : Nat) (xs : List Value) : Prop where
  at_ : At w p 54 #[.int .i64 room, v]
  items : Items w 3 1 v n xs
  apart : v.ownBlock ≠ some p
  le : n ≤ room
  cap : room ≤ 65536

/-- Which blocks a Ring takes. -/
def Own (p : Nat) (v : Value) (k : Nat) : Prop := k = p ∨ v.ownBlock = some k

theorem RingAt.keep {S : Nat → Prop} {w w1 : World} {p room n : Nat} {v : Value} {xs : List Value} (h : RingAt w p room v n xs) (hf : Foot S w w1) (hd : ∀ k, Own p v k → ¬ S k) : RingAt w1 p room v n xs :=
  ⟨h.at_.keep hf (hd p (.inl rfl)), h.items.keep hf fun g hg => hd g (.inr hg), h.apart, h.le, h.cap⟩
theorem RingAt.ownLt {w : World} {p room n : Nat} {v : Value} {xs : List Value} (h : RingAt w p room v n xs) {k : Nat} (hk : Own p v k) : k < w.heap.size := by
  rcases hk with rfl | hk
  · exact h.at_.lt
  · exact h.items.lt hk

theorem New_bad (m : Int) (w : World) (h : m < 0 ∨ 65536 < m) :
    Calls Try.prog 7 #[.int .i64 m] w fun e w' => e = .returned (.tuple #[.pointer none, .int .i64 1]) ∧ w = w' := by
  rcases h with h | h
  · go_enter Try.func7, Try.ntmps7
    go_wp2_with fail
    go_ret2
    exact ⟨rfl, rfl⟩
  · have h0 : ¬ m < 0 := by omega
    go_enter Try.func7, Try.ntmps7
    go_wp2_with fail
    go_ret2
    exact ⟨rfl, rfl⟩

theorem New_ok (m : Nat) (w : World) (h : m ≤ 65536) :
    Calls Try.prog 7 #[.int .i64 m] w fun e w' => e = .returned (.tuple #[.pointer (some ⟨w.heap.size, 0, none⟩), .int .i64 0]) ∧ RingAt w' w.heap.size m (.slice none 0 0) 0 [] ∧ Foot (fun _ => False) w w' := by
  go_enter Try.func7, Try.ntmps7
  go_wp2_with fail
  go_ret2
  exact ⟨rfl, ⟨At.new _ _ _, Items.nil _ _ _, by simp [Value.ownBlock], Nat.zero_le _, h⟩, (Foot.refl _ w).alloc _⟩

theorem Len (p room n cap : Nat) (a : Option Addr) (w : World) (h : At w p 54 #[.int .i64 room, .slice a n cap]) (hn : n ≤ 9223372036854775807) :
    Calls Try.prog 16 #[.pointer (some ⟨p, 0, none⟩)] w fun e w' => e = .returned (.int .i64 n) ∧ w = w' := by
  have h1 : w.cell? ⟨p, 1, none⟩ = some (.slice a n cap) := h.cell 1
  go_enter Try.func16, Try.ntmps16
  go_wp2_with fail
  go_ret
  exact ⟨rfl, rfl⟩

theorem Room (p room n cap : Nat) (a : Option Addr) (w : World) (h : At w p 54 #[.int .i64 room, .slice a n cap]) (hn : n ≤ room) (hr : room ≤ 65536) :
    Calls Try.prog 17 #[.pointer (some ⟨p, 0, none⟩)] w fun e w' => e = .returned (.int .i64 ((room : Int) - n)) ∧ ∃ k, w' = w.drewN k := by
  have h0 : w.cell? ⟨p, 0, none⟩ = some (.int .i64 room) := h.cell 0
  have h1 : w.cell? ⟨p, 1, none⟩ = some (.slice a n cap) := h.cell 1
  have hw : IntKind.i64.wrap ((room : Int) - n) = (room : Int) - n := by rw [IntKind.wrap_i64]; omega
  go_enter Try.func17, Try.ntmps17
  go_wp2_with fail
  go_quiet (fail)
  go_wp2_with fail
  go_ret
  exact ⟨rfl, _, rfl⟩

theorem All (p room n cap : Nat) (a : Option Addr) (xs : List Value) (w : World) (h : RingAt w p room (.slice a n cap) n xs) (h1c : ∀ v ∈ xs, v.oneCell' = true) :
    Calls Try.prog 15 #[.pointer (some ⟨p, 0, none⟩)] w fun e w' => e = .returned (.slice (some ⟨w.heap.size, 0, none⟩) n n) ∧ At w' w.heap.size 3 xs.toArray ∧ Foot (fun _ => False) w w' := by
  have h1 : w.cell? ⟨p, 1, none⟩ = some (.slice a n cap) := h.at_.cell 1
  obtain ⟨i0, hi, hz0, hz1, hz2⟩ := info_parts info_int
  have hle := h.le
  have hcap := h.cap
  have hlt := h.at_.lt
  have H := Lib.hid h; clear h
  have H1c := Lib.hid h1c; clear h1c
  have hlen := Lib.hid H.out.items.1
  go_enter Try.func15, Try.ntmps15
  go_wp2_with (at_make; refine wpList_make rfl _ _ 28 rfl 3 i0 (.int .i64 0) 1 Try.underlying28 hi hz0 hz1 n rfl rfl (by rw [hz2]; omega) (by unfold maxLen; omega) ?_)
  intro w1 hA1 hF1
  have c1 : w1.cell? ⟨p, 1, none⟩ = some (.slice a n cap) := (hF1.cell hlt id).trans h1
  have HF1 := Lib.hid hF1; clear hF1
  have HP := Lib.hid (fun (hpos : 0 < Nat.min n n) => show some (⟨w.heap.size, 0, none⟩ : Addr) = some ⟨w.heap.size, 0, none⟩ ∧ ∃ ad, a = some ad ∧ ∀ j v, xs[j]? = some v → w1.cell? (ad.add j) = some v by
    have hn : 0 < n := by simpa using hpos
    obtain ⟨g, off, cap', hv, _, _, hg, hc⟩ := H.out.items.cell hn
    have hv' : a = some ⟨g, off, none⟩ := by injection hv
    refine ⟨rfl, ⟨g, off, none⟩, hv', fun j v hj => ?_⟩
    have hjl := (List.getElem?_eq_some_iff.1 hj).1
    have hadd : (⟨g, off, none⟩ : Addr).add j = ⟨g, off + j, none⟩ := by unfold Addr.add; split <;> simp_all
    rw [hadd, HF1.out.cell (by exact hg) id, hc j (by rw [← H.out.items.1]; exact hjl)]
    exact hj)
  have HL := Lib.hid (show xs.length = Nat.min n n * 1 by rw [hlen.out]; simp)
  have HZ := Lib.hid (show (madeCells #[Value.int IntKind.i64 0] n).size = xs.length by rw [size_madeCells, hlen.out, Nat.mul_one])
  go_wp2_with (with_reducible refine wpList_copy rfl (.tmp 12) (.tmp 16) 28 28 rfl 3 i0 1 Try.underlying28 hi hz1 _ _ n n n cap rfl rfl w.heap.size 0 _ 3 hA1 xs HL.out HP.out (by rw [HZ.out]; omega) H1c.out ?_)
  intro w2 hA2 hF2
  rw [laid_all HZ.out] at hA2
  have c2 : w2.cell? ⟨p, 1, none⟩ = some (.slice a n cap) := (hF2.cell (Nat.lt_of_lt_of_le hlt HF1.out.size) (by intro e; exact absurd hlt (by simp at e; omega))).trans c1
  have HF2 := Lib.hid hF2; clear hF2
  have HA2 := Lib.hid hA2; clear hA2 hA1
  go_wp2_with fail
  go_ret
  exact ⟨rfl, HA2.out, HF1.out.trans HF2.out fun k hk e => absurd hk (by omega)⟩

theorem Head_none (p room cap : Nat) (a : Option Addr) (xs : List Value) (w : World) (h : RingAt w p room (.slice a 0 cap) 0 xs) :
    Calls Try.prog 14 #[.pointer (some ⟨p, 0, none⟩)] w fun e w' => e = .returned (.tuple #[.int .i64 0, .bool false]) ∧ w = w' := by
  have C := Lib.hid (Len p room 0 cap a w h.at_ (by omega))
  clear h
  go_enter Try.func14, Try.ntmps14
  go_wp2_with fail
  refine C.out.mono ?_
  rintro e w1 ⟨rfl, rfl⟩
  go_wp2_with fail
  go_ret2
  exact ⟨rfl, rfl⟩

theorem Head_some (p room n cap : Nat) (a : Option Addr) (x : Value) (xs : List Value) (w : World) (h : RingAt w p room (.slice a (n + 1) cap) (n + 1) (x :: xs)) :
    Calls Try.prog 14 #[.pointer (some ⟨p, 0, none⟩)] w fun e w' => e = .returned (.tuple #[x, .bool true]) ∧ w = w' := by
  have h1 : w.cell? ⟨p, 1, none⟩ = some (.slice a (n + 1) cap) := h.at_.cell 1
  have hle := h.le
  have hcap := h.cap
  have C := Lib.hid (Len p room (n + 1) cap a w h.at_ (by omega))
  obtain ⟨g, off, cap', hv, hc1, hc2, hg, hc⟩ := h.items.cell (by omega)
  have hc0 := hc 0 (by omega)
  simp only [Nat.add_zero, List.getElem?_cons_zero] at hc0
  obtain rfl : a = some ⟨g, off, none⟩ := by injection hv
  clear h hc hv
  go_enter Try.func14, Try.ntmps14
  go_wp2_with fail
  refine C.out.mono ?_
  rintro e w1 ⟨rfl, rfl⟩
  go_wp2_with fail
  go_ret2
  exact ⟨rfl, rfl⟩

theorem Push_full (p room cap : Nat) (a : Option Addr) (x : Int) (xs : List Value) (w : World) (h : RingAt w p room (.slice a room cap) room xs) :
    Calls Try.prog 9 #[.pointer (some ⟨p, 0, none⟩), .int .i64 x] w fun e w' => e = .returned (.bool false) ∧ ∃ k, w' = w.drewN k := by
  have C := Lib.hid (Room p room room cap a w h.at_ (Nat.le_refl _) h.cap)
  clear h
  go_enter Try.func9, Try.ntmps9
  go_wp2_with fail
  refine C.out.mono ?_
  rintro e w1 ⟨rfl, k, rfl⟩
  go_wp2_with fail
  go_ret
  exact ⟨rfl, _, rfl⟩

theorem Push_room (p room n cap : Nat) (a : Option Addr) (x : Int) (xs : List Value) (w : World) (h : RingAt w p room (.slice a n cap) n xs) (hn : n < room) :
    Calls Try.prog 9 #[.pointer (some ⟨p, 0, none⟩), .int .i64 x] w fun e w' => e = .returned (.bool true) ∧
      ∃ a' c', RingAt w' p room (.slice a' (n + 1) c') (n + 1) (xs ++ [.int .i64 x]) ∧ Foot (Own p (.slice a n cap)) w w' ∧ Moved w (.slice a n cap) (.slice a' (n + 1) c') := by
  have C := Lib.hid (Room p room n cap a w h.at_ h.le h.cap)
  have h1 : w.cell? ⟨p, 1, none⟩ = some (.slice a n cap) := h.at_.cell 1
  have hb : ((room : Int) - n == 0) = false := by rw [beq_eq_false_iff_ne]; omega
  obtain ⟨i0, hi, hz0, hz1, hz2⟩ := info_parts info_int
  have hcap := h.cap
  have hlt := h.at_.lt
  have H := Lib.hid h; clear h
  go_enter Try.func9, Try.ntmps9
  go_wp2_with fail
  refine C.out.mono ?_
  rintro e w1 ⟨rfl, k, rfl⟩
  go_wp2_with (at_builtin; refine wpList_append rfl (.tmp 12) (.tmp 14) 28 rfl 3 i0 (.int .i64 0) 1 Try.underlying28 hi hz0 hz1 rfl rfl ((H.out.items.drewN k).alloc _) ⟨w.heap.size, 0, none⟩ 1 1 [.int .i64 x] rfl rfl (cell_one_new _ _ _) (by simp [Value.oneCell']) (by omega) (by unfold maxLen; omega) (by rw [hz2]; omega) ?_)
  intro a' c' w2 hI hF hM
  have hne : ¬ (Value.slice a n cap).ownBlock = some p := H.out.apart
  have HA := Lib.hid ((((H.out.at_.drewN k).alloc _).keep hF hne))
  have hp1 : w2.cell? ⟨p, 1, none⟩ = some (.slice a n cap) := HA.out.cell 1
  have hp2 : w2.frozen? ⟨p, 1, none⟩ = false := HA.out.free 1
  have HF := Lib.hid hF; have HI := Lib.hid hI; have HM := Lib.hid hM
  clear hF hI hM hne
  go_wp2_with fail
  go_ret
  have hap : (Value.slice a' (n + 1) c').ownBlock ≠ some p := by
    intro e
    rcases HM.out p e with h1 | h1
    · exact H.out.apart h1
    · simp at h1; omega
  have F0 : Foot (Own p (.slice a n cap)) w w2 := ((((Foot.refl (Own p (.slice a n cap)) w).drewN k).alloc _).trans HF.out fun _ _ h => .inr h)
  refine ⟨rfl, a', c', ⟨HA.out.set 1 _, HI.out.setOther hap _, hap, by omega, hcap⟩, F0.setCell (fun _ => .inl rfl) _, fun g hg => ?_⟩
  rcases HM.out g hg with h1 | h1
  · exact .inl h1
  · simp at h1; exact .inr (by omega)

theorem Remove_out (p room n cap : Nat) (a : Option Addr) (k : Int) (xs : List Value) (w : World) (h : RingAt w p room (.slice a n cap) n xs) (hk : k < 0 ∨ n ≤ k) :
    Calls Try.prog 11 #[.pointer (some ⟨p, 0, none⟩), .int .i64 k] w fun e w' => e = .returned (.tuple #[.int .i64 0, .bool false]) ∧ w = w' := by
  have hle := h.le
  have hcap := h.cap
  have C := Lib.hid (Len p room n cap a w h.at_ (by omega))
  clear h
  by_cases h0 : k < 0
  · clear hk
    go_enter Try.func11, Try.ntmps11
    go_wp2_with fail
    go_ret2
    exact ⟨rfl, rfl⟩
  · have h1 : (n : Int) ≤ k := by omega
    clear hk
    go_enter Try.func11, Try.ntmps11
    go_wp2_with fail
    refine C.out.mono ?_
    rintro e w1 ⟨rfl, rfl⟩
    go_wp2_with fail
    go_ret2
    exact ⟨rfl, rfl⟩

theorem drop_set {α : Type} (l : List α) (i j : Nat) (x : α) (h : i < j) : (l.set i x).drop j = l.drop j := by
  apply List.ext_getElem?
  intro m
  rw [List.getElem?_drop, List.getElem?_drop, List.getElem?_set]
  rw [if_neg (by omega)]

theorem rem_close (p room n cap k g off C : Nat) (A : Option Addr) (z : Value) (xs : List Value) (cur : Array Value) (w w2 : World) (H : RingAt w p room (.slice (some ⟨g, off, none⟩) n cap) n xs) (hC : C = cap - 1) (hk : k < n) (hnc : n ≤ cap) (hm : cap ≤ maxLen)
    (hfit : off + cap * 1 ≤ cur.size) (HC : (cur.toList.drop off).take (n * 1) = xs) (HA : At w2 g 3 (laid cur (off + 1) (xs.take k))) (HF : Foot (fun k => k = g) w.drew w2)
    (hA : (A = some ⟨g, off, none⟩ ∧ cap = 1) ∨ A = some ⟨g, off + 1, none⟩ ∧ ¬ cap = 1) :
    RingAt ((w2.setCell ⟨g, off, none⟩ z).setCell ⟨p, 1, none⟩ (.slice A (n - 1) C)) p room (.slice A (n - 1) C) (n - 1) (xs.take k ++ xs.drop (k + 1)) ∧
      Foot (Own p (.slice (some ⟨g, off, none⟩) n cap)) w ((w2.setCell ⟨g, off, none⟩ z).setCell ⟨p, 1, none⟩ (.slice A (n - 1) C)) ∧ Moved w (.slice (some ⟨g, off, none⟩) n cap) (.slice A (n - 1) C) := by

  have hgp : g ≠ p := fun e => H.apart (by rw [e]; rfl)
  have hxl := H.items.1
  have hown : (Value.slice A (n - 1) C).ownBlock = some g := by rcases hA with ⟨rfl, _⟩ | ⟨rfl, _⟩ <;> rfl
  have hlen : (xs.take k ++ xs.drop (k + 1)).length = (n - 1) * 1 := by rw [List.length_append, List.length_take, List.length_drop]; omega
  have hp2 : At w2 p 54 #[.int .i64 room, .slice (some ⟨g, off, none⟩) n cap] := (show At w.drew p _ _ from H.at_).keep HF (fun e => hgp e.symm)
  refine ⟨⟨(hp2.setOther (p := ⟨g, off, none⟩) (fun e => hgp e.symm) z).set 1 _, ?_, by rw [hown]; simpa using hgp, by have := H.le; omega, H.cap⟩, ?_, fun g' hg' => .inl (by rw [hown] at hg'; exact hg')⟩
  · refine Items.setOther ?_ (by rw [hown]; simpa using hgp) _
    have hb := HA.set off z
    refine ⟨hlen, A, C, rfl, by omega, by omega, fun x hx => ?_, fun hc => ?_⟩
    · have hl := hb.lt
      rcases hA with ⟨rfl, _⟩ | ⟨rfl, _⟩ <;> (cases hx; exact hl)
    · rcases hA with ⟨_, h1⟩ | ⟨rfl, h1⟩
      · omega
      · have hfit' : off + 1 + (xs.take k).length ≤ cur.size := by rw [List.length_take]; omega
        refine ⟨g, off + 1, _, rfl, hb, by rw [Array.size_setIfInBounds, size_laid hfit']; omega, ?_⟩
        have hs := laid_shift (L := cur) (M := ((laid cur (off + 1) (xs.take k)).setIfInBounds off z).toList) (off := off) (sz := 1) (n := n) (k := k) HC hxl (by omega) hk
          (by rw [Array.toList_setIfInBounds, drop_set _ _ _ _ (by omega), Nat.mul_one])
        rw [hs, Nat.mul_one, Nat.mul_one]
  · exact ((((Foot.refl (Own p (.slice (some ⟨g, off, none⟩) n cap)) w).drew).trans HF fun x _ e => by subst e; exact .inr rfl).setCell (p := ⟨g, off, none⟩) (fun _ => .inr rfl) _).setCell (p := ⟨p, 1, none⟩) (fun _ => .inl rfl) _

theorem Remove_in (p room n cap k : Nat) (a : Option Addr) (x : Value) (xs : List Value) (w : World) (h : RingAt w p room (.slice a n cap) n xs) (h1c : ∀ v ∈ xs, v.oneCell' = true) (hk : k < n) (hx : xs[k]? = some x) :
    Calls Try.prog 11 #[.pointer (some ⟨p, 0, none⟩), .int .i64 k] w fun e w' => e = .returned (.tuple #[x, .bool true]) ∧
      ∃ a' c', RingAt w' p room (.slice a' (n - 1) c') (n - 1) (xs.take k ++ xs.drop (k + 1)) ∧ Foot (Own p (.slice a n cap)) w w' ∧ Moved w (.slice a n cap) (.slice a' (n - 1) c') := by
  have hle := h.le
  have hcap := h.cap
  have C := Lib.hid (Len p room n cap a w h.at_ (by omega))
  have hp1 : w.cell? ⟨p, 1, none⟩ = some (.slice a n cap) := h.at_.cell 1
  have hpf : w.frozen? ⟨p, 1, none⟩ = false := h.at_.free 1
  obtain ⟨g, off, cap', cur, hv, hc1, hc2, hg, hfit, hcur⟩ := h.items.open (by omega)
  obtain ⟨rfl, rfl⟩ : a = some ⟨g, off, none⟩ ∧ cap = cap' := by injection hv with h1 _ h2; exact ⟨h1, h2⟩
  obtain ⟨i0, hi, hz0, hz1, hz2⟩ := info_parts info_int
  have hgp : g ≠ p := fun e => h.apart (by rw [e]; rfl)
  have hck : w.cell? ⟨g, off + k, none⟩ = some x := by rw [hg.cell, ← Array.getElem?_toList, take_drop_get hcur (by omega)]; exact hx
  have hw1 : IntKind.i64.wrap ((k : Int) + 1) = (k : Int) + 1 := by rw [IntKind.wrap_i64]; unfold maxLen at hc2; omega
  have ht1 : ((k : Int) + 1).toNat = k + 1 := by omega
  have hb1 : (0 : Int) ≤ (k : Int) + 1 := by omega
  have hb2 : (1 : Int) ≤ (k : Int) + 1 := by omega
  have hb3 : (k : Int) + 1 ≤ (cap : Int) := by omega
  have hb4 : (k : Int) ≤ (cap : Int) := by omega
  have hb5 : ¬ cap = 0 := by omega
  have H := Lib.hid h; have H1c := Lib.hid h1c; have HG := Lib.hid hg; have HC := Lib.hid hcur; have HX := Lib.hid hx
  have HL : Hid ((xs.take k).length = Nat.min k k * 1) := Lib.hid (by rw [List.length_take, H.out.items.1]; simp; omega)
  have HLk : Hid ((xs.take k).length = k) := Lib.hid (by rw [List.length_take, H.out.items.1]; omega)
  have HP := Lib.hid (fun (hpos : 0 < Nat.min k k) => show (if cap = 1 then some (⟨g, off, none⟩ : Addr) else some ⟨g, off + 1, none⟩) = some ⟨g, off + 1, none⟩ ∧ ∃ ad, some (⟨g, off, none⟩ : Addr) = some ad ∧ ∀ j v, (xs.take k)[j]? = some v → w.drew.cell? (ad.add j) = some v by
    have hn : 0 < k := by simpa using hpos
    refine ⟨by rw [if_neg (by omega)], _, rfl, fun j v hj => ?_⟩
    have hjl := (List.getElem?_eq_some_iff.1 hj).1
    have hadd : (⟨g, off, none⟩ : Addr).add j = ⟨g, off + j, none⟩ := by unfold Addr.add; split <;> simp_all
    rw [List.getElem?_take, if_pos (by rw [HLk.out] at hjl; exact hjl)] at hj
    rw [HLk.out] at hjl
    rw [hadd]
    show w.cell? ⟨g, off + j, none⟩ = some v
    rw [HG.out.cell, ← Array.getElem?_toList, take_drop_get HC.out (by omega)]
    exact hj)
  have HGd : Hid (At w.drew g 3 cur) := Lib.hid (show At w g 3 cur from HG.out)
  have H1t := Lib.hid (show ∀ v ∈ xs.take k, v.oneCell' = true from fun v hv => H1c.out v (List.mem_of_mem_take hv))
  have HFT := Lib.hid (show off + 1 + (xs.take k).length ≤ cur.size by rw [HLk.out]; omega)
  clear h h1c hg hcur hv hx
  go_enter Try.func11, Try.ntmps11
  go_wp2_with fail
  refine C.out.mono ?_
  rintro e w1 ⟨rfl, rfl⟩
  go_wp2_with fail
  go_still_tail 13, (by kernel_rfl)
  change wpList _ _ _ _ _ w.drew
  go_wp2_with (with_reducible refine wpList_copy rfl (.tmp 30) (.tmp 36) 28 28 rfl 3 i0 1 Try.underlying28 hi hz1 _ _ k (cap - 1) k cap rfl rfl g (off + 1) cur 3 HGd.out (xs.take k) HL.out HP.out HFT.out H1t.out ?_)
  all_goals
    intro w2 hA2 hF2
    have HA := Lib.hid hA2; have HF := Lib.hid hF2
    clear hA2 hF2
    have c2 : w2.cell? ⟨p, 1, none⟩ = some (.slice (some ⟨g, off, none⟩) n cap) := (HF.out.cell H.out.at_.lt (fun e => hgp (e.symm))).trans hp1
    have f2 : w2.frozen? ⟨p, 1, none⟩ = false := (HF.out.frozen H.out.at_.lt (fun e => hgp (e.symm))).trans hpf
    have hsz := size_laid HFT.out
    have hlast : ∃ y, (laid cur (off + 1) (xs.take k))[off]? = some y := ⟨_, Array.getElem?_eq_getElem (by omega)⟩
    obtain ⟨y, hy⟩ := hlast
    have c3 : w2.cell? ⟨g, off, none⟩ = some y := (HA.out.cell off).trans hy
    have f3 : w2.frozen? ⟨g, off, none⟩ = false := HA.out.free off
    have hn0 : (0 : Int) < (n : Int) := by omega
    have hn1 : (1 : Int) ≤ (n : Int) := by omega
    have HS := Lib.hid hsz; clear hsz hy
    go_wp2_with fail
    go_ret2
    refine ⟨rfl, _, _, rem_close p room n cap k g off _ _ _ xs cur w w2 H.out (by omega) hk hc1 hc2 hfit HC.out HA.out HF.out ?_⟩
    first | exact .inl ⟨rfl, by assumption⟩ | exact .inr ⟨rfl, by assumption⟩

theorem Pop_none (p room cap : Nat) (a : Option Addr) (xs : List Value) (w : World) (h : RingAt w p room (.slice a 0 cap) 0 xs) :
    Calls Try.prog 10 #[.pointer (some ⟨p, 0, none⟩)] w fun e w' => e = .returned (.tuple #[.int .i64 0, .bool false]) ∧ w = w' := by
  have C := Lib.hid (Remove_out p room 0 cap a 0 xs w h (.inr (Int.le_refl _)))
  clear h
  go_enter Try.func10, Try.ntmps10
  go_wp2_with fail
  refine C.out.mono ?_
  rintro e w1 ⟨rfl, rfl⟩
  go_wp2_with fail
  go_ret2
  exact ⟨rfl, rfl⟩

/-- What taking element k away does to a Ring. -/
def Taken (w : World) (p room n : Nat) (v : Value) (xs : List Value) (w' : World) : Prop :=
  ∃ a' c', RingAt w' p room (.slice a' n c') n xs ∧ Foot (Own p v) w w' ∧ Moved w v (.slice a' n c')

theorem Pop_some (p room n cap : Nat) (a : Option Addr) (x : Value) (xs : List Value) (w : World) (h : RingAt w p room (.slice a (n + 1) cap) (n + 1) (x :: xs)) (h1c : ∀ v ∈ x :: xs, v.oneCell' = true) :
    Calls Try.prog 10 #[.pointer (some ⟨p, 0, none⟩)] w fun e w' => e = .returned (.tuple #[x, .bool true]) ∧ Taken w p room n (.slice a (n + 1) cap) xs w' := by
  have C0 := Remove_in p room (n + 1) cap 0 a x (x :: xs) w h h1c (by omega) rfl
  have C : Hid (Calls Try.prog 11 #[.pointer (some ⟨p, 0, none⟩), .int .i64 0] w fun e w' => e = .returned (.tuple #[x, .bool true]) ∧ Taken w p room n (.slice a (n + 1) cap) xs w') := Lib.hid (C0.mono fun _ _ h => h)
  clear h h1c C0
  go_enter Try.func10, Try.ntmps10
  go_wp2_with fail
  refine C.out.mono ?_
  rintro e w1 ⟨rfl, HT⟩
  go_wp2_with fail
  go_ret2
  exact ⟨rfl, HT⟩

/-- What Clear leaves. -/
def Cleared (w : World) (p room n : Nat) (xs : List Value) (w' : World) : Prop :=
  At w' w.heap.size 3 xs.toArray ∧ RingAt w' p room (.slice none 0 0) 0 [] ∧ Foot (fun k => k = p) w w'

theorem Clear (p room n cap : Nat) (a : Option Addr) (xs : List Value) (w : World) (h : RingAt w p room (.slice a n cap) n xs) (h1c : ∀ v ∈ xs, v.oneCell' = true) :
    Calls Try.prog 13 #[.pointer (some ⟨p, 0, none⟩)] w fun e w' => e = .returned (.slice (some ⟨w.heap.size, 0, none⟩) n n) ∧ Cleared w p room n xs w' := by
  have C := Lib.hid (All p room n cap a xs w h h1c)
  have hlt := h.at_.lt
  have H := Lib.hid h
  clear h h1c
  go_enter Try.func13, Try.ntmps13
  go_wp2_with fail
  refine C.out.mono ?_
  rintro e w1 ⟨rfl, hA, hF⟩
  have HA := Lib.hid hA; have HF := Lib.hid hF
  clear hA hF
  have HP := Lib.hid (H.out.at_.keep HF.out id)
  have c1 : w1.cell? ⟨p, 1, none⟩ = some (.slice a n cap) := HP.out.cell 1
  have f1 : w1.frozen? ⟨p, 1, none⟩ = false := HP.out.free 1
  go_wp2_with fail
  go_ret
  refine ⟨rfl, HA.out.setOther (p := ⟨p, 1, none⟩) (by simp; omega) _, ⟨HP.out.set 1 _, Items.nil _ _ _, by simp [Value.ownBlock], Nat.zero_le _, H.out.cap⟩, ?_⟩
  exact (HF.out.mono (T := fun k => k = p) fun _ _ h => h.elim).setCell (p := ⟨p, 1, none⟩) (fun _ => rfl) _

section
variable (w : World)
theorem Len_nil : Calls Try.prog 16 #[.pointer none] w fun e w' => e = .returned (.int .i64 0) ∧ w = w' := by
  go_enter Try.func16, Try.ntmps16
  go_wp2_with fail
  go_ret
  exact ⟨rfl, rfl⟩
theorem Room_nil : Calls Try.prog 17 #[.pointer none] w fun e w' => e = .returned (.int .i64 0) ∧ w = w' := by
  go_enter Try.func17, Try.ntmps17
  go_wp2_with fail
  go_ret
  exact ⟨rfl, rfl⟩
theorem Push_nil (x : Int) : Calls Try.prog 9 #[.pointer none, .int .i64 x] w fun e w' => e = .returned (.bool false) ∧ w = w' := by
  go_enter Try.func9, Try.ntmps9
  go_wp2_with fail
  refine (Room_nil _).mono ?_
  rintro e w1 ⟨rfl, rfl⟩
  go_wp2_with fail
  go_ret
  exact ⟨rfl, rfl⟩
theorem Head_nil : Calls Try.prog 14 #[.pointer none] w fun e w' => e = .returned (.tuple #[.int .i64 0, .bool false]) ∧ w = w' := by
  go_enter Try.func14, Try.ntmps14
  go_wp2_with fail
  refine (Len_nil _).mono ?_
  rintro e w1 ⟨rfl, rfl⟩
  go_wp2_with fail
  go_ret2
  exact ⟨rfl, rfl⟩
theorem Remove_nil (k : Int) : Calls Try.prog 11 #[.pointer none, .int .i64 k] w fun e w' => e = .returned (.tuple #[.int .i64 0, .bool false]) ∧ w = w' := by
  by_cases h0 : k < 0
  · go_enter Try.func11, Try.ntmps11
    go_wp2_with fail
    go_ret2
    exact ⟨rfl, rfl⟩
  · have h1 : (0 : Int) ≤ k := by omega
    go_enter Try.func11, Try.ntmps11
    go_wp2_with fail
    refine (Len_nil _).mono ?_
    rintro e w1 ⟨rfl, rfl⟩
    go_wp2_with fail
    go_ret2
    exact ⟨rfl, rfl⟩
theorem Pop_nil : Calls Try.prog 10 #[.pointer none] w fun e w' => e = .returned (.tuple #[.int .i64 0, .bool false]) ∧ w = w' := by
  go_enter Try.func10, Try.ntmps10
  go_wp2_with fail
  refine (Remove_nil _ _).mono ?_
  rintro e w1 ⟨rfl, rfl⟩
  go_wp2_with fail
  go_ret2
  exact ⟨rfl, rfl⟩
theorem All_nil : Calls Try.prog 15 #[.pointer none] w fun e w' => e = .returned (.slice none 0 0) ∧ w = w' := by
  go_enter Try.func15, Try.ntmps15
  go_wp2_with fail
  go_ret
  exact ⟨rfl, rfl⟩
theorem Clear_nil : Calls Try.prog 13 #[.pointer none] w fun e w' => e = .returned (.slice none 0 0) ∧ w = w' := by
  go_enter Try.func13, Try.ntmps13
  go_wp2_with fail
  refine (All_nil _).mono ?_
  rintro e w1 ⟨rfl, rfl⟩
  go_wp2_with fail
  go_ret
  exact ⟨rfl, rfl⟩
end

end Go.Proofs.Ytmiebedoijnnaaa.Ring
