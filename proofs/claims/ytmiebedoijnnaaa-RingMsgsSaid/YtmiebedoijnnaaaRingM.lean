/- The contracts of package ring at elements of one message (a string and a number): New, Push, Pop, Head, Remove, All, Len, Room. -/
import Derived.Test.YtmiebedoijnnaaaChecked
import Derived.Test.YtmiebedoijnnaaaMem
import Derived.StillTailTactics
import Derived.Deep.QuietTactic
import Derived.Deep.RegionLaw
import Derived.BigQuiet
import Derived.LoopTactic
namespace Go.Proofs.Ytmiebedoijnnaaa.RingM
open Go.RowKit Mem
set_option linter.unusedVariables false

theorem info_msg : (Try.prog.info? 44).map (fun i => (i.zero, i.size, i.bytes)) = some (some (.agg #[.string ⟨#[]⟩, .int .i64 0]), 2, 24) := by kernel_rfl

/-- The messages' cells. -/
def flat : List (ByteArray × Int) → List Value
  | [] => []
  | m :: ms => .string m.1 :: .int .i64 m.2 :: flat ms
theorem flat_append (a b : List (ByteArray × Int)) : flat (a ++ b) = flat a ++ flat b := by
  induction a with
  | nil => rfl
  | cons m a ih => simp [flat, ih]
theorem flat_length (a : List (ByteArray × Int)) : (flat a).length = a.length * 2 := by
  induction a with
  | nil => rfl
  | cons m a ih => simp [flat, ih]; omega
theorem flat_one (a : List (ByteArray × Int)) : ∀ v ∈ flat a, v.oneCell' = true := by
  induction a with
  | nil => intro v hv; cases hv
  | cons m a ih =>
    intro v hv
    simp only [flat, List.mem_cons] at hv
    rcases hv with rfl | rfl | hv
    · rfl
    · rfl
    · exact ih v hv
theorem flat_get (a : List (ByteArray × Int)) {k : Nat} {m : ByteArray × Int} (h : a[k]? = some m) : (flat a)[k * 2]? = some (.string m.1) ∧ (flat a)[k * 2 + 1]? = some (.int .i64 m.2) := by
  induction a generalizing k with
  | nil => simp at h
  | cons x a ih =>
    cases k with
    | zero => simp at h; subst h; exact ⟨rfl, rfl⟩
    | succ k =>
      obtain ⟨h1, h2⟩ := ih (k := k) (by simpa using h)
      simp only [flat, show (k + 1) * 2 = k * 2 + 1 + 1 by omega, List.getElem?_cons_succ]
      exact ⟨h1, h2⟩

/-- The Ring at block p: its capacity, its slice's value v, its n messages ms. -/
structure RingAt (w : World) (p room : Nat) (v : Value) (n : Nat) (ms : List (ByteArray × Int)) : Prop where
  at_ : At w p 56 #[.int .i64 room, v]
  items : Items w 44 2 v n (flat ms)
  apart : v.ownBlock ≠ some p
  le : n ≤ room
  cap : room ≤ 65536

def Own (p : Nat) (v : Value) (k : Nat) : Prop := k = p ∨ v.ownBlock = some k
theorem RingAt.keep {S : Nat → Prop} {w w1 : World} {p room n : Nat} {v : Value} {ms : List (ByteArray × Int)} (h : RingAt w p room v n ms) (hf : Foot S w w1) (hd : ∀ k, Own p v k → ¬ S k) : RingAt w1 p room v n ms :=
  ⟨h.at_.keep hf (hd p (.inl rfl)), h.items.keep hf fun g hg => hd g (.inr hg), h.apart, h.le, h.cap⟩
theorem RingAt.ownLt {w : World} {p room n : Nat} {v : Value} {ms : List (ByteArray × Int)} (h : RingAt w p room v n ms) {k : Nat} (hk : Own p v k) : k < w.heap.size := by
  rcases hk with rfl | hk
  · exact h.at_.lt
  · exact h.items.lt hk
theorem RingAt.len {w : World} {p room n : Nat} {v : Value} {ms : List (ByteArray × Int)} (h : RingAt w p room v n ms) : ms.length = n := by
  have := h.items.1
  rw [flat_length] at this
  omega

theorem New_ok (m : Nat) (w : World) (h : m ≤ 65536) :
    Calls Try.prog 18 #[.int .i64 m] w fun e w' => e = .returned (.tuple #[.pointer (some ⟨w.heap.size, 0, none⟩), .int .i64 0]) ∧ RingAt w' w.heap.size m (.slice none 0 0) 0 [] ∧ Foot (fun _ => False) w w' := by
  go_enter Try.func18, Try.ntmps18
  go_wp2_with fail
  go_ret2
  exact ⟨rfl, ⟨At.new _ _ _, Items.nil _ _ _, by simp [Value.ownBlock], Nat.zero_le _, h⟩, (Foot.refl _ w).alloc _⟩

theorem Len (p room n cap : Nat) (a : Option Addr) (w : World) (h : At w p 56 #[.int .i64 room, .slice a n cap]) (hn : n ≤ 9223372036854775807) :
    Calls Try.prog 24 #[.pointer (some ⟨p, 0, none⟩)] w fun e w' => e = .returned (.int .i64 n) ∧ w = w' := by
  have h1 : w.cell? ⟨p, 1, none⟩ = some (.slice a n cap) := h.cell 1
  go_enter Try.func24, Try.ntmps24
  go_wp2_with fail
  go_ret
  exact ⟨rfl, rfl⟩

theorem Room (p room n cap : Nat) (a : Option Addr) (w : World) (h : At w p 56 #[.int .i64 room, .slice a n cap]) (hn : n ≤ room) (hr : room ≤ 65536) :
    Calls Try.prog 25 #[.pointer (some ⟨p, 0, none⟩)] w fun e w' => e = .returned (.int .i64 ((room : Int) - n)) ∧ ∃ k, w' = w.drewN k := by
  have h0 : w.cell? ⟨p, 0, none⟩ = some (.int .i64 room) := h.cell 0
  have h1 : w.cell? ⟨p, 1, none⟩ = some (.slice a n cap) := h.cell 1
  have hw : IntKind.i64.wrap ((room : Int) - n) = (room : Int) - n := by rw [IntKind.wrap_i64]; omega
  go_enter Try.func25, Try.ntmps25
  go_wp2_with fail
  go_quiet (fail)
  go_wp2_with fail
  go_ret
  exact ⟨rfl, _, rfl⟩

theorem Push_full (p room cap : Nat) (a : Option Addr) (s : ByteArray) (x : Int) (ms : List (ByteArray × Int)) (w : World) (h : RingAt w p room (.slice a room cap) room ms) :
    Calls Try.prog 19 #[.pointer (some ⟨p, 0, none⟩), .agg #[.string s, .int .i64 x]] w fun e w' => e = .returned (.bool false) ∧ Foot (fun _ => False) w w' := by
  have H := Lib.hid h; clear h
  go_enter Try.func19, Try.ntmps19
  go_wp2_with fail
  refine (Room p room room cap a _ (H.out.at_.alloc _) (Nat.le_refl _) H.out.cap).mono ?_
  rintro e w1 ⟨rfl, k, rfl⟩
  go_wp2_with fail
  go_ret
  exact ⟨rfl, ((Foot.refl _ w).alloc _).drewN k⟩

theorem news_two (w : World) (s : ByteArray) (x : Int) (t : TypeId) (H : Nat) (hH : w.heap.size = H) : ∀ j u, (flat [(s, x)])[j]? = some u → (w.alloc (.cells #[.string s, .int .i64 x] t)).cell? ((⟨H, 0, none⟩ : Addr).add j) = some u := by
  subst hH
  intro j u hj
  have hadd : (⟨w.heap.size, 0, none⟩ : Addr).add j = ⟨w.heap.size, j, none⟩ := by unfold Addr.add; split <;> simp_all
  rw [hadd, (At.new w t _).cell]
  match j, hj with
  | 0, hj => exact hj
  | 1, hj => exact hj

set_option maxHeartbeats 1000000 in
theorem Push_room (p room n cap : Nat) (a : Option Addr) (s : ByteArray) (x : Int) (ms : List (ByteArray × Int)) (w : World) (h : RingAt w p room (.slice a n cap) n ms) (hn : n < room) :
    Calls Try.prog 19 #[.pointer (some ⟨p, 0, none⟩), .agg #[.string s, .int .i64 x]] w fun e w' => e = .returned (.bool true) ∧
      ∃ a' c', RingAt w' p room (.slice a' (n + 1) c') (n + 1) (ms ++ [(s, x)]) ∧ Foot (Own p (.slice a n cap)) w w' ∧ Moved w (.slice a n cap) (.slice a' (n + 1) c') := by
  have h1 : w.cell? ⟨p, 1, none⟩ = some (.slice a n cap) := h.at_.cell 1
  have hb : ((room : Int) - n == 0) = false := by rw [beq_eq_false_iff_ne]; omega
  obtain ⟨i0, hi, hz0, hz1, hz2⟩ := info_parts info_msg
  have hcap := h.cap
  have hlt := h.at_.lt
  have hpn : p ≠ w.heap.size := by omega
  have H := Lib.hid h; clear h
  go_enter Try.func19, Try.ntmps19
  go_wp2_with fail
  refine (Room p room n cap a _ (H.out.at_.alloc _) H.out.le H.out.cap).mono ?_
  rintro e w1 ⟨rfl, k, rfl⟩
  go_wp2_with fail
  have HW : Hid (((w.alloc (.cells #[.string s, .int .i64 x] 44)).drewN (k + 1)).heap.size = w.heap.size + 1) := Lib.hid (by simp)
  have HI := Lib.hid (((H.out.items.alloc (.cells #[.string s, .int .i64 x] 44)).drewN (k + 1)).alloc (.cells #[.string s, .int .i64 x] 44))
  have HN := Lib.hid (news_two ((w.alloc (.cells #[.string s, .int .i64 x] 44)).drewN (k + 1)) s x 44 (w.heap.size + 1) HW.out)
  have HO := Lib.hid (flat_one [(s, x)])
  have HP := Lib.hid (((H.out.at_.alloc (.cells #[.string s, .int .i64 x] 44)).drewN (k + 1)).alloc (.cells #[.string s, .int .i64 x] 44))
  have F0 : Hid (Foot (Own p (.slice a n cap)) w (((w.alloc (.cells #[.string s, .int .i64 x] 44)).drewN (k + 1)).alloc (.cells #[.string s, .int .i64 x] 44))) := Lib.hid ((((Foot.refl _ w).alloc _).drewN _).alloc _)
  go_region_law ((refine step_of_wp rfl (wp_append (.tmp 12) (.tmp 14) 39 rfl 44 i0 (.agg #[.string ⟨#[]⟩, .int .i64 0]) 2 Try.underlying39 hi hz0 hz1 rfl rfl HI.out ⟨w.heap.size + 1, 0, none⟩ 1 1 (flat [(s, x)]) rfl rfl HN.out HO.out (by omega) (by unfold maxLen; omega) (by rw [hz2]; omega) ?_); intro a' c' w2 hI hF hM; have HA := Lib.hid (HP.out.keep hF H.out.apart); have hp1 : w2.cell? ⟨p, 1, none⟩ = some (.slice a n cap) := HA.out.cell 1; have hp2 : w2.frozen? ⟨p, 1, none⟩ = false := HA.out.free 1; have HF : Hid (Foot (Own p (.slice a n cap)) w w2) := Lib.hid (F0.out.trans hF fun _ _ h => .inr h); have HJ := Lib.hid hI; have HM : Hid (Moved (((w.alloc (.cells #[.string s, .int .i64 x] 44)).drewN (k + 1)).alloc (.cells #[.string s, .int .i64 x] 44)) (.slice a n cap) (.slice a' (n + 1) c')) := Lib.hid hM; clear hF hI hM))
  all_goals
    go_wp2_with fail
    go_ret
    have HM' : Moved w (.slice a n cap) (.slice a' (n + 1) c') := fun g hg => by
      rcases HM.out g hg with h1 | h1
      · exact .inl h1
      · simp at h1; exact .inr (by omega)
    have hap : (Value.slice a' (n + 1) c').ownBlock ≠ some p := HM'.apart H.out.apart hlt
    exact ⟨rfl, a', c', ⟨HA.out.set 1 _, by rw [flat_append]; exact HJ.out.setOther hap _, hap, by omega, hcap⟩, HF.out.setCell (fun _ => .inl rfl) _, HM'⟩

abbrev Msg (m : ByteArray × Int) : Value := .agg #[.string m.1, .int .i64 m.2]
theorem MsgEq (m : ByteArray × Int) : Msg m = .agg #[.string m.1, .int .i64 m.2] := rfl

theorem Head_some (p room n cap : Nat) (a : Option Addr) (s : ByteArray) (x : Int) (ms : List (ByteArray × Int)) (w : World) (h : RingAt w p room (.slice a (n + 1) cap) (n + 1) ((s, x) :: ms)) :
    Calls Try.prog 22 #[.pointer (some ⟨p, 0, none⟩)] w fun e w' => e = .returned (.tuple #[.agg #[.string s, .int .i64 x], .bool true]) ∧ Foot (fun _ => False) w w' := by
  have hle := h.le
  have hcap := h.cap
  have hlt := h.at_.lt
  have H := Lib.hid h
  obtain ⟨g, off, cap', hv, hc1, hc2, hg, hc⟩ := h.items.cell (by omega)
  have hc0 := hc 0 (by omega)
  have hcx := hc 1 (by omega)
  simp only [Nat.add_zero, flat, List.getElem?_cons_zero, List.getElem?_cons_succ] at hc0 hcx
  obtain rfl : a = some ⟨g, off, none⟩ := by injection hv
  have h1 : w.cell? ⟨p, 1, none⟩ = some (.slice (some ⟨g, off, none⟩) (n + 1) cap) := h.at_.cell 1
  clear h hc hv
  go_enter Try.func22, Try.ntmps22
  go_wp2_with fail
  refine (Len p room (n + 1) cap _ _ ((H.out.at_.alloc _).alloc _) (by omega)).mono ?_
  rintro e w1 ⟨rfl, rfl⟩
  go_wp2_with fail
  refine bodyPost_ret (v := .tuple #[.agg #[.string s, .int .i64 x], .bool true]) (by simp [results, Try.results22, go_sem]) rfl ⟨rfl, ?_⟩
  exact ((Foot.refl (fun _ => False) w).alloc _).alloc _

theorem All (p room n cap : Nat) (a : Option Addr) (ms : List (ByteArray × Int)) (w : World) (h : RingAt w p room (.slice a n cap) n ms) :
    Calls Try.prog 21 #[.pointer (some ⟨p, 0, none⟩)] w fun e w' => e = .returned (.slice (some ⟨w.heap.size, 0, none⟩) n n) ∧ At w' w.heap.size 44 (flat ms).toArray ∧ Foot (fun _ => False) w w' := by
  have h1 : w.cell? ⟨p, 1, none⟩ = some (.slice a n cap) := h.at_.cell 1
  obtain ⟨i0, hi, hz0, hz1, hz2⟩ := info_parts info_msg
  have hle := h.le
  have hcap := h.cap
  have hlt := h.at_.lt
  have H := Lib.hid h; clear h
  have hlen := Lib.hid H.out.items.1
  go_enter Try.func21, Try.ntmps21
  go_wp2_with (at_make; refine wpList_make rfl _ _ 39 rfl 44 i0 (.agg #[.string ⟨#[]⟩, .int .i64 0]) 2 Try.underlying39 hi hz0 hz1 n rfl rfl (by rw [hz2]; omega) (by unfold maxLen; omega) ?_)
  intro w1 hA1 hF1
  have c1 : w1.cell? ⟨p, 1, none⟩ = some (.slice a n cap) := (hF1.cell hlt id).trans h1
  have HF1 := Lib.hid hF1; clear hF1
  have HP := Lib.hid (fun (hpos : 0 < Nat.min n n) => show some (⟨w.heap.size, 0, none⟩ : Addr) = some ⟨w.heap.size, 0, none⟩ ∧ ∃ ad, a = some ad ∧ ∀ j v, (flat ms)[j]? = some v → w1.cell? (ad.add j) = some v by
    have hn : 0 < n := by simpa using hpos
    obtain ⟨g, off, cap', hv, _, _, hg, hc⟩ := H.out.items.cell hn
    have hv' : a = some ⟨g, off, none⟩ := by injection hv
    refine ⟨rfl, ⟨g, off, none⟩, hv', fun j v hj => ?_⟩
    have hjl := (List.getElem?_eq_some_iff.1 hj).1
    have hadd : (⟨g, off, none⟩ : Addr).add j = ⟨g, off + j, none⟩ := by unfold Addr.add; split <;> simp_all
    rw [hadd, HF1.out.cell (by exact hg) id, hc j (by rw [← H.out.items.1]; exact hjl)]
    exact hj)
  have HL := Lib.hid (show (flat ms).length = Nat.min n n * 2 by rw [hlen.out]; simp)
  have HZ : Hid (∀ C, At w1 w.heap.size 44 C → C.size = n * 2 → C.size = (flat ms).length) := Lib.hid (fun C _ h => by rw [h, hlen.out])
  obtain ⟨C, hC, hCz⟩ : ∃ C : Array Value, At w1 w.heap.size 44 C ∧ C.size = (flat ms).length := ⟨_, hA1, by rw [size_madeCells, hlen.out]⟩
  have HC := Lib.hid hC; have HCz := Lib.hid hCz; clear hC hCz hA1 HZ
  have HO := Lib.hid (flat_one ms)
  go_wp2_with (with_reducible refine wpList_copy rfl (.tmp 12) (.tmp 16) 39 39 rfl 44 i0 2 Try.underlying39 hi hz1 _ _ n n n cap rfl rfl w.heap.size 0 C 44 HC.out (flat ms) HL.out HP.out (by rw [HCz.out]; omega) HO.out ?_)
  intro w2 hA2 hF2
  rw [laid_all HCz.out] at hA2
  have c2 : w2.cell? ⟨p, 1, none⟩ = some (.slice a n cap) := (hF2.cell (Nat.lt_of_lt_of_le hlt HF1.out.size) (by intro e; exact absurd hlt (by simp at e; omega))).trans c1
  have HF2 := Lib.hid hF2; clear hF2
  have HA2 := Lib.hid hA2; clear hA2
  go_wp2_with fail
  go_ret
  exact ⟨rfl, HA2.out, HF1.out.trans HF2.out fun k hk e => absurd hk (by omega)⟩

theorem drop_set {α : Type} (l : List α) (i j : Nat) (x : α) (h : i < j) : (l.set i x).drop j = l.drop j := by
  apply List.ext_getElem?
  intro m
  rw [List.getElem?_drop, List.getElem?_drop, List.getElem?_set]
  rw [if_neg (by omega)]
theorem flat_cut (ms : List (ByteArray × Int)) (k : Nat) : (flat ms).take (k * 2) ++ (flat ms).drop ((k + 1) * 2) = flat (ms.take k ++ ms.drop (k + 1)) := by
  induction ms generalizing k with
  | nil => simp [flat]
  | cons m ms ih =>
    cases k with
    | zero => simp [flat]
    | succ k =>
      have h := ih k
      simp only [flat, show (k + 1) * 2 = k * 2 + 1 + 1 by omega, show (k + 1 + 1) * 2 = (k + 1) * 2 + 1 + 1 by omega, List.take_succ_cons, List.drop_succ_cons, List.cons_append]
      simp only [show (k + 1) * 2 = k * 2 + 1 + 1 by omega] at h
      rw [h]

theorem rem_close (p room n cap k g off C : Nat) (A : Option Addr) (z0 z1 : Value) (ms : List (ByteArray × Int)) (cur : Array Value) (w wd w2 : World) (H : RingAt w p room (.slice (some ⟨g, off, none⟩) n cap) n ms) (hC : C = cap - 1) (hk : k < n) (hnc : n ≤ cap) (hm : cap ≤ maxLen)
    (hfit : off + cap * 2 ≤ cur.size) (HC : (cur.toList.drop off).take (n * 2) = flat ms) (HA : At w2 g 44 (laid cur (off + 2) ((flat ms).take (k * 2)))) (F0 : Foot (fun _ => False) w wd) (HF : Foot (fun k => k = g) wd w2)
    (hA : (A = some ⟨g, off, none⟩ ∧ cap = 1) ∨ A = some ⟨g, off + 2, none⟩ ∧ ¬ cap = 1) :
    RingAt (((w2.setCell ⟨g, off, none⟩ z0).setCell ⟨g, off + 1, none⟩ z1).setCell ⟨p, 1, none⟩ (.slice A (n - 1) C)) p room (.slice A (n - 1) C) (n - 1) (ms.take k ++ ms.drop (k + 1)) ∧
      Foot (Own p (.slice (some ⟨g, off, none⟩) n cap)) w (((w2.setCell ⟨g, off, none⟩ z0).setCell ⟨g, off + 1, none⟩ z1).setCell ⟨p, 1, none⟩ (.slice A (n - 1) C)) ∧ Moved w (.slice (some ⟨g, off, none⟩) n cap) (.slice A (n - 1) C) := by
  have hgp : g ≠ p := fun e => H.apart (by rw [e]; rfl)
  have hxl := H.items.1
  have hgl : g < w.heap.size := H.items.lt rfl
  have hown : (Value.slice A (n - 1) C).ownBlock = some g := by rcases hA with ⟨rfl, _⟩ | ⟨rfl, _⟩ <;> rfl
  have hlen : (flat (ms.take k ++ ms.drop (k + 1))).length = (n - 1) * 2 := by rw [flat_length, List.length_append, List.length_take, List.length_drop, H.len]; omega
  have hpl := H.at_.lt
  have hp2 : At w2 p 56 #[.int .i64 room, .slice (some ⟨g, off, none⟩) n cap] := (H.at_.keep F0 id).keep HF (fun e => hgp e.symm)
  refine ⟨⟨((hp2.setOther (p := ⟨g, off, none⟩) (fun e => hgp e.symm) z0).setOther (p := ⟨g, off + 1, none⟩) (fun e => hgp e.symm) z1).set 1 _, ?_, by rw [hown]; simpa using hgp, by have := H.le; omega, H.cap⟩, ?_, fun g' hg' => .inl (by rw [hown] at hg'; exact hg')⟩
  · refine Items.setOther ?_ (by rw [hown]; simpa using hgp) _
    have hb := (HA.set off z0).set (off + 1) z1
    refine ⟨hlen, A, C, rfl, by omega, by omega, fun x hx => ?_, fun hc => ?_⟩
    · have hl := hb.lt
      rcases hA with ⟨rfl, _⟩ | ⟨rfl, _⟩ <;> (cases hx; exact hl)
    · rcases hA with ⟨_, h1⟩ | ⟨rfl, h1⟩
      · omega
      · have hfit' : off + 2 + ((flat ms).take (k * 2)).length ≤ cur.size := by rw [List.length_take]; omega
        refine ⟨g, off + 2, _, rfl, hb, by rw [Array.size_setIfInBounds, Array.size_setIfInBounds, size_laid hfit']; omega, ?_⟩
        have hs := laid_shift (L := cur) (M := (((laid cur (off + 2) ((flat ms).take (k * 2))).setIfInBounds off z0).setIfInBounds (off + 1) z1).toList) (off := off) (sz := 2) (n := n) (k := k) HC hxl (by omega) hk
          (by rw [Array.toList_setIfInBounds, Array.toList_setIfInBounds, drop_set _ _ _ _ (by omega), drop_set _ _ _ _ (by omega)])
        rw [hs, flat_cut]
  · exact (((((F0.mono (T := Own p (.slice (some ⟨g, off, none⟩) n cap)) fun _ _ h => h.elim).trans HF fun x _ e => by subst e; exact .inr rfl).setCell (p := ⟨g, off, none⟩) (fun _ => .inr rfl) _).setCell (p := ⟨g, off + 1, none⟩) (fun _ => .inr rfl) _).setCell (p := ⟨p, 1, none⟩) (fun _ => .inl rfl) _)

theorem Remove_out (p room n cap : Nat) (a : Option Addr) (ms : List (ByteArray × Int)) (w : World) (h : RingAt w p room (.slice a 0 cap) 0 ms) :
    Calls Try.prog 26 #[.pointer (some ⟨p, 0, none⟩), .int .i64 0] w fun e w' => e = .returned (.tuple #[.agg #[.string ⟨#[]⟩, .int .i64 0], .bool false]) ∧ Foot (fun _ => False) w w' := by
  have H := Lib.hid h; clear h
  have hlt := H.out.at_.lt
  go_enter Try.func26, Try.ntmps26
  go_wp2_with fail
  refine (Len p room 0 cap _ _ ((H.out.at_.alloc _).alloc _) (by omega)).mono ?_
  rintro e w1 ⟨rfl, rfl⟩
  go_wp2_with fail
  refine bodyPost_ret (v := .tuple #[.agg #[.string ⟨#[]⟩, .int .i64 0], .bool false]) (by simp [results, Try.results26, go_sem]) rfl ⟨rfl, ?_⟩
  exact ((Foot.refl (fun _ => False) w).alloc _).alloc _

/-- What taking an element away leaves. -/
def Taken (w : World) (p room n : Nat) (v : Value) (ms : List (ByteArray × Int)) (w' : World) : Prop :=
  ∃ a' c', RingAt w' p room (.slice a' n c') n ms ∧ Foot (Own p v) w w' ∧ Moved w v (.slice a' n c')

/-- The result's own cells are written behind it. -/
theorem taken_after {w w1 : World} {p room n r c : Nat} {v : Value} {a : Option Addr} {ms : List (ByteArray × Int)} {u0 u1 : Value} (hp : r ≠ p) (hv : (Value.slice a n c).ownBlock ≠ some r) (hr : w.heap.size ≤ r) (h : RingAt w1 p room (.slice a n c) n ms) (hf : Foot (Own p v) w w1) (hm : Moved w v (.slice a n c)) :
    Taken w p room n v ms ((w1.setCell ⟨r, 0, none⟩ u0).setCell ⟨r, 1, none⟩ u1) :=
  ⟨a, c, ⟨(h.at_.setOther (p := ⟨r, 0, none⟩) (fun e => hp e.symm) _).setOther (p := ⟨r, 1, none⟩) (fun e => hp e.symm) _, (h.items.setOther (p := ⟨r, 0, none⟩) hv _).setOther (p := ⟨r, 1, none⟩) hv _, h.apart, h.le, h.cap⟩,
    (hf.setCell (p := ⟨r, 0, none⟩) (fun h => absurd h (by simp; omega)) _).setCell (p := ⟨r, 1, none⟩) (fun h => absurd h (by simp; omega)) _, hm⟩

theorem taken_drew {w w1 : World} {p room n : Nat} {v : Value} {ms : List (ByteArray × Int)} (h : Taken w p room n v ms w1) : Taken w p room n v ms w1.drew := by
  obtain ⟨a, c, hr, hf, hm⟩ := h
  exact ⟨a, c, ⟨hr.at_, hr.items, hr.apart, hr.le, hr.cap⟩, hf.drew, hm⟩

set_option maxHeartbeats 1000000 in
theorem Remove_in (p room n cap k : Nat) (a : Option Addr) (s : ByteArray) (x : Int) (ms : List (ByteArray × Int)) (w : World) (h : RingAt w p room (.slice a n cap) n ms) (hk : k < n) (hx : ms[k]? = some (s, x)) :
    Calls Try.prog 26 #[.pointer (some ⟨p, 0, none⟩), .int .i64 k] w fun e w' => e = .returned (.tuple #[.agg #[.string s, .int .i64 x], .bool true]) ∧ Taken w p room (n - 1) (.slice a n cap) (ms.take k ++ ms.drop (k + 1)) w' := by
  have hle := h.le
  have hcap := h.cap
  have hlt := h.at_.lt
  have hp1 : w.cell? ⟨p, 1, none⟩ = some (.slice a n cap) := h.at_.cell 1
  have hpf : w.frozen? ⟨p, 1, none⟩ = false := h.at_.free 1
  obtain ⟨g, off, cap', cur, hv, hc1, hc2, hg, hfit, hcur⟩ := h.items.open (by omega)
  obtain ⟨rfl, rfl⟩ : a = some ⟨g, off, none⟩ ∧ cap = cap' := by injection hv with h1 _ h2; exact ⟨h1, h2⟩
  obtain ⟨i0, hi, hz0, hz1, hz2⟩ := info_parts info_msg
  have hgp : g ≠ p := fun e => h.apart (by rw [e]; rfl)
  have hgl := hg.lt
  obtain ⟨hx0, hx1⟩ := flat_get ms hx
  have hck : w.cell? ⟨g, off + k * 2, none⟩ = some (.string s) := by rw [hg.cell, ← Array.getElem?_toList, take_drop_get hcur (by omega)]; exact hx0
  have hck1 : w.cell? ⟨g, off + k * 2 + 1, none⟩ = some (.int .i64 x) := by rw [Nat.add_assoc, hg.cell, ← Array.getElem?_toList, take_drop_get hcur (by omega)]; exact hx1
  have hw1 : IntKind.i64.wrap ((k : Int) + 1) = (k : Int) + 1 := by rw [IntKind.wrap_i64]; unfold maxLen at hc2; omega
  have ht1 : ((k : Int) + 1).toNat = k + 1 := by omega
  have hb1 : (0 : Int) ≤ (k : Int) + 1 := by omega
  have hb2 : (1 : Int) ≤ (k : Int) + 1 := by omega
  have hb3 : (k : Int) + 1 ≤ (cap : Int) := by omega
  have hb4 : (k : Int) ≤ (cap : Int) := by omega
  have hb5 : ¬ cap = 0 := by omega
  have H := Lib.hid h; have HG := Lib.hid hg; have HC := Lib.hid hcur
  clear h hg hcur hv hx hx0 hx1
  go_enter Try.func26, Try.ntmps26
  go_wp2_with fail
  refine (Len p room n cap _ _ ((H.out.at_.alloc _).alloc _) (by omega)).mono ?_
  rintro e w1 ⟨rfl, rfl⟩
  go_wp2_with fail
  obtain ⟨wd, hwd⟩ : ∃ wd, wd = ((w.alloc (.cells #[.string ⟨#[]⟩, .int .i64 0] 44)).alloc (.cells #[.string ⟨#[]⟩, .int .i64 0] 44)).alloc (.cells #[.string s, .int .i64 x] 44) := ⟨_, rfl⟩
  rw [← hwd]
  have F0 : Hid (Foot (fun _ => False) w wd) := Lib.hid (by rw [hwd]; exact (((Foot.refl _ w).alloc _).alloc _).alloc _)
  have B4 : Hid (At wd w.heap.size 44 #[.string ⟨#[]⟩, .int .i64 0]) := Lib.hid (by rw [hwd]; exact ((At.new w _ _).alloc _).alloc _)
  have B6 : Hid (At wd (w.heap.size + 1) 44 #[.string ⟨#[]⟩, .int .i64 0]) := Lib.hid (by rw [hwd]; have h := (At.new (w.alloc (.cells #[.string ⟨#[]⟩, .int .i64 0] 44)) 44 #[.string ⟨#[]⟩, .int .i64 0]).alloc (.cells #[.string s, .int .i64 x] 44); simpa using h)
  have B7 : Hid (At wd (w.heap.size + 1 + 1) 44 #[.string s, .int .i64 x]) := Lib.hid (by rw [hwd]; have h := At.new ((w.alloc (.cells #[.string ⟨#[]⟩, .int .i64 0] 44)).alloc (.cells #[.string ⟨#[]⟩, .int .i64 0] 44)) 44 #[.string s, .int .i64 x]; simpa using h)
  clear hwd
  have d1 : wd.cell? ⟨p, 1, none⟩ = some (.slice (some ⟨g, off, none⟩) n cap) := (F0.out.cell hlt id).trans hp1
  have HL : Hid (((flat ms).take (k * 2)).length = Nat.min k k * 2) := Lib.hid (by rw [List.length_take, H.out.items.1]; simp; omega)
  have HLk : Hid (((flat ms).take (k * 2)).length = k * 2) := Lib.hid (by rw [List.length_take, H.out.items.1]; omega)
  have HGd : Hid (At wd.drew g 44 cur) := Lib.hid (show At wd g 44 cur from HG.out.keep F0.out id)
  have HP := Lib.hid (fun (hpos : 0 < Nat.min k k) => show (if cap = 1 then some (⟨g, off, none⟩ : Addr) else some ⟨g, off + 2, none⟩) = some ⟨g, off + 2, none⟩ ∧ ∃ ad, some (⟨g, off, none⟩ : Addr) = some ad ∧ ∀ j v, ((flat ms).take (k * 2))[j]? = some v → wd.drew.cell? (ad.add j) = some v by
    have hn : 0 < k := by simpa using hpos
    refine ⟨by rw [if_neg (by omega)], _, rfl, fun j v hj => ?_⟩
    have hjl := (List.getElem?_eq_some_iff.1 hj).1
    have hadd : (⟨g, off, none⟩ : Addr).add j = ⟨g, off + j, none⟩ := by unfold Addr.add; split <;> simp_all
    rw [HLk.out] at hjl
    rw [List.getElem?_take, if_pos hjl] at hj
    rw [hadd, HGd.out.cell, ← Array.getElem?_toList, take_drop_get HC.out (by omega)]
    exact hj)
  have H1t := Lib.hid (show ∀ v ∈ (flat ms).take (k * 2), v.oneCell' = true from fun v hv => flat_one ms v (List.mem_of_mem_take hv))
  have HFT := Lib.hid (show off + 2 + ((flat ms).take (k * 2)).length ≤ cur.size by rw [HLk.out]; omega)
  clear hck hck1 hp1
  go_still_tail 13, (by kernel_rfl)
  change wpList _ _ _ _ _ wd.drew
  go_wp2_with (with_reducible refine wpList_copy rfl (.tmp 30) (.tmp 36) 39 39 rfl 44 i0 2 Try.underlying39 hi hz1 _ _ k (cap - 1) k cap rfl rfl g (off + 2) cur 44 HGd.out ((flat ms).take (k * 2)) HL.out HP.out HFT.out H1t.out ?_)
  all_goals
    intro w2 hA2 hF2
    have HA := Lib.hid hA2; have HF : Hid (Foot (fun k => k = g) wd w2) := Lib.hid (show Foot (fun k => k = g) wd w2 from ⟨hF2.os, hF2.tape, hF2.output, hF2.size, hF2.block⟩)
    clear hA2 hF2
    have c2 : w2.cell? ⟨p, 1, none⟩ = some (.slice (some ⟨g, off, none⟩) n cap) := (HF.out.cell (Nat.lt_of_lt_of_le hlt F0.out.size) (fun e => hgp (e.symm))).trans d1
    have f2 : w2.frozen? ⟨p, 1, none⟩ = false := (HF.out.frozen (Nat.lt_of_lt_of_le hlt F0.out.size) (fun e => hgp (e.symm))).trans ((F0.out.frozen hlt id).trans hpf)
    have hsz := size_laid HFT.out
    obtain ⟨y0, hy0⟩ : ∃ y, (laid cur (off + 2) ((flat ms).take (k * 2)))[off]? = some y := ⟨_, Array.getElem?_eq_getElem (by omega)⟩
    obtain ⟨y1, hy1⟩ : ∃ y, (laid cur (off + 2) ((flat ms).take (k * 2)))[off + 1]? = some y := ⟨_, Array.getElem?_eq_getElem (by omega)⟩
    have c3 : w2.cell? ⟨g, off, none⟩ = some y0 := (HA.out.cell off).trans hy0
    have c3' : w2.cell? ⟨g, off + 1, none⟩ = some y1 := (HA.out.cell (off + 1)).trans hy1
    have f3 : w2.frozen? ⟨g, off, none⟩ = false := HA.out.free off
    have f3' : w2.frozen? ⟨g, off + 1, none⟩ = false := HA.out.free (off + 1)
    have D4 := Lib.hid (B4.out.keep HF.out (fun e => by omega)); have D6 := B6.out.keep HF.out (fun e => by omega); have D7 := B7.out.keep HF.out (fun e => by omega)
    have r40 : w2.cell? ⟨w.heap.size, 0, none⟩ = some (.string ⟨#[]⟩) := D4.out.cell 0
    have r41 : w2.cell? ⟨w.heap.size, 1, none⟩ = some (.int .i64 0) := D4.out.cell 1
    have s40 : w2.frozen? ⟨w.heap.size, 0, none⟩ = false := D4.out.free 0
    have s41 : w2.frozen? ⟨w.heap.size, 1, none⟩ = false := D4.out.free 1
    have r60 : w2.cell? ⟨w.heap.size + 1, 0, none⟩ = some (.string ⟨#[]⟩) := D6.cell 0
    have r61 : w2.cell? ⟨w.heap.size + 1, 1, none⟩ = some (.int .i64 0) := D6.cell 1
    have r70 : w2.cell? ⟨w.heap.size + 1 + 1, 0, none⟩ = some (.string s) := D7.cell 0
    have r71 : w2.cell? ⟨w.heap.size + 1 + 1, 1, none⟩ = some (.int .i64 x) := D7.cell 1
    have n1 : w.heap.size ≠ g := by omega
    have n2 : w.heap.size ≠ p := by omega
    have n3 : w.heap.size + 1 ≠ g := by omega
    have n4 : w.heap.size + 1 + 1 ≠ g := by omega
    have n5 : w.heap.size + 1 + 1 ≠ p := by omega
    have n6 : p ≠ g := fun e => hgp e.symm
    have hn0 : (0 : Int) < (n : Int) := by omega
    have hn1 : (1 : Int) ≤ (n : Int) := by omega
    have hn2 : 0 < n := by omega
    have HS := Lib.hid hsz; clear hsz hy0 hy1 D6 D7 d1
    go_wp2_with fail
    go_still_tail 6, (by kernel_rfl)
    change wpList _ _ _ _ _ w2.drew
    go_wp2_with fail
    refine bodyPost_ret (v := .tuple #[.agg #[.string s, .int .i64 x], .bool true]) (by simp [results, Try.results26, go_sem, *]) rfl ⟨rfl, ?_⟩
    by_cases q1 : cap = 1
    · first
        | exact absurd q1 (by assumption)
        | (obtain ⟨R1, R2, R3⟩ := rem_close p room n cap k g off 0 (some ⟨g, off, none⟩) (.string ⟨#[]⟩) (.int .i64 0) ms cur w wd w2 H.out (by omega) hk hc1 hc2 hfit HC.out HA.out F0.out HF.out (.inl ⟨rfl, q1⟩)
           exact taken_drew (taken_after n2 (show (Value.slice (some ⟨g, off, none⟩) (n - 1) 0).ownBlock ≠ some w.heap.size from fun e => n1 (Option.some.inj e).symm) (Nat.le_refl _) R1 R2 R3))
    · first
        | exact absurd (by assumption) q1
        | (obtain ⟨R1, R2, R3⟩ := rem_close p room n cap k g off (cap - 1) (some ⟨g, off + 2, none⟩) (.string ⟨#[]⟩) (.int .i64 0) ms cur w wd w2 H.out rfl hk hc1 hc2 hfit HC.out HA.out F0.out HF.out (.inr ⟨rfl, q1⟩)
           exact taken_drew (taken_after n2 (show (Value.slice (some ⟨g, off + 2, none⟩) (n - 1) (cap - 1)).ownBlock ≠ some w.heap.size from fun e => n1 (Option.some.inj e).symm) (Nat.le_refl _) R1 R2 R3))

theorem Pop_none (p room cap : Nat) (a : Option Addr) (ms : List (ByteArray × Int)) (w : World) (h : RingAt w p room (.slice a 0 cap) 0 ms) :
    Calls Try.prog 23 #[.pointer (some ⟨p, 0, none⟩)] w fun e w' => e = .returned (.tuple #[.agg #[.string ⟨#[]⟩, .int .i64 0], .bool false]) ∧ Foot (fun _ => False) w w' := by
  have H := Lib.hid h; clear h
  go_enter Try.func23, Try.ntmps23
  go_wp2_with fail
  refine (Remove_out p room 0 cap a ms _ (H.out.keep ((Foot.refl (fun _ => False) w).alloc _) fun _ _ => id)).mono ?_
  rintro e w1 ⟨rfl, hF⟩
  have B := (At.new w 44 #[.string ⟨#[]⟩, .int .i64 0]).keep hF id
  have c0 : w1.cell? ⟨w.heap.size, 0, none⟩ = some (.string ⟨#[]⟩) := B.cell 0
  have c1 : w1.cell? ⟨w.heap.size, 1, none⟩ = some (.int .i64 0) := B.cell 1
  have f0 : w1.frozen? ⟨w.heap.size, 0, none⟩ = false := B.free 0
  have f1 : w1.frozen? ⟨w.heap.size, 1, none⟩ = false := B.free 1
  have HF : Hid (Foot (fun _ => False) w w1) := Lib.hid (((Foot.refl _ w).alloc _).trans hF fun _ _ h => h)
  clear hF B
  go_wp2_with fail
  refine bodyPost_ret (v := .tuple #[.agg #[.string ⟨#[]⟩, .int .i64 0], .bool false]) (by simp [results, Try.results23, go_sem, *]) rfl ⟨rfl, ?_⟩
  exact (HF.out.setCell (p := ⟨w.heap.size, 0, none⟩) (fun h => absurd h (Nat.lt_irrefl _)) _).setCell (p := ⟨w.heap.size, 1, none⟩) (fun h => absurd h (Nat.lt_irrefl _)) _

theorem Pop_some (p room n cap : Nat) (a : Option Addr) (s : ByteArray) (x : Int) (ms : List (ByteArray × Int)) (w : World) (h : RingAt w p room (.slice a (n + 1) cap) (n + 1) ((s, x) :: ms)) :
    Calls Try.prog 23 #[.pointer (some ⟨p, 0, none⟩)] w fun e w' => e = .returned (.tuple #[.agg #[.string s, .int .i64 x], .bool true]) ∧ Taken w p room n (.slice a (n + 1) cap) ms w' := by
  have hlt := h.at_.lt
  have H := Lib.hid h; clear h
  go_enter Try.func23, Try.ntmps23
  go_wp2_with fail
  refine (Remove_in p room (n + 1) cap 0 a s x ((s, x) :: ms) _ (H.out.keep ((Foot.refl (fun _ => False) w).alloc _) fun _ _ => id) (by omega) rfl).mono ?_
  rintro e w1 ⟨rfl, a', c', hR, hF, hM⟩
  have hno : ¬ Own p (.slice a (n + 1) cap) w.heap.size := fun h => absurd (H.out.ownLt h) (Nat.lt_irrefl _)
  have B := (At.new w 44 #[.string ⟨#[]⟩, .int .i64 0]).keep hF hno
  have c0 : w1.cell? ⟨w.heap.size, 0, none⟩ = some (.string ⟨#[]⟩) := B.cell 0
  have c1 : w1.cell? ⟨w.heap.size, 1, none⟩ = some (.int .i64 0) := B.cell 1
  have f0 : w1.frozen? ⟨w.heap.size, 0, none⟩ = false := B.free 0
  have f1 : w1.frozen? ⟨w.heap.size, 1, none⟩ = false := B.free 1
  have HF : Hid (Foot (Own p (.slice a (n + 1) cap)) w w1) := Lib.hid (((Foot.refl _ w).alloc _).trans hF fun _ _ h => h)
  have HM : Hid (Moved w (.slice a (n + 1) cap) (.slice a' n c')) := Lib.hid (fun g hg => by
    rcases hM g hg with h | h
    · exact .inl h
    · simp at h; exact .inr (by omega))
  have HX : Hid ((Value.slice a' n c').ownBlock ≠ some w.heap.size) := Lib.hid (fun e => by
    rcases hM _ e with h | h
    · exact hno (.inr h)
    · simp at h; omega)
  have HR : Hid (RingAt w1 p room (.slice a' n c') n ms) := Lib.hid hR
  clear hF B hM hR
  go_wp2_with fail
  refine bodyPost_ret (v := .tuple #[.agg #[.string s, .int .i64 x], .bool true]) (by simp [results, Try.results23, go_sem, *]) rfl ⟨rfl, ?_⟩
  exact taken_after (by omega) HX.out (Nat.le_refl _) HR.out HF.out HM.out

/-- A Ring that the call made: none of its blocks was there in W, and of W's blocks nothing has turned. -/
structure Mine (W w : World) (p room : Nat) (v : Value) (n : Nat) (ms : List (ByteArray × Int)) : Prop where
  ring : RingAt w p room v n ms
  new : ∀ k, Own p v k → W.heap.size ≤ k
  below : Below W.heap.size W w
section
variable {W w w' : World} {p room n n' : Nat} {v v' : Value} {ms ms' : List (ByteArray × Int)}
theorem Mine.of_new (h : RingAt w' W.heap.size room (.slice none 0 0) 0 []) (hf : Foot (fun _ => False) W w') : Mine W w' W.heap.size room (.slice none 0 0) 0 [] :=
  ⟨h, fun k hk => by rcases hk with rfl | hk; exact Nat.le_refl _; simp [Value.ownBlock] at hk, hf.below (fun _ _ h => h.elim) (Nat.le_refl _)⟩
theorem Mine.step (h : Mine W w p room v n ms) (hr : RingAt w' p room v' n' ms') (hf : Foot (Own p v) w w') (hm : Moved w v v') : Mine W w' p room v' n' ms' :=
  ⟨hr, fun k hk => by
    rcases hk with rfl | hk
    · exact h.new _ (.inl rfl)
    · rcases hm k hk with h1 | h1
      · exact h.new _ (.inr h1)
      · exact Nat.le_trans h.below.size h1, h.below.trans (hf.below (fun k _ hk => h.new k hk) h.below.size)⟩
theorem Mine.stay {S : Nat → Prop} (h : Mine W w p room v n ms) (hf : Foot S w w') (hs : ∀ k, S k → W.heap.size ≤ k) (hd : ∀ k, Own p v k → ¬ S k) : Mine W w' p room v n ms :=
  ⟨h.ring.keep hf hd, h.new, h.below.trans (hf.below (fun k _ hk => hs k hk) h.below.size)⟩
theorem Mine.still (h : Mine W w p room v n ms) (hf : Foot (fun _ => False) w w') : Mine W w' p room v n ms := h.stay hf (fun _ h => h.elim) fun _ _ => id
end

/-- A slice of messages that reads as ms. -/
def ReadsM (w : World) (a : Option Addr) (n : Nat) (ms : List (ByteArray × Int)) : Prop :=
  ms.length = n ∧ (0 < n → ∃ b off, a = some ⟨b, off, none⟩ ∧ ∀ j m, ms[j]? = some m → w.cell? ⟨b, off + j * 2, none⟩ = some (.string m.1) ∧ w.cell? ⟨b, off + j * 2 + 1, none⟩ = some (.int .i64 m.2))
theorem ReadsM.of_at {w : World} {g : Nat} {ms : List (ByteArray × Int)} (h : At w g 44 (flat ms).toArray) : ReadsM w (some ⟨g, 0, none⟩) ms.length ms :=
  ⟨rfl, fun _ => ⟨g, 0, rfl, fun j m hj => by
    obtain ⟨h0, h1⟩ := flat_get ms hj
    rw [Nat.zero_add, h.cell, h.cell, List.getElem?_toArray, List.getElem?_toArray]
    exact ⟨h0, h1⟩⟩⟩
theorem ReadsM.below {w w1 : World} {a : Option Addr} {n : Nat} {ms : List (ByteArray × Int)} (h : ReadsM w a n ms) (hf : Below w.heap.size w w1) : ReadsM w1 a n ms :=
  ⟨h.1, fun hn => by
    obtain ⟨b, off, rfl, hc⟩ := h.2 hn
    refine ⟨b, off, rfl, fun j m hj => ?_⟩
    obtain ⟨h0, h1⟩ := hc j m hj
    exact ⟨(hf.cell (p := ⟨b, _, none⟩) (World.block_lt_of_cell? w _ h0)).trans h0, (hf.cell (p := ⟨b, _, none⟩) (World.block_lt_of_cell? w _ h1)).trans h1⟩⟩
theorem ReadsM.take {w : World} {a : Option Addr} {n k : Nat} {ms : List (ByteArray × Int)} (h : ReadsM w a n ms) (hk : k ≤ n) : ReadsM w a k (ms.take k) :=
  ⟨by rw [List.length_take, h.1]; omega, fun hn => by
    obtain ⟨b, off, rfl, hc⟩ := h.2 (by omega)
    refine ⟨b, off, rfl, fun j m hj => hc j m ?_⟩
    rw [List.getElem?_take] at hj
    split at hj
    · exact hj
    · cases hj⟩

set_option maxHeartbeats 400000 in
theorem msgs (a1 a2 : Option Addr) (n c1 c2 : Nat) (ms : List (ByteArray × Int)) (w : World) (h1 : ReadsM w a1 n ms) (h2 : ReadsM w a2 n ms) (hn : n ≤ 9223372036854775807) :
    Calls Try.prog 20 #[.slice a1 n c1, .slice a2 n c2] w fun e w' => e = .returned (.bool true) ∧ ∃ k, w' = w.drewN k := by
  by_cases h0 : n = 0
  · subst h0
    clear h1 h2
    go_enter Try.func20, Try.ntmps20
    go_wp2_with fail
    go_loopw [5] (fun i w' => i = .int .i64 0 ∧ ∃ k, w' = w.drewN k) (fun _ _ => 0)
    case atStart => exact ⟨rfl, 0, rfl⟩
    case round =>
      obtain ⟨rfl, k, rfl⟩ := hrel
      go_wp2_with fail
      go_ret
      exact ⟨rfl, k, rfl⟩
  · obtain ⟨b1, o1, rfl, hc1⟩ := h1.2 (by omega)
    obtain ⟨b2, o2, rfl, hc2⟩ := h2.2 (by omega)
    have hl := h1.1
    have H1 := Lib.hid hc1; have H2 := Lib.hid hc2
    clear h1 h2 hc1 hc2 h0
    go_enter Try.func20, Try.ntmps20
    go_wp2_with fail
    go_loopw [5] (fun i w' => ∃ j : Nat, j ≤ n ∧ i = .int .i64 j ∧ ∃ k, w' = w.drewN k) (fun i _ => n - (intOf i).toNat)
    case atStart => exact ⟨0, Nat.zero_le _, rfl, 0, rfl⟩
    case round =>
      obtain ⟨j, hj, rfl, k, rfl⟩ := hrel
      by_cases hlt : j < n
      · obtain ⟨m, hm⟩ : ∃ m, ms[j]? = some m := ⟨_, List.getElem?_eq_getElem (by omega)⟩
        obtain ⟨e1, e1'⟩ := H1.out j m hm
        obtain ⟨e2, e2'⟩ := H2.out j m hm
        obtain ⟨s, x⟩ := m
        simp only at e1 e1' e2 e2'
        clear hm
        go_wp2_with fail
        go_quiet (fail)
        go_wp2_with fail
        go_roundw
        case rel => exact ⟨j + 1, by omega, by go_num, _, rfl⟩
        case measure => simp [intOf]; omega
      · go_wp2_with fail
        go_ret
        exact ⟨rfl, k, rfl⟩

end Go.Proofs.Ytmiebedoijnnaaa.RingM
