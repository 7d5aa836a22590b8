/- Whatever is put into a Ring, taken out of it and looked at, in whatever order: it answers as a list with room for so many does. No condition. -/
import Derived.Test.YtmiebedoijnnaaaRows
import Derived.WalkKit
import Derived.ProofKit
import Derived.OpenShut
import Derived.ShutString
import Derived.ChangeOld
import Derived.Below
import Derived.Test.YtmiebedoijnnaaaRingKnown
import Derived.Test.YtmiebedoijnnaaaOpen
import Derived.Deep.RegionLaw
import Derived.Deep.DeepCutAuto
import Derived.Deep.CutBlock
import Derived.Deep.LoopGhost
namespace Go.Proofs.Ytmiebedoijnnaaa.ringPlays
open Go.ChangeShapes Go.WideShapes Go.ChangeAt Go.RowKit
open Go.ChangeMaps (open_string shut_string)
set_option linter.unusedVariables false

theorem own : ownKnob Try.prog.godebug = none := by kernel_rfl
theorem laidOut : laidOutB Try.prog = true := by kernel_rfl
open Ring Mem

/-- The steps that came in. -/
structure StepsIn (w : World) (a : Option Addr) (len cap : Nat) (F : Nat → Int × Int) : Prop where
  le : len ≤ cap
  max : cap ≤ maxLen
  cells : 0 < len → ∃ b off, a = some ⟨b, off, none⟩ ∧ ∀ i, i < len → w.cell? ⟨b, off + i * 2, none⟩ = some (.int .i64 (F i).1) ∧ w.cell? ⟨b, off + i * 2 + 1, none⟩ = some (.int .i64 (F i).2)

theorem openA1 {H : Type} {enc : TypeId × Value → H} {w : World} {a : Option Addr} {len cap : Nat} {d : DataW H} {p : List MemPlace} (h : DataW.Trod enc Try.prog w 0 (fun _ => true) true 22 (.slice a len cap) d p) : ∃ F, StepsIn w a len cap F := by
  obtain ⟨h1, h2, h3⟩ := open_fields Try.underlying22 Try.underlying30 (by kernel_rfl) (by kernel_rfl) (by decide) h
  by_cases hn : len = 0
  · exact ⟨fun _ => (0, 0), h1, h2, fun h => absurd h (by omega)⟩
  · obtain ⟨b, off, rfl, hi⟩ := h3 (by omega)
    have : ∀ i, i < len → ∃ z : Int × Int, w.cell? ⟨b, off + i * 2, none⟩ = some (.int .i64 z.1) ∧ w.cell? ⟨b, off + i * 2 + 1, none⟩ = some (.int .i64 z.2) := by
      intro i hil
      obtain ⟨v0, _, _, c0, t0⟩ := hi i (by omega) 0 _ rfl
      obtain ⟨v1, _, _, c1, t1⟩ := hi i (by omega) 1 _ rfl
      obtain ⟨z0, rfl, _⟩ := cell_i64 Try.underlying3 t0
      obtain ⟨z1, rfl, _⟩ := cell_i64 Try.underlying3 t1
      exact ⟨(z0, z1), c0, c1⟩
    obtain ⟨F, hF⟩ := Go.Deep.choose_lt this
    exact ⟨F, h1, h2, fun _ => ⟨b, off, rfl, hF⟩⟩

theorem StepsIn.cell {w w1 : World} {a : Option Addr} {len cap : Nat} {F : Nat → Int × Int} (h : StepsIn w a len cap F) (hb : Below w.heap.size w w1) {j : Nat} (hj : j < len) :
    ∃ b off, a = some ⟨b, off, none⟩ ∧ w1.cell? ⟨b, off + j * 2, none⟩ = some (.int .i64 (F j).1) ∧ w1.cell? ⟨b, off + j * 2 + 1, none⟩ = some (.int .i64 (F j).2) := by
  obtain ⟨b, off, ha, hc⟩ := h.cells (by omega)
  obtain ⟨c0, c1⟩ := hc j hj
  exact ⟨b, off, ha, (hb.cell (p := ⟨b, _, none⟩) (World.block_lt_of_cell? w _ c0)).trans c0, (hb.cell (p := ⟨b, _, none⟩) (World.block_lt_of_cell? w _ c1)).trans c1⟩

/-- The Ring and the law's own list, side by side. -/
structure St (W w : World) (p room : Nat) (vr vm : Value) (n : Nat) (zs : List Int) : Prop where
  ring : Mine W w p room vr n (zs.map (Value.int .i64))
  m : Items w 3 1 vm n (zs.map (Value.int .i64))
  new : ∀ g, vm.ownBlock = some g → W.heap.size ≤ g
  apart : ∀ g, vm.ownBlock = some g → ¬ Own p vr g

section
variable {W w w' : World} {p room n n' : Nat} {vr vm v' : Value} {zs zs' : List Int}
theorem St.len (h : St W w p room vr vm n zs) : zs.length = n := by have := h.m.1; simpa using this
theorem St.nolen (h : St W w p room vr vm n zs) : (zs.map (Value.int .i64)).length = n := by rw [List.length_map]; exact h.len
/-- A step of the Ring's own: the list is as it was. -/
theorem St.apart' (h : St W w p room vr vm n zs) (hm : Moved w vr v') : ∀ g, vm.ownBlock = some g → ¬ Own p v' g := fun g hg ho => by
  rcases ho with ho | ho
  · exact h.apart g hg (.inl ho)
  · exact hm.apart (fun e => h.apart g hg (.inr e)) (h.m.lt hg) ho
theorem St.mkeep (h : St W w p room vr vm n zs) (hf : Foot (Own p vr) w w') : Items w' 3 1 vm n (zs.map (Value.int .i64)) := h.m.keep hf h.apart
theorem St.still (h : St W w p room vr vm n zs) (hf : Foot (fun _ => False) w w') : St W w' p room vr vm n zs :=
  ⟨h.ring.still hf, h.m.keep hf fun _ _ => id, h.new, h.apart⟩
end
theorem one_ints {zs : List Int} : ∀ v ∈ zs.map (Value.int .i64), v.oneCell' = true := by
  intro v hv
  obtain ⟨z, _, rfl⟩ := List.mem_map.1 hv
  rfl

/-- A step of the list's own, the Ring being where it shall be. -/
theorem St.join {W w w' : World} {p room n : Nat} {vr vm v' : Value} {zs : List Int} {xs : List Value} (hr : Mine W w p room vr n xs) (hx : zs.map (Value.int .i64) = xs) (hnew : ∀ g, vm.ownBlock = some g → W.heap.size ≤ g) (hap : ∀ g, vm.ownBlock = some g → ¬ Own p vr g)
    (hF : Foot (fun k => vm.ownBlock = some k) w w') (hV : Moved w vm v') (hI : Items w' 3 1 v' n xs) : St W w' p room vr v' n zs := by
  subst hx
  refine ⟨hr.stay hF (fun k hk => hnew k hk) (fun k hk e => hap k e hk), hI, fun g hg => ?_, fun g hg ho => ?_⟩
  · rcases hV g hg with h | h
    · exact hnew g h
    · exact Nat.le_trans hr.below.size h
  · rcases hV g hg with h | h
    · exact hap g h ho
    · exact absurd (hr.ring.ownLt ho) (by omega)
theorem Moved.ofAlloc {w : World} {o : Obj} {v v' : Value} (h : Moved (w.alloc o) v v') : Moved w v v' := fun g hg => by
  rcases h g hg with h | h
  · exact .inl h
  · simp at h; exact .inr (by omega)
/-- The list without its first element. -/
theorem cut_one {w : World} {g o n cap C : Nat} {A : Option Addr} {x : Value} {xs : List Value} (h : Items w 3 1 (.slice (some ⟨g, o, none⟩) (n + 1) cap) (n + 1) (x :: xs)) (hC : C = cap - 1)
    (hA : (A = some ⟨g, o, none⟩ ∧ cap = 1) ∨ A = some ⟨g, o + 1, none⟩ ∧ ¬ cap = 1) : Items w 3 1 (.slice A n C) n xs ∧ (Value.slice A n C).ownBlock = (Value.slice (some ⟨g, o, none⟩) (n + 1) cap).ownBlock := by
  obtain ⟨h1, h2⟩ := h.cut (k := 1) (by omega)
  have hadd : (⟨g, o, none⟩ : Addr).add (1 * 1) = ⟨g, o + 1, none⟩ := by simp [Addr.add]
  simp only [Option.map_some, hadd, Nat.add_sub_cancel, Nat.mul_one, List.drop_succ_cons, List.drop_zero] at h1 h2
  subst hC
  rcases hA with ⟨rfl, hc⟩ | ⟨rfl, hc⟩
  · rw [if_pos hc] at h1 h2; exact ⟨h1, h2⟩
  · rw [if_neg hc] at h1 h2; exact ⟨h1, h2⟩

theorem St.pop {W w w1 : World} {p room n g o cap C : Nat} {vr v0 : Value} {A : Option Addr} {z : Int} {zs : List Int} (hr : Mine W w p room vr n (zs.map (Value.int .i64))) (hm : Items w 3 1 (.slice (some ⟨g, o, none⟩) (n + 1) cap) (n + 1) ((z :: zs).map (Value.int .i64)))
    (h0 : St W w1 p room v0 (.slice (some ⟨g, o, none⟩) (n + 1) cap) (n + 1) (z :: zs)) (hap : ∀ g', (Value.slice (some ⟨g, o, none⟩) (n + 1) cap).ownBlock = some g' → ¬ Own p vr g') (hC : C = cap - 1)
    (hA : (A = some ⟨g, o, none⟩ ∧ cap = 1) ∨ A = some ⟨g, o + 1, none⟩ ∧ ¬ cap = 1) : St W w p room vr (.slice A n C) n zs := by
  obtain ⟨h1, h2⟩ := cut_one hm hC hA
  exact St.join hr rfl h0.new hap (Foot.refl _ w) (fun g hg => .inl (by rw [← h2]; exact hg)) h1

theorem fresh_items (w : World) (e : TypeId) (H : Nat) (h : H < w.heap.size) : Items w e 1 (.slice (some ⟨H, 0, none⟩) 0 0) 0 [] :=
  ⟨by simp, some ⟨H, 0, none⟩, 0, rfl, Nat.le_refl _, Nat.zero_le _, fun x hx => by cases hx; exact h, fun h => absurd h (by omega)⟩
/-- What lies from place c on, in a later world. -/
theorem news_of {w w' : World} {S : Nat → Prop} {g o n cm : Nat} {e : TypeId} {xs : List Value} (h : Items w e 1 (.slice (some ⟨g, o, none⟩) n cm) n xs) (hf : Foot S w w') (hg : ¬ S g) (c m : Nat) (hm : c + m ≤ n) {A : Option Addr} (hA : 0 < m → A = some ⟨g, o + c, none⟩) :
    0 < m → ∃ ad, A = some ad ∧ ∀ j u, ((xs.drop c).take m)[j]? = some u → w'.cell? (ad.add j) = some u := by
  intro h0
  obtain ⟨g', o', cap', hv, _, _, hlt, hc⟩ := h.cell (by omega)
  obtain ⟨rfl, rfl⟩ : g = g' ∧ o = o' := by injection hv with h1; injection h1 with h1; injection h1 with h1 h2; exact ⟨h1, h2⟩
  refine ⟨_, hA h0, fun j u hj => ?_⟩
  have hjm : j < m := by
    have := (List.getElem?_eq_some_iff.1 hj).1
    rw [List.length_take] at this
    omega
  rw [List.getElem?_take, if_pos hjm, List.getElem?_drop] at hj
  rw [Mem.add_plain, hf.cell (by exact hlt) hg, Nat.add_assoc, hc (c + j) (by omega)]
  exact hj

/-- The list is laid anew. -/
theorem St.fresh {W w w' : World} {p room n : Nat} {vr v' : Value} {zs : List Int} {xs : List Value} (hr : Mine W w p room vr n xs) (hx : zs.map (Value.int .i64) = xs) (hF : Foot (fun x => w.heap.size ≤ x) w w') (hnew : ∀ g, v'.ownBlock = some g → w.heap.size ≤ g) (hI : Items w' 3 1 v' n xs) : St W w' p room vr v' n zs := by
  subst hx
  exact ⟨hr.stay hF (fun k hk => Nat.le_trans hr.below.size hk) (fun k hk e => absurd (hr.ring.ownLt hk) (by omega)), hI, fun g hg => Nat.le_trans hr.below.size (hnew g hg), fun g hg ho => absurd (hr.ring.ownLt ho) (by have := hnew g hg; omega)⟩
theorem St.rem {W w3 w4 w5 : World} {p room n k c3 c4 c5 : Nat} {a3 a4 a5 : Option Addr} {o : Obj} {zs : List Int} (hk : k < n) (hl : (zs.map (Value.int .i64)).length = n)
    (HM : Mine W w3 p room (.slice a3 (n - 1) c3) (n - 1) ((zs.map (Value.int .i64)).take k ++ (zs.map (Value.int .i64)).drop (k + 1)))
    (F4 : Foot (fun x => x = w3.heap.size) w3 w4) (V4 : Moved (w3.alloc o).drew (.slice (some ⟨w3.heap.size, 0, none⟩) 0 0) (.slice a4 k c4)) (F5 : Foot (fun x => (Value.slice a4 k c4).ownBlock = some x) w4 w5) (V5 : Moved w4 (.slice a4 k c4) (.slice a5 (k + (n - (k + 1))) c5))
    (I5 : Items w5 3 1 (.slice a5 (k + (n - (k + 1))) c5) (k + (n - (k + 1))) ([] ++ ((zs.map (Value.int .i64)).drop 0).take k ++ ((zs.map (Value.int .i64)).drop (k + 1)).take (n - (k + 1)))) :
    St W w5 p room (.slice a3 (k + (n - (k + 1))) c3) (.slice a5 (k + (n - (k + 1))) c5) (k + (n - (k + 1))) (zs.take k ++ zs.drop (k + 1)) := by
  have e : n - 1 = k + (n - (k + 1)) := by omega
  rw [e] at HM
  rw [List.nil_append, List.drop_zero, List.take_of_length_le (l := (zs.map (Value.int .i64)).drop (k + 1)) (by rw [List.length_drop, hl]; omega)] at I5
  have n4 : ∀ g, (Value.slice a4 k c4).ownBlock = some g → w3.heap.size ≤ g := fun g hg => by
    rcases V4 g hg with h | h
    · exact Nat.le_of_eq (Option.some.inj (show some w3.heap.size = some g from h))
    · simp at h; omega
  refine St.fresh HM (by simp [List.map_take, List.map_drop]) ((F4.mono (T := fun x => w3.heap.size ≤ x) fun _ _ h => Nat.le_of_eq h.symm).trans F5 fun x _ h => n4 x h) (fun g hg => ?_) I5
  rcases V5 g hg with h | h
  · exact n4 g h
  · exact Nat.le_trans F4.size h

/-- What a round keeps. -/
def Rel (W : World) (room len j : Nat) (m : Value) (w : World) : Prop := ∃ (n : Nat) (ar am : Option Addr) (cr cm : Nat) (zs : List Int), j ≤ len ∧ n ≤ j ∧ m = .slice am n cm ∧ St W w W.heap.size room (.slice ar n cr) (.slice am n cm) n zs


set_option maxHeartbeats 20000000 in
set_option maxRecDepth 100000 in
theorem walk (a0 : Int) (a1 : Option Addr) (len1 cap1 : Nat) (z1 : Nat → Int × Int) (w : World) (w0 : (Lit.int .i64 a0).wf = true) (w1 : StepsIn w a1 len1 cap1 z1) :
    Calls Try.prog 3 #[.int .i64 a0, .slice a1 len1 cap1] w fun e w' => e = .returned (.bool true) ∧ Below w.heap.size w w' := by
  have ha := wf_i64 w0
  have hcm := w1.le
  have hmx := w1.max
  unfold maxLen at hmx
  have W1 := Lib.hid w1; clear w1 w0
  by_cases hbad : a0 < 0 ∨ 65536 < a0
  · have C1 := Lib.hid (New_bad a0 w hbad)
    rcases hbad with hbad | hbad
    all_goals
      have hbad' : ¬ a0 < 0 ∨ a0 < 0 := by omega
      go_enter Try.func3, Try.ntmps3
      go_wp2_with fail
      refine C1.out.mono ?_
      rintro e w2 ⟨rfl, rfl⟩
      clear hbad'
      go_wp2_with fail
      refine (known _).mono ?_
      rintro e w2 ⟨rfl, hb⟩
      go_wp2_with fail
      go_ret
      exact ⟨rfl, hb⟩
  · obtain ⟨room, rfl⟩ := Int.eq_ofNat_of_zero_le (show 0 ≤ a0 by omega)
    have hroom : room ≤ 65536 := by omega
    have C1 := Lib.hid (New_ok room w hroom)
    by_cases hlen : 300 < len1
    · go_enter Try.func3, Try.ntmps3
      go_wp2_with fail
      refine C1.out.mono ?_
      rintro e w2 ⟨rfl, hR, hF⟩
      have HB := Lib.hid (Mine.of_new hR hF).below
      clear hR hF
      go_wp2_with fail
      refine (known _).mono ?_
      rintro e w3 ⟨rfl, hb⟩
      have HB2 := Lib.hid (HB.out.trans (hb.mono HB.out.size))
      clear hb
      go_wp2_with fail
      go_ret
      exact ⟨rfl, HB2.out⟩
    · go_enter Try.func3, Try.ntmps3
      go_wp2_with fail
      refine C1.out.mono ?_
      rintro e w2 ⟨rfl, hR, hF⟩
      have M1 := Lib.hid (Mine.of_new hR hF)
      clear hR hF C1
      go_wp2_with fail
      go_loopg [7, 8] len1 (fun k m i wr => ∃ j : Nat, k + j = len1 ∧ i = .int .i64 j ∧ Rel w room len1 j m wr)
      case atStart => exact ⟨0, rfl, rfl, 0, none, none, 0, 0, [], Nat.zero_le _, Nat.le_refl _, rfl, M1.out, Items.nil _ _ _, fun g h => by simp [Value.ownBlock] at h, fun g h => by simp [Value.ownBlock] at h⟩
      case round =>
        obtain ⟨j, hgk, rfl, n, ar, am, cr, cm, zs, hj, hn, rfl, hS⟩ := hrel
        have HS := Lib.hid hS; clear hS
        by_cases hlt : j < len1
        · obtain ⟨b, off, rfl, hc0, hc1⟩ := W1.out.cell HS.out.ring.below hlt
          generalize hq : (z1 j).1 = q at hc0
          generalize hx : (z1 j).2 = x at hc1
          clear hq hx
          have hnr := HS.out.ring.ring.le
          have HGK := Lib.hid hgk; clear hgk
          obtain ⟨i0, hi, hz0, hz1, hz2⟩ := info_parts info_int
          go_upto_block 2 with fail
          go_cut [7] (fun m wx => Rel w room len1 (j + 1) m wx)
          case first =>
            by_cases k1 : 0 ≤ q ∧ q ≤ 3
            · obtain ⟨q0, q3⟩ := k1
              by_cases hf : n < room
              · as_aux_lemma =>
                  go_wp2_with fail
                  refine (push_yes w wr w.heap.size room n cr ar x _ HS.out.ring hf).mono ?_
                  rintro e w3 ⟨rfl, a3, c3, hM, hF, hV⟩
                  have hm3 := Lib.hid (HS.out.mkeep hF)
                  have hap := Lib.hid (HS.out.apart' hV)
                  have HM := Lib.hid hM; clear hM hF hV
                  go_wp2_with (at_builtin; refine wpList_append rfl (.tmp 115) (.tmp 117) 28 rfl 3 i0 (.int .i64 0) 1 Try.underlying28 hi hz0 hz1 rfl rfl (hm3.out.alloc _) ⟨w3.heap.size, 0, none⟩ 1 1 [.int .i64 x] rfl rfl (cell_one_new _ _ _) (by simp [Value.oneCell']) (by omega) (by unfold maxLen; omega) (by rw [hz2]; omega) ?_)
                  intro a4 c4 w4 hI hF hV
                  have S' := Lib.hid (St.join (zs := zs ++ [x]) HM.out (by simp) HS.out.new hap.out (((Foot.refl _ w3).alloc _).trans hF fun _ _ h => h) (Moved.ofAlloc hV) hI)
                  clear hI hF hV
                  go_wp2_with fail
                  go_meet
                  case rel => exact ⟨n + 1, a3, a4, c3, c4, zs ++ [x], by omega, by omega, rfl, S'.out⟩
              · as_aux_lemma =>
                  obtain rfl : n = room := by omega
                  go_wp2_with fail
                  refine (push_no w wr w.heap.size n cr ar x _ HS.out.ring).mono ?_
                  rintro e w3 ⟨rfl, k3, rfl⟩
                  have S' := Lib.hid (HS.out.still ((Foot.refl _ wr).drewN k3))
                  go_wp2_with fail
                  go_meet
                  case rel => exact ⟨n, ar, am, cr, cm, zs, by omega, by omega, rfl, S'.out⟩
            · by_cases k2 : q = 4 ∨ q = 5
              · as_aux_lemma =>
                  cases zs with
                  | nil =>
                    obtain rfl : n = 0 := HS.out.len.symm
                    rcases k2 with rfl | rfl
                    all_goals
                      clear k1
                      go_wp2_with fail
                      refine (Pop_none w.heap.size room cr ar _ wr HS.out.ring.ring).mono ?_
                      rintro e w3 ⟨rfl, rfl⟩
                      go_wp2_with fail
                      go_meet
                      case rel => exact ⟨0, ar, am, cr, cm, [], by omega, by omega, rfl, HS.out⟩
                  | cons z zs =>
                    obtain ⟨n', rfl⟩ : ∃ n', n = n' + 1 := ⟨zs.length, HS.out.len.symm⟩
                    rcases k2 with rfl | rfl
                    all_goals
                      clear k1
                      go_wp2_with fail
                      refine (pop_yes w wr w.heap.size room n' cr ar (.int .i64 z) (zs.map (Value.int .i64)) HS.out.ring (one_ints (zs := z :: zs))).mono ?_
                      rintro e w3 ⟨rfl, a3, c3, hM, hF, hV⟩
                      have hm3 := HS.out.mkeep hF
                      obtain ⟨g, o, cap', hv, _, _, _, hc⟩ := hm3.cell (by omega)
                      have hc2 := hc 0 (by omega)
                      simp only [Nat.add_zero, List.map_cons, List.getElem?_cons_zero] at hc2
                      obtain rfl : am = some ⟨g, o, none⟩ := by injection hv
                      have H3 := Lib.hid hm3
                      have hap := Lib.hid (HS.out.apart' hV)
                      have HM := Lib.hid hM; clear hM hF hV hm3 hc hv
                      go_wp2_with fail
                      all_goals
                        go_meet
                        case rel =>
                          refine ⟨n', a3, _, c3, _, zs, by omega, by omega, rfl, St.pop HM.out H3.out HS.out hap.out (by omega) ?_⟩
                          first | exact .inl ⟨rfl, by assumption⟩ | exact .inr ⟨rfl, by assumption⟩
              · by_cases k3 : q = 6
                · as_aux_lemma =>
                    subst k3
                    clear k1 k2
                    by_cases hin : 0 ≤ x ∧ x < n
                    · obtain ⟨k, rfl⟩ := Int.eq_ofNat_of_zero_le hin.1
                      have hkn : k < n := by omega
                      clear hin
                      have hzk : (zs.map (Value.int .i64))[k]? = some (.int .i64 (zs.getD k 0)) := getD_map (by have := HS.out.len; omega)
                      generalize hz : zs.getD k 0 = z at hzk
                      have HZ := Lib.hid hzk; clear hz
                      have C3 := Lib.hid (remove_yes w wr w.heap.size room n cr k ar (.int .i64 z) _ HS.out.ring one_ints hkn hzk)
                      clear hzk
                      go_wp2_with fail
                      refine C3.out.mono ?_
                      rintro e w3 ⟨rfl, a3, c3, hM, hF, hV⟩
                      have hm3 := HS.out.mkeep hF
                      obtain ⟨g, o, cap', hv, _, _, _, hc⟩ := hm3.cell (by omega)
                      have hc2 := hc k (by omega)
                      rw [HZ.out] at hc2
                      obtain rfl : am = some ⟨g, o, none⟩ := by injection hv
                      have H3 := Lib.hid hm3
                      have hap := Lib.hid (HS.out.apart' hV)
                      have HM := Lib.hid hM; have HC := Lib.hid hc; clear hM hF hV hm3 hv hc
                      go_wp2_with fail
                      clear hc0 hc1
                      have hw1 : IntKind.i64.wrap ((k : Int) + 1) = (k : Int) + 1 := by rw [IntKind.wrap_i64]; omega
                      have ht1 : ((k : Int) + 1).toNat = k + 1 := by omega
                      have hb1 : (0 : Int) ≤ (k : Int) + 1 := by omega
                      have hb3 : (k : Int) + 1 ≤ (n : Int) := by omega
                      have hcn : n ≤ cm := by obtain ⟨_, _, hv, h1, _⟩ := H3.out.shape; injection hv with _ _ e; omega
                      have hb4 : (k : Int) ≤ (cm : Int) := by omega
                      have hb5 : ¬ cm = 0 := by omega
                      have hlen := Lib.hid HS.out.nolen
                      have N1 := Lib.hid (news_of (w' := (w3.alloc (.cells #[] 3)).drew) H3.out (((Foot.refl (fun _ => False) w3).alloc _).drew) id 0 k (by omega) (A := some ⟨g, o, none⟩) (fun _ => rfl))
                      have L1 : Hid ((((zs.map (Value.int .i64)).drop 0).take k).length = k * 1) := Lib.hid (by rw [List.drop_zero, List.length_take, hlen.out]; omega)
                      have O1 := Lib.hid (show ∀ v ∈ ((zs.map (Value.int .i64)).drop 0).take k, v.oneCell' = true from fun v hv => one_ints v (List.mem_of_mem_take (by simpa using hv)))
                      have L2 : Hid ((((zs.map (Value.int .i64)).drop (k + 1)).take (n - (k + 1))).length = (n - (k + 1)) * 1) := Lib.hid (by rw [List.length_take, List.length_drop, hlen.out]; omega)
                      have O2 := Lib.hid (show ∀ v ∈ ((zs.map (Value.int .i64)).drop (k + 1)).take (n - (k + 1)), v.oneCell' = true from fun v hv => one_ints v (List.mem_of_mem_drop (List.mem_of_mem_take hv)))
                      have IF := Lib.hid (fresh_items (w3.alloc (.cells #[] 3)).drew 3 w3.heap.size (by simp))
                      have hgl := H3.out.lt (g := g) rfl
                      have HG3 : Hid (¬ (fun x => x = w3.heap.size) g) := Lib.hid (fun e => absurd hgl (by rw [show g = w3.heap.size from e]; exact Nat.lt_irrefl _))
                      go_region_law (first
                        | (refine step_of_wp rfl (wp_append_any (.tmp 209) (.tmp 212) 28 rfl 3 i0 (.int .i64 0) 1 Try.underlying28 hi hz0 hz1 rfl rfl IF.out _ k cm _ rfl L1.out N1.out O1.out (by unfold maxLen; omega) (by rw [hz2]; omega) ?_); intro a4 c4 w4 hI4 hF4 hV4; rw [Nat.zero_add] at hI4; have I4 := Lib.hid hI4; have F4 := Lib.hid (((((Foot.refl (fun x => x = w3.heap.size) w3).alloc _).drew).trans hF4 (fun x _ e => (Option.some.inj (show some w3.heap.size = some x from e)).symm))); have V4 : Hid (Moved (w3.alloc (.cells #[] 3)).drew (.slice (some ⟨w3.heap.size, 0, none⟩) 0 0) (.slice a4 k c4)) := Lib.hid (by rw [Nat.zero_add] at hV4; exact hV4); clear hI4 hF4 hV4)
                        | (refine step_of_wp rfl (wp_append_any (.tmp 213) (.tmp 217) 28 rfl 3 i0 (.int .i64 0) 1 Try.underlying28 hi hz0 hz1 rfl rfl I4.out _ (n - (k + 1)) (cm - (k + 1)) _ rfl L2.out (news_of H3.out F4.out HG3.out (k + 1) (n - (k + 1)) (by omega) (fun h0 => by rw [if_neg (by omega)])) O2.out (by unfold maxLen; omega) (by rw [hz2]; omega) ?_); intro a5 c5 w5 hI5 hF5 hV5; have I5 := Lib.hid hI5; have F5 : Hid (Foot (fun x => (Value.slice a4 k c4).ownBlock = some x) w4 w5) := Lib.hid hF5; have V5 : Hid (Moved w4 (.slice a4 k c4) (.slice a5 (k + (n - (k + 1))) c5)) := Lib.hid hV5; clear hI5 hF5 hV5))
                      all_goals
                        go_wp2_with fail
                        all_goals
                          go_meet
                          case rel => exact ⟨k + (n - (k + 1)), a3, a5, c3, c5, zs.take k ++ zs.drop (k + 1), by omega, by omega, rfl, St.rem hkn hlen.out HM.out F4.out V4.out F5.out V5.out I5.out⟩
                    · have ho : x < 0 ∨ 0 ≤ x ∧ (n : Int) ≤ x := by omega
                      have C3 := Lib.hid (Remove_out w.heap.size room n cr ar x _ wr HS.out.ring.ring (by omega))
                      clear hin
                      rcases ho with ho | ⟨ho1, ho2⟩
                      all_goals
                        go_wp2_with fail
                        refine C3.out.mono ?_
                        rintro e w3 ⟨rfl, rfl⟩
                        go_wp2_with fail
                        go_meet
                        case rel => exact ⟨n, ar, am, cr, cm, zs, by omega, by omega, rfl, HS.out⟩
                · by_cases k4 : q = 7
                  · as_aux_lemma =>
                      subst k4
                      clear k1 k2 k3
                      go_wp2_with fail
                      refine (Clear w.heap.size room n cr ar _ wr HS.out.ring.ring one_ints).mono ?_
                      rintro e w3 ⟨rfl, hA, hR, hF⟩
                      have HM := Lib.hid (HS.out.ring.step hR (hF.mono fun _ _ h => .inl h) (fun g hg => by simp [Value.ownBlock] at hg))
                      have HR := Lib.hid (show ReadsI w3 (some ⟨wr.heap.size, 0, none⟩) n zs by have h := (show At w3 wr.heap.size _ _ from hA).reads; rwa [HS.out.len] at h)
                      have HI := Lib.hid ((HS.out.mkeep (hF.mono fun _ _ h => .inl h)).reads)
                      clear hA hR hF
                      go_wp2_with fail
                      refine (same _ am n n cm zs w3 HR.out HI.out (by omega)).mono ?_
                      rintro e w4 ⟨rfl, k4, rfl⟩
                      have HM4 := Lib.hid (HM.out.still ((Foot.refl _ w3).drewN k4))
                      clear HR HI HM
                      go_wp2_with fail
                      go_meet
                      case rel => exact ⟨0, none, none, 0, 0, [], by omega, by omega, rfl, HM4.out, Items.nil _ _ _, fun g h => by simp [Value.ownBlock] at h, fun g h => by simp [Value.ownBlock] at h⟩
                  · as_aux_lemma =>
                      have b4 : (q == 4) = false := by rw [beq_eq_false_iff_ne]; omega
                      have b5 : (q == 5) = false := by rw [beq_eq_false_iff_ne]; omega
                      have b6 : (q == 6) = false := by rw [beq_eq_false_iff_ne]; omega
                      have b7 : (q == 7) = false := by rw [beq_eq_false_iff_ne]; omega
                      have ho : q < 0 ∨ 0 ≤ q ∧ 3 < q := by omega
                      clear k1 k2 k3 k4
                      cases zs with
                      | nil =>
                        obtain rfl : n = 0 := HS.out.len.symm
                        rcases ho with ho | ⟨ho1, ho2⟩
                        all_goals
                          go_wp2_with fail
                          refine (Head_none w.heap.size room cr ar _ wr HS.out.ring.ring).mono ?_
                          rintro e w3 ⟨rfl, rfl⟩
                          go_wp2_with fail
                          go_meet
                          case rel => exact ⟨0, ar, am, cr, cm, [], by omega, by omega, rfl, HS.out⟩
                      | cons z zs =>
                        obtain ⟨n', rfl⟩ : ∃ n', n = n' + 1 := ⟨zs.length, HS.out.len.symm⟩
                        obtain ⟨g, o, cap', hv, _, _, _, hc⟩ := HS.out.m.cell (by omega)
                        have hc2 := hc 0 (by omega)
                        simp only [Nat.add_zero, List.map_cons, List.getElem?_cons_zero] at hc2
                        obtain rfl : am = some ⟨g, o, none⟩ := by injection hv
                        clear hc hv
                        rcases ho with ho | ⟨ho1, ho2⟩
                        all_goals
                          go_wp2_with fail
                          refine (Head_some w.heap.size room n' cr ar (.int .i64 z) (zs.map (Value.int .i64)) wr HS.out.ring.ring).mono ?_
                          rintro e w3 ⟨rfl, rfl⟩
                          go_wp2_with fail
                          go_meet
                          case rel => exact ⟨n' + 1, ar, _, cr, cm, z :: zs, by omega, by omega, rfl, HS.out⟩
          case rest =>
            as_aux_lemma =>
              obtain ⟨n', ar', am', cr', cm', zs', hj', hn', rfl, hS'⟩ := hcut
              have HS' := Lib.hid hS'; clear hS' HS hc0 hc1
              have hnr' := HS'.out.ring.ring.le
              go_wp2_with fail
              refine (All w.heap.size room n' cr' ar' _ wc HS'.out.ring.ring one_ints).mono ?_
              rintro e w3 ⟨rfl, hA, hF⟩
              have HS3 := Lib.hid (HS'.out.still hF)
              have HR := Lib.hid (show ReadsI w3 (some ⟨wc.heap.size, 0, none⟩) n' zs' by have h := hA.reads; rwa [HS'.out.len] at h)
              have HM := Lib.hid HS3.out.m.reads
              clear hA hF HS'
              go_wp2_with fail
              refine (same _ am' n' n' cm' zs' w3 HR.out HM.out (by omega)).mono ?_
              rintro e w4 ⟨rfl, k4, rfl⟩
              have HS4 := Lib.hid (HS3.out.still ((Foot.refl _ w3).drewN k4))
              clear HR HM HS3
              go_wp2_with fail
              refine (Len w.heap.size room n' cr' ar' (w3.drewN k4) HS4.out.ring.ring.at_ (by omega)).mono ?_
              rintro e w5 ⟨rfl, rfl⟩
              go_wp2_with fail
              refine (Room w.heap.size room n' cr' ar' (w3.drewN k4) HS4.out.ring.ring.at_ hnr' hroom).mono ?_
              rintro e w5 ⟨rfl, k5, rfl⟩
              have HS5 := Lib.hid (HS4.out.still ((Foot.refl _ _).drewN k5))
              clear HS4
              go_wp2_with fail
              go_roundg (len1 - (j + 1))
              case measure => have := HGK.out; omega
              case rel => exact ⟨j + 1, by omega, by go_num, n', ar', am', cr', cm', zs', hj', hn', rfl, by rw [← World.drewN_drewN]; exact HS5.out⟩
        · have HB := Lib.hid HS.out.ring.below
          have hjl : len1 ≤ j := by omega
          go_wp2_with fail
          refine (known _).mono ?_
          rintro e w3 ⟨rfl, hb⟩
          have HB2 := Lib.hid (HB.out.trans (hb.mono HB.out.size))
          clear hb
          go_wp2_with fail
          go_ret
          exact ⟨rfl, HB2.out⟩


set_option maxRecDepth 100000 in
theorem lifted (os : Os) (started : os.Started) (H : Type) (enc : TypeId × Value → H) :
    ReturnsInHanded {} Try.checked os 3 .any (Rows.ringPlaysSpec.pre6 enc Try.prog Try.f3 Rows.ringPlaysRow.domain false) (Rows.ringPlaysSpec.post enc Try.prog Try.f3 false true false false) := by
  refine returnsInHanded_of_change (C := Try.checked) own started (by kernel_rfl) Try.func3
    (ChangeSpec.witness6 (enc := enc) (C := Try.checked) false ⟨#[], #[.int .i64 0, .slice none 0 0], []⟩ 8 (by kernel_rfl) (by kernel_rfl) (by kernel_rfl) (by kernel_rfl)) ?_
  intro W base args ds gs before hval0 hW hcnd _
  have hval : ∀ (j : Nat) t v, Try.f3.params[j]? = some t → args[j]? = some v → Value.okWide Try.prog W .any base t v := hval0
  have hW' := hW
  obtain ⟨p, q, hA0, hV, rfl, hfz, hnd⟩ := hW
  have hA : DataW.TrodAll enc Try.prog W 0 (fun _ => true) true Try.f3.params.toList args.toList ds p := hA0
  rw [Try.params3] at hA hval
  obtain ⟨v0, vs0, d0, ds0, p0, q0, hargs, rfl, rfl, h0, r0⟩ := trodAll_cons hA
  obtain ⟨v1, vs1, d1, ds1, p1, q1, rfl, rfl, rfl, h1, r1⟩ := trodAll_cons r0
  obtain ⟨rfl, rfl, rfl⟩ := trodAll_nil r1
  obtain rfl : args = #[v0, v1] := by cases args; simp_all
  obtain ⟨rfl, rfl⟩ := trodVars_none hV
  obtain ⟨a0, rfl, rfl, rfl, w0⟩ := open_int Try.underlying3 (hval 0 3 v0 rfl rfl) h0
  obtain ⟨a1, len1, cap1, rfl⟩ := okWide_slice Try.underlying22 (hval 1 22 v1 rfl rfl)
  have k1 := h1
  have lt1 : ∀ x ∈ p1, x.block < W.heap.size := by obtain ⟨m, hm⟩ := k1; exact DataW.trod_lt m _ _ _ hm
  obtain ⟨z1, w1⟩ := openA1 h1
  clear hA0 hval0
  refine (walk a0 a1 len1 cap1 z1 W w0 w1).mono fun e W' ⟨he, bel⟩ => ?_
  subst he
  exact ⟨_, rfl, _, _, _, [], _, [], hW', trodAll_mk1 (shut_bool Try.underlying4 _), (trodAll_cons_mk (shut_int Try.underlying3 w0) (trodAll_cons_mk (Below.trod laidOut (by kernel_rfl) (of_decide_eq_true (by kernel_rfl)) k1 bel lt1) trodAll_mk0)), rfl, bel.frame _, fun h => by cases h⟩

theorem over : Rows.ringPlaysRow.holds Try.pinned (OpenSpec.ofChange Rows.ringPlaysSpec) :=
  OpenClaim.holds_of_wide 3 Try.f3 rfl rfl rfl rfl rfl rfl rfl ⟨rfl, rfl, rfl, rfl, rfl⟩ rfl rfl rfl rfl rfl (by kernel_rfl) Try.func3 (by kernel_rfl)
    (of_decide_eq_true (by kernel_rfl)) (by unfold Func.isWrapper; first | (rw [if_pos (by decide +kernel)]; kernel_rfl) | (rw [if_neg (by decide +kernel)]; exact ⟨rfl, rfl⟩))
    (fun os started H enc _ => lifted os started H enc)

theorem proved : Rows.RingPlaysSaid := over
#print axioms proved
end Go.Proofs.Ytmiebedoijnnaaa.ringPlays
