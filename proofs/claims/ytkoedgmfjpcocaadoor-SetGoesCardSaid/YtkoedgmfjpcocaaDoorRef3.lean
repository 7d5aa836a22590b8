/- The contracts of the reference for sets: rising lists in slices. -/
import Derived.Test.YtkoedgmfjpcocaaDoorChecked
import Derived.Test.YtkoedgmfjpcocaaDoorMem
import Derived.Test.YtkoedgmfjpcocaaDoorWords
import Derived.Deep.QuietTactic
import Derived.BigQuiet
namespace Go.Proofs.YtkoedgmfjpcocaaDoor.Refs
open Go.RowKit Mem
set_option linter.unusedVariables false

theorem info_int : (Tryd.prog.info? 3).map (fun i => (i.zero, i.size, i.bytes)) = some (some (.int .i64 0), 1, 8) := by kernel_rfl
def ints (zs : List Int) : List Value := zs.map (Value.int .i64)
/-- The call hands out a new list. -/
def Gives (w : World) (ys : List Int) (e : Ending) (w' : World) : Prop :=
  ∃ a c, e = .returned (.slice a ys.length c) ∧ Items w' 3 1 (.slice a ys.length c) ys.length (ints ys) ∧ (∀ g, (Value.slice a ys.length c).ownBlock = some g → w.heap.size ≤ g) ∧ Foot (fun _ => False) w w'
/-- Is the number in the list? (a name, so that the walk leaves it alone) -/
def inB (zs : List Int) (x : Int) : Bool := zs.contains x
theorem inB_mem {zs : List Int} {x : Int} : inB zs x = decide (x ∈ zs) := List.contains_eq_mem x zs
theorem getD_of {zs : List Int} {k : Nat} (h : k < zs.length) : zs.getD k 0 = zs[k] := by rw [List.getD_eq_getElem?_getD, List.getElem?_eq_getElem h, Option.getD_some]
theorem fresh (w : World) (g : Nat) (h : g < w.heap.size) : Items w 3 1 (.slice (some ⟨g, 0, none⟩) 0 0) 0 [] :=
  ⟨by simp, _, 0, rfl, Nat.le_refl _, Nat.zero_le _, (fun x hx => by cases hx; exact h), fun h => absurd h (by omega)⟩

theorem Has (a : Option Addr) (n cap : Nat) (zs : List Int) (x : Int) (w : World) (hr : ReadsI w a n zs) (hn : n ≤ 9223372036854775807) :
    Calls Tryd.prog 16 #[.slice a n cap, .int .i64 x] w fun e w' => e = .returned (.bool (inB zs x)) ∧ w = w' := by
  have hl := hr.1
  have HR := Lib.hid hr; clear hr
  go_enter Tryd.func16, Tryd.ntmps16
  go_wp2_with fail
  go_loop [5] (fun i => ∃ k : Nat, k ≤ n ∧ i = .int .i64 k ∧ inB (zs.take k) x = false) (fun i => n - (intOf i).toNat)
  case atStart => exact ⟨0, Nat.zero_le _, rfl, rfl⟩
  case round =>
    obtain ⟨k, hk, rfl, hno⟩ := hrel
    have HN := Lib.hid hno; clear hno
    by_cases hlt : k < n
    · obtain ⟨b, off, rfl, hc⟩ := HR.out.2 (by omega)
      have hck := hc k hlt
      clear hc
      have hst : Hid (inB (zs.take (k + 1)) x = decide (zs.getD k 0 = x)) := Lib.hid (by
        have h := HN.out
        rw [List.take_succ_eq_append_getElem (by omega), getD_of (by omega)]
        simp only [inB_mem, List.mem_append, List.mem_singleton] at h ⊢
        have h' := of_decide_eq_false h
        rw [decide_eq_decide]
        constructor
        · rintro (h1 | h1)
          · exact absurd h1 h'
          · exact h1.symm
        · intro h1; exact .inr h1.symm)
      have hme : Hid (zs.getD k 0 ∈ zs) := Lib.hid (by rw [getD_of (by omega)]; exact List.getElem_mem _)
      generalize zs.getD k 0 = z at *
      by_cases hz : z = x
      · subst hz
        have hall : Hid (inB zs z = true) := Lib.hid (by rw [inB_mem]; exact decide_eq_true hme.out)
        clear hst hme HN
        go_wp2_with fail
        go_ret
        exact ⟨by rw [hall.out]; rfl, rfl⟩
      · have hs : Hid (inB (zs.take (k + 1)) x = false) := Lib.hid (by rw [hst.out]; exact decide_eq_false hz)
        have hz1 : (z == x) = false := beq_eq_false_iff_ne.2 hz
        clear hst hme HN
        go_wp2_with fail
        go_round
        case rel => exact ⟨k + 1, by omega, by go_num, hs.out⟩
        case measure => simp [intOf]; omega
    · obtain rfl : k = n := by omega
      have hall : Hid (inB zs x = false) := Lib.hid (by have h := HN.out; rwa [List.take_of_length_le (by omega)] at h)
      clear HN hlt
      go_wp2_with fail
      go_ret
      exact ⟨by rw [hall.out]; rfl, rfl⟩

theorem Same (a b : Option Addr) (n m cap cap' : Nat) (zs ys : List Int) (w : World) (hr : ReadsI w a n zs) (hq : ReadsI w b m ys) (hn : n ≤ 9223372036854775807) (hm : m ≤ 9223372036854775807) :
    Calls Tryd.prog 12 #[.slice a n cap, .slice b m cap'] w fun e w' => e = .returned (.bool (decide (zs = ys))) ∧ ∃ k, w' = w.drewN k := by
  have hl := hr.1
  have hl2 := hq.1
  have HR := Lib.hid hr; have HQ := Lib.hid hq
  clear hr hq
  by_cases hnm : n = m
  · subst hnm
    go_enter Tryd.func12, Tryd.ntmps12
    go_wp2_with fail
    go_loopw [5] (fun i wr => ∃ k d : Nat, k ≤ n ∧ i = .int .i64 k ∧ zs.take k = ys.take k ∧ wr = w.drewN d) (fun i _ => n - (intOf i).toNat)
    case atStart => exact ⟨0, 0, Nat.zero_le _, rfl, by simp, rfl⟩
    case round =>
      obtain ⟨k, d, hk, rfl, hno, rfl⟩ := hrel
      have HN := Lib.hid hno; clear hno
      by_cases hlt : k < n
      · obtain ⟨b1, off, rfl, hc⟩ := HR.out.2 (by omega)
        obtain ⟨b2, off2, rfl, hd⟩ := HQ.out.2 (by omega)
        have hck := hc k hlt
        have hdk := hd k hlt
        clear hc hd
        have e1 : zs.take (k + 1) = zs.take k ++ [zs.getD k 0] := by rw [List.take_succ_eq_append_getElem (by omega), getD_of (by omega)]
        have e2 : ys.take (k + 1) = ys.take k ++ [ys.getD k 0] := by rw [List.take_succ_eq_append_getElem (by omega), getD_of (by omega)]
        have hi0 : (0 : Int) ≤ (k : Int) := Int.natCast_nonneg _
        have hi1 : (k : Int) < (n : Int) := by omega
        by_cases hz : zs.getD k 0 = ys.getD k 0
        · have hs : Hid (zs.take (k + 1) = ys.take (k + 1)) := Lib.hid (by rw [e1, e2, HN.out, hz])
          rw [hz] at hck
          clear e1 e2 hz HN
          generalize ys.getD k 0 = z at *
          go_wp2_with fail
          go_quiet (fail)
          go_wp2_with fail
          go_roundw
          case rel => exact ⟨k + 1, _, by omega, by go_num, hs.out, (by first | rfl | rw [World.drewN_drewN])⟩
          case measure => simp [intOf]; omega
        · have hs : Hid (zs ≠ ys) := Lib.hid (fun h => hz (by rw [h]))
          have hz1 : (zs.getD k 0 != ys.getD k 0) = true := by simpa using hz
          clear e1 e2 hz HN
          generalize ys.getD k 0 = z at *
          generalize zs.getD k 0 = z' at *
          go_wp2_with fail
          go_quiet (fail)
          go_wp2_with fail
          go_ret
          exact ⟨by rw [decide_eq_false hs.out]; rfl, _, (by first | rfl | rw [World.drewN_drewN])⟩
      · obtain rfl : k = n := by omega
        have hall : Hid (zs = ys) := Lib.hid (by have h := HN.out; rwa [List.take_of_length_le (by omega), List.take_of_length_le (by omega)] at h)
        clear HN hlt
        go_wp2_with fail
        go_ret
        exact ⟨by rw [decide_eq_true hall.out]; rfl, _, rfl⟩
  · have hs : Hid (zs ≠ ys) := Lib.hid (fun h => hnm (by rw [← hl, ← hl2, h]))
    have hne : ((n : Int) != (m : Int)) = true := by simp; omega
    go_enter Tryd.func12, Tryd.ntmps12
    go_wp2_with fail
    go_ret
    exact ⟨by rw [decide_eq_false hs.out]; rfl, 0, rfl⟩
/-- The same, the world told by what has changed of it. -/
theorem Same' (a b : Option Addr) (n m cap cap' : Nat) (zs ys : List Int) (w : World) (hr : ReadsI w a n zs) (hq : ReadsI w b m ys) (hn : n ≤ 9223372036854775807) (hm : m ≤ 9223372036854775807) :
    Calls Tryd.prog 12 #[.slice a n cap, .slice b m cap'] w fun e w' => e = .returned (.bool (decide (zs = ys))) ∧ Foot (fun _ => False) w w' :=
  (Same a b n m cap cap' zs ys w hr hq hn hm).mono fun e w' ⟨h1, k, h2⟩ => ⟨h1, by rw [h2]; exact (Foot.refl _ w).drewN k⟩

section
variable {P : Program} {w : World} {o : Oper} {a : Act} {Q : Exit → Act → World → Prop} {ops : Array Oper} {rest : List Oper}
theorem wpList_append_any (hgd : o.guard = none) (s x : Operand) (t : TypeId) (ho : o.op = .call { callee := .builtin .append, args := #[s, x], argTypes := #[t, t] })
    (e : TypeId) (i : TypeInfo) (z : Value) (sz : Nat) (ht : P.underlying t = some (.slice e)) (hi : P.info? e = some i) (hz : i.zero = some z)
    (hsize : i.size = sz) (hzs : z.cells.size = sz) {v : Value} {n : Nat} {xs : List Value} (hs : a.eval s = v) (h : Items w e sz v n xs)
    (ao : Option Addr) (m c : Nat) (news : List Value) (hx : a.eval x = .slice ao m c) (hl : news.length = m * sz) (hnews : 0 < m → ∃ ad, ao = some ad ∧ ∀ j u, news[j]? = some u → w.cell? (ad.add j) = some u) (h1 : ∀ u ∈ news, u.oneCell' = true)
    (h63 : n + m ≤ maxLen) (hbytes : (n + m) * i.bytes ≤ 140737488355328)
    (hK : ∀ a' c' w', Items w' e sz (.slice a' (n + m) c') (n + m) (xs ++ news) → Foot (fun k => v.ownBlock = some k) w w' → Moved w v (.slice a' (n + m) c') → wpList P ops Q rest (a.put o.dst (.slice a' (n + m) c')) w') : wpList P ops Q (o :: rest) a w :=
  wpList_plain hgd fun _ hK' => wp_append_any s x t ho e i z sz ht hi hz hsize hzs hs h ao m c news hx hl hnews h1 h63 hbytes fun a' c' w' h2 h3 h4 => hK' _ _ (hK a' c' w' h2 h3 h4)
end

theorem ints_one {zs : List Int} : ∀ v ∈ ints zs, v.oneCell' = true := by
  intro v hv
  obtain ⟨z, _, rfl⟩ := List.mem_map.1 hv
  rfl
theorem ints_len {zs : List Int} : (ints zs).length = zs.length := List.length_map ..
theorem ints_snoc (zs : List Int) (z : Int) : ints zs ++ [.int .i64 z] = ints (zs ++ [z]) := by simp [ints]
/-- What a loop that collects has: its list, in memory of the call's own. -/
structure Has' (w wr : World) (out : Value) (ys : List Int) : Prop where
  items : Items wr 3 1 out ys.length (ints ys)
  own : ∀ g, out.ownBlock = some g → w.heap.size ≤ g
  foot : Foot (fun _ => False) w wr
theorem Has'.nil (w : World) : Has' w w (.slice none 0 0) [] := ⟨Items.nil _ _ _, (fun g h => by cases h), Foot.refl _ _⟩
theorem Has'.shape {w wr : World} {out : Value} {ys : List Int} (h : Has' w wr out ys) : ∃ a c, out = .slice a ys.length c ∧ ys.length ≤ c ∧ c ≤ maxLen := h.items.shape
/-- One more: the element lies in a block of its own. -/
theorem Has'.snoc {w wr w2 : World} {a' : Option Addr} {c c' n : Nat} {a : Option Addr} {ys : List Int} {z : Int} (h : Has' w wr (.slice a ys.length c) ys) (o : Obj)
    (hI : Items w2 3 1 (.slice a' (ys.length + 1) c') (ys.length + 1) (ints ys ++ [.int .i64 z])) (hF : Foot (fun k => (Value.slice a ys.length c).ownBlock = some k) (wr.alloc o) w2) (hM : Moved (wr.alloc o) (.slice a ys.length c) (.slice a' (ys.length + 1) c')) :
    Has' w w2 (.slice a' (ys.length + 1) c') (ys ++ [z]) := by
  refine ⟨by rw [List.length_append, ← ints_snoc]; exact hI, fun g hg => ?_, (h.foot.alloc o).trans hF fun k hk hk2 => absurd (h.own k hk2) (by omega)⟩
  rcases hM g hg with h1 | h1
  · exact h.own g h1
  · have := h.foot.size
    simp at h1
    omega

/-- What of a list is in no other. -/
def without (zs ys : List Int) : List Int := zs.filter fun z => !inB ys z
theorem without_step {zs ys : List Int} {k : Nat} (h : k < zs.length) : without (zs.take (k + 1)) ys = without (zs.take k) ys ++ (if inB ys (zs.getD k 0) then [] else [zs.getD k 0]) := by
  unfold without
  rw [List.take_succ_eq_append_getElem h, List.filter_append, getD_of h]
  congr 1
  cases hb : inB ys zs[k] <;> simp [hb]
theorem without_len (zs ys : List Int) : (without zs ys).length ≤ zs.length := List.length_filter_le ..

theorem Not (a b : Option Addr) (n m cap cap' : Nat) (zs ys : List Int) (w : World) (hr : ReadsI w a n zs) (hq : ReadsI w b m ys) (hn : n ≤ 1000000) (hm : m ≤ 9223372036854775807) :
    Calls Tryd.prog 22 #[.slice a n cap, .slice b m cap'] w (Gives w (without zs ys)) := by
  have hl := hr.1
  obtain ⟨i0, hi, hz0, hz1, hz2⟩ := info_parts info_int
  have HR := Lib.hid hr; have HQ := Lib.hid hq
  clear hr hq
  go_enter Tryd.func22, Tryd.ntmps22
  go_wp2_with fail
  go_loopw [5, 6] (fun v i wr => ∃ k : Nat, k ≤ n ∧ i = .int .i64 k ∧ Has' w wr v (without (zs.take k) ys)) (fun _ i _ => n - (intOf i).toNat)
  case atStart => exact ⟨0, Nat.zero_le _, rfl, Has'.nil w⟩
  case round =>
    obtain ⟨k, hk, rfl, hH⟩ := hrel
    obtain ⟨ao, co, hv, _, _⟩ := hH.shape
    subst hv
    have HH := Lib.hid hH; clear hH
    have hlen := Nat.le_trans (without_len (zs.take k) ys) (List.length_take_le k zs)
    by_cases hlt : k < n
    · obtain ⟨b1, off, rfl, hc⟩ := (HR.out.keep HH.out.foot fun _ _ => id).2 (by omega)
      have hck := hc k hlt
      clear hc
      have hst := without_step (zs := zs) (ys := ys) (k := k) (by omega)
      have C := Lib.hid fun x => Has b m cap' ys x wr (HQ.out.keep HH.out.foot fun _ _ => id) hm
      generalize zs.getD k 0 = z at hck hst
      generalize hwk : without (zs.take k) ys = l at *
      cases hb : inB ys z
      · rw [hb] at hst
        have HB := Lib.hid hb; have HS := Lib.hid hst
        clear hb hst hwk
        go_wp2_with fail
        refine (C.out z).mono ?_
        rintro e w2 ⟨rfl, rfl⟩
        rw [HB.out]
        go_wp2_with (at_builtin; refine wpList_append rfl (.tmp 20) (.tmp 25) 22 rfl 3 i0 (.int .i64 0) 1 Tryd.underlying22 hi hz0 hz1 rfl rfl (HH.out.items.alloc _) ⟨wr.heap.size, 0, none⟩ 1 1 [.int .i64 z] rfl rfl (cell_one_new _ _ _) (by simp [Value.oneCell']) (by omega) (by unfold maxLen; omega) (by rw [hz2]; omega) ?_)
        intro a' c' w2 hI hF hM
        have H2 := Lib.hid (HH.out.snoc (n := n) _ hI hF hM)
        clear hI hF hM
        go_wp2_with fail
        go_roundw
        case rel => exact ⟨k + 1, by omega, by go_num, by rw [HS.out]; exact H2.out⟩
        case measure => simp [intOf]; omega
      · rw [hb] at hst
        have HB := Lib.hid hb; have HS := Lib.hid hst
        clear hb hst hwk
        go_wp2_with fail
        refine (C.out z).mono ?_
        rintro e w2 ⟨rfl, rfl⟩
        rw [HB.out]
        go_wp2_with fail
        go_roundw
        case rel => exact ⟨k + 1, by omega, by go_num, by rw [HS.out]; simpa using HH.out⟩
        case measure => simp [intOf]; omega
    · obtain rfl : k = n := by omega
      have ht : Hid (zs.take k = zs) := Lib.hid (List.take_of_length_le (by omega))
      rw [ht.out] at HH hlen
      rw [ht.out]
      clear hlt
      go_wp2_with fail
      go_ret
      exact ⟨_, _, rfl, HH.out.items, HH.out.own, HH.out.foot⟩

open Words (els ofP)
def nums (l : List Nat) : List Int := l.map fun (j : Nat) => (j : Int)
/-- The numbers below k that are in the list, rising. -/
def upto (zs : List Int) (k : Nat) : List Int := nums ((List.range k).filter fun j => inB zs (j : Int))
theorem upto_all (zs : List Int) : upto zs 128 = nums (els (ofP zs)) := rfl
theorem upto_step (zs : List Int) (k : Nat) : upto zs (k + 1) = upto zs k ++ (if inB zs (k : Int) then [(k : Int)] else []) := by
  unfold upto nums
  rw [List.range_succ, List.filter_append, List.map_append]
  congr 1
  cases hb : inB zs (k : Int) <;> simp [hb]
theorem upto_len (zs : List Int) (k : Nat) : (upto zs k).length ≤ k := by
  unfold upto nums
  rw [List.length_map]
  have := List.length_filter_le (fun j : Nat => inB zs (j : Int)) (List.range k)
  simpa using this

set_option maxRecDepth 100000 in
theorem Of (a : Option Addr) (n cap : Nat) (zs : List Int) (w : World) (hr : ReadsI w a n zs) (hn : n ≤ 9223372036854775807) :
    Calls Tryd.prog 11 #[.slice a n cap] w (Gives w (nums (els (ofP zs)))) := by
  have hl := hr.1
  obtain ⟨i0, hi, hz0, hz1, hz2⟩ := info_parts info_int
  have HR := Lib.hid hr
  clear hr
  rw [← upto_all]
  go_enter Tryd.func11, Tryd.ntmps11
  go_wp2_with fail
  go_loopw [3, 4] (fun v i wr => ∃ k : Nat, k ≤ 128 ∧ i = .int .i64 k ∧ Has' w wr v (upto zs k)) (fun _ i _ => 128 - (intOf i).toNat)
  case atStart => exact ⟨0, Nat.zero_le _, rfl, Has'.nil w⟩
  case round =>
    obtain ⟨k, hk, rfl, hH⟩ := hrel
    obtain ⟨ao, co, hv, _, _⟩ := hH.shape
    subst hv
    have HH := Lib.hid hH; clear hH
    have hlen := upto_len zs k
    by_cases hlt : k < 128
    · have hst := upto_step zs k
      have C := Lib.hid fun x => Has a n cap zs x wr (HR.out.keep HH.out.foot fun _ _ => id) hn
      generalize hwk : upto zs k = l at *
      cases hb : inB zs (k : Int)
      · rw [hb] at hst
        have HB := Lib.hid hb; have HS := Lib.hid hst
        clear hb hst hwk
        go_wp2_with fail
        refine (C.out k).mono ?_
        rintro e w2 ⟨rfl, rfl⟩
        rw [HB.out]
        go_wp2_with fail
        go_roundw
        case rel => exact ⟨k + 1, by omega, by go_num, by rw [HS.out]; simpa using HH.out⟩
        case measure => simp [intOf]; omega
      · rw [hb] at hst
        have HB := Lib.hid hb; have HS := Lib.hid hst
        clear hb hst hwk
        go_wp2_with fail
        refine (C.out k).mono ?_
        rintro e w2 ⟨rfl, rfl⟩
        rw [HB.out]
        go_wp2_with (at_builtin; refine wpList_append rfl (.tmp 12) (.tmp 14) 22 rfl 3 i0 (.int .i64 0) 1 Tryd.underlying22 hi hz0 hz1 rfl rfl (HH.out.items.alloc _) ⟨wr.heap.size, 0, none⟩ 1 1 [.int .i64 k] rfl rfl (cell_one_new _ _ _) (by simp [Value.oneCell']) (by omega) (by unfold maxLen; omega) (by rw [hz2]; omega) ?_)
        intro a' c' w2 hI hF hM
        have H2 := Lib.hid (HH.out.snoc (n := n) _ hI hF hM)
        clear hI hF hM
        go_wp2_with fail
        go_roundw
        case rel => exact ⟨k + 1, by omega, by go_num, by rw [HS.out]; exact H2.out⟩
        case measure => simp [intOf]; omega
    · obtain rfl : k = 128 := by omega
      clear hlt
      go_wp2_with fail
      go_ret
      exact ⟨_, _, rfl, HH.out.items, HH.out.own, HH.out.foot⟩

theorem Has'.more {w wr w2 : World} {a' : Option Addr} {c c' : Nat} {a : Option Addr} {ys zs : List Int} (h : Has' w wr (.slice a ys.length c) ys)
    (hI : Items w2 3 1 (.slice a' (ys.length + zs.length) c') (ys.length + zs.length) (ints ys ++ ints zs)) (hF : Foot (fun k => (Value.slice a ys.length c).ownBlock = some k) wr w2) (hM : Moved wr (.slice a ys.length c) (.slice a' (ys.length + zs.length) c')) :
    Has' w w2 (.slice a' (ys.length + zs.length) c') (ys ++ zs) := by
  refine ⟨by rw [List.length_append, show ints (ys ++ zs) = ints ys ++ ints zs from List.map_append ..]; exact hI, fun g hg => ?_, h.foot.trans hF fun k hk hk2 => absurd (h.own k hk2) (by omega)⟩
  rcases hM g hg with h1 | h1
  · exact h.own g h1
  · have := h.foot.size
    omega
theorem news_of {w : World} {a : Option Addr} {n : Nat} {zs : List Int} (hr : ReadsI w a n zs) : 0 < n → ∃ ad, a = some ad ∧ ∀ j u, (ints zs)[j]? = some u → w.cell? (ad.add j) = some u := by
  intro hn
  obtain ⟨b, off, rfl, hc⟩ := hr.2 hn
  refine ⟨_, rfl, fun j u hu => ?_⟩
  have hj : j < n := by rw [← hr.1, ← ints_len]; exact (List.getElem?_eq_some_iff.1 hu).1
  have hadd : (⟨b, off, none⟩ : Addr).add j = ⟨b, off + j, none⟩ := by unfold Addr.add; split <;> simp_all
  rw [hadd, hc j hj, ← hu]
  exact (getD_map (by rw [hr.1]; exact hj)).symm

theorem Or (a b : Option Addr) (n m cap cap' : Nat) (zs ys : List Int) (w : World) (hr : ReadsI w a n zs) (hq : ReadsI w b m ys) (hn : n ≤ 1000000) (hm : m ≤ 1000000) :
    Calls Tryd.prog 18 #[.slice a n cap, .slice b m cap'] w (Gives w (nums (els (ofP (zs ++ ys))))) := by
  have hl := hr.1
  have hl2 := hq.1
  obtain ⟨i0, hi, hz0, hz1, hz2⟩ := info_parts info_int
  have HR := Lib.hid hr; have HQ := Lib.hid hq
  clear hr hq
  subst hl hl2
  go_enter Tryd.func18, Tryd.ntmps18
  have I0 : Hid (Items (w.alloc (.cells #[] 3)) 3 1 (.slice (some ⟨w.heap.size, 0, none⟩) 0 0) 0 []) := Lib.hid (fresh _ _ (by simp))
  have F0 : Hid (Foot (fun _ => False) w (w.alloc (.cells #[] 3))) := Lib.hid ((Foot.refl _ w).alloc _)
  have N1 := Lib.hid (news_of (HR.out.keep F0.out fun _ _ => id))
  go_wp2_with (at_builtin; refine wpList_append_any rfl (.tmp 5) (.tmp 6) 22 rfl 3 i0 (.int .i64 0) 1 Tryd.underlying22 hi hz0 hz1 rfl rfl I0.out _ zs.length cap (ints zs) rfl (by rw [ints_len, Nat.mul_one]) N1.out ints_one (by unfold maxLen; omega) (by rw [hz2]; omega) ?_)
  intro a1 c1 w1 hI hF hM
  have H1 : Hid (Has' w w1 (.slice a1 zs.length c1) zs) := Lib.hid (by
    refine ⟨by simpa using hI, fun g hg => ?_, F0.out.trans hF fun k hk hk2 => by cases hk2; exact absurd hk (Nat.lt_irrefl _)⟩
    rcases hM g (by simpa using hg) with h1 | h1
    · cases h1; exact Nat.le_refl _
    · simp at h1; omega)
  clear hI hF hM N1 I0 F0
  have N2 := Lib.hid (news_of (HQ.out.keep H1.out.foot fun _ _ => id))
  go_wp2_with (at_builtin; refine wpList_append_any rfl (.tmp 7) (.tmp 8) 22 rfl 3 i0 (.int .i64 0) 1 Tryd.underlying22 hi hz0 hz1 rfl rfl H1.out.items _ ys.length cap' (ints ys) rfl (by rw [ints_len, Nat.mul_one]) N2.out ints_one (by unfold maxLen; omega) (by rw [hz2]; omega) ?_)
  intro a2 c2 w2 hI hF hM
  have H2 := Lib.hid (H1.out.more hI hF hM)
  have hlen : Hid ((zs ++ ys).length = zs.length + ys.length) := Lib.hid (List.length_append ..)
  have HI : Hid (ReadsI w2 a2 (zs.length + ys.length) (zs ++ ys)) := Lib.hid (by
    have h := H2.out.items
    rw [hlen.out] at h
    exact h.reads)
  clear hI hF hM
  go_wp2_with fail
  refine (Of a2 (zs.length + ys.length) c2 (zs ++ ys) w2 HI.out (by omega)).mono ?_
  rintro e w3 ⟨a3, c3, rfl, hI3, hO3, hF3⟩
  have HI3 := Lib.hid hI3; have HO3 := Lib.hid hO3; have HF3 := Lib.hid hF3
  clear hI3 hO3 hF3
  go_wp2_with fail
  go_ret
  exact ⟨_, _, rfl, HI3.out, fun g hg => Nat.le_trans H2.out.foot.size (HO3.out g hg), H2.out.foot.trans HF3.out fun _ _ h => h⟩

/-- A list that was handed out reads as it should. -/
theorem Gives.of {w w' : World} {ys : List Int} {e : Ending} (h : Gives w ys e w') : ∃ a c, e = .returned (.slice a ys.length c) ∧ ReadsI w' a ys.length ys ∧ Foot (fun _ => False) w w' := by
  obtain ⟨a, c, h1, h2, _, h4⟩ := h
  exact ⟨a, c, h1, h2.reads, h4⟩

theorem And (a b : Option Addr) (n m cap cap' : Nat) (zs ys : List Int) (w : World) (hr : ReadsI w a n zs) (hq : ReadsI w b m ys) (hn : n ≤ 1000000) (hm : m ≤ 9223372036854775807) :
    Calls Tryd.prog 20 #[.slice a n cap, .slice b m cap'] w (Gives w (without zs (without zs ys))) := by
  have C := Lib.hid (Not a b n m cap cap' zs ys w hr hq hn hm)
  have hl := hr.1
  have hlen := without_len zs ys
  have HR := Lib.hid hr
  clear hr hq
  go_enter Tryd.func20, Tryd.ntmps20
  go_wp2_with fail
  refine C.out.mono ?_
  intro e w2 hg
  obtain ⟨a2, c2, rfl, hI2, hF2⟩ := hg.of
  have HF2 := Lib.hid hF2
  have C2 := Lib.hid (Not a a2 n (without zs ys).length cap c2 zs (without zs ys) w2 (HR.out.keep hF2 fun _ _ => id) hI2 hn (by omega))
  clear hI2 hF2 hg
  generalize without zs ys = l at *
  go_wp2_with fail
  refine C2.out.mono ?_
  rintro e w3 ⟨a3, c3, rfl, hI3, hO3, hF3⟩
  have HI3 := Lib.hid hI3; have HO3 := Lib.hid hO3; have HF3 := Lib.hid hF3
  clear hI3 hO3 hF3
  go_wp2_with fail
  go_ret
  exact ⟨_, _, rfl, HI3.out, fun g hg => Nat.le_trans HF2.out.size (HO3.out g hg), HF2.out.trans HF3.out fun _ _ h => h⟩
end Go.Proofs.YtkoedgmfjpcocaaDoor.Refs
