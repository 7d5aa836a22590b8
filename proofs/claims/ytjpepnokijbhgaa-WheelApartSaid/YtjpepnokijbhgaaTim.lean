/- Timers as lists: rising pairs of a timer and what is left of it; what the calls make of such a list. No program in it. -/
import Derived.Test.YtjpepnokijbhgaaMapK
namespace Go.Proofs.Ytjpepnokijbhgaa.Tim
open MapK
set_option linter.unusedVariables false

abbrev F := Int × Int
/-- By instance, then by timer. -/
def lt (a b : F) : Prop := a.1 < b.1 ∨ (a.1 = b.1 ∧ a.2 < b.2)
instance (a b : F) : Decidable (lt a b) := by unfold lt; infer_instance
theorem lt_irrefl (a : F) : ¬ lt a a := by unfold lt; omega
theorem lt_trans {a b c : F} (h : lt a b) (h2 : lt b c) : lt a c := by unfold lt at *; omega
theorem lt_asymm {a b : F} (h : lt a b) : ¬ lt b a := by unfold lt at *; omega
theorem lt_ne {a b : F} (h : lt a b) : a ≠ b := by rintro rfl; exact lt_irrefl a h
theorem lt_total {a b : F} (h : ¬ lt a b) (hne : a ≠ b) : lt b a := by
  obtain ⟨a1, a2⟩ := a
  obtain ⟨b1, b2⟩ := b
  have : ¬ (a1 = b1 ∧ a2 = b2) := fun h => hne (by rw [h.1, h.2])
  unfold lt at *
  simp only at *
  omega

abbrev TRows := List (F × Int)
/-- Such lists as may stand: rising, no number negative, something left of each. -/
structure Fine (L : TRows) : Prop where
  rise : L.Pairwise fun p q => lt p.1 q.1
  keys : ∀ p ∈ L, (0 ≤ p.1.1 ∧ p.1.1 ≤ 9223372036854775807) ∧ (0 ≤ p.1.2 ∧ p.1.2 ≤ 9223372036854775807)
  vals : ∀ p ∈ L, 1 ≤ p.2 ∧ p.2 ≤ 65536

/-- Laid in at its place. -/
def ins (p : F × Int) : TRows → TRows
  | [] => [p]
  | q :: r => if lt p.1 q.1 then p :: q :: r else q :: ins p r
def armL (f : F) (n : Int) (L : TRows) : TRows := ins (f, n) (out L f)
def tickL (L : TRows) : TRows := (L.filter fun p => decide (p.2 ≠ 1)).map fun p => (p.1, p.2 - 1)
def firedL (L : TRows) : List F := (L.filter fun p => decide (p.2 = 1)).map (·.1)
def clearL (i : Int) (L : TRows) : TRows := L.filter fun p => decide (p.1.1 ≠ i)
def least (L : TRows) : Int := L.foldr (fun p m => min m p.2) 65536
/-- What Left answers. -/
def leftN (L : TRows) (f : F) : Int := (MapK.look L f).getD 0
def leftB (L : TRows) (f : F) : Bool := (MapK.look L f).isSome
/-- What Next answers. -/
def nextN (L : TRows) : Int := if L = [] then 0 else least L
def nextB (L : TRows) : Bool := decide (L ≠ [])
/-- May f be armed for n ticks? -/
def may (f : F) (n : Int) : Prop := (0 ≤ f.1 ∧ 0 ≤ f.2) ∧ (1 ≤ n ∧ n ≤ 65536)
instance (f : F) (n : Int) : Decidable (may f n) := by unfold may; infer_instance

theorem ins_perm (p : F × Int) : ∀ L : TRows, (ins p L).Perm (p :: L)
  | [] => List.Perm.refl _
  | q :: r => by
    unfold ins
    split
    · exact List.Perm.refl _
    · exact ((ins_perm p r).cons q).trans (List.Perm.swap p q r)
theorem ins_rise (p : F × Int) : ∀ L : TRows, (L.Pairwise fun p q => lt p.1 q.1) → (∀ q ∈ L, q.1 ≠ p.1) → (ins p L).Pairwise fun p q => lt p.1 q.1
  | [], _, _ => by simp [ins]
  | q :: r, h, hne => by
    obtain ⟨h1, h2⟩ := List.pairwise_cons.1 h
    unfold ins
    split
    · rename_i hl
      exact List.pairwise_cons.2 ⟨fun x hx => by
        rcases List.mem_cons.1 hx with rfl | hx
        · exact hl
        · exact lt_trans hl (h1 x hx), h⟩
    · rename_i hl
      have hq : lt q.1 p.1 := lt_total hl fun e => hne q (by simp) e.symm
      refine List.pairwise_cons.2 ⟨fun x hx => ?_, ins_rise p r h2 fun x hx => hne x (by simp [hx])⟩
      rcases List.mem_cons.1 ((ins_perm p r).mem_iff.1 hx) with rfl | hx
      · exact hq
      · exact h1 x hx
theorem mem_out {L : TRows} {f : F} {p : F × Int} (h : p ∈ out L f) : p ∈ L ∧ p.1 ≠ f := by
  unfold out at h
  simpa using List.mem_filter.1 h

section
variable {L L' : TRows} {f : F} {n : Int}
theorem Fine.nil : Fine [] := ⟨List.Pairwise.nil, by simp, by simp⟩
theorem Fine.sub (h : Fine L) (hs : L'.Sublist L) : Fine L' := ⟨h.rise.sublist hs, fun p hp => h.keys p (hs.subset hp), fun p hp => h.vals p (hs.subset hp)⟩
theorem Fine.out (h : Fine L) (f : F) : Fine (out L f) := h.sub List.filter_sublist
theorem Fine.clear (h : Fine L) (i : Int) : Fine (clearL i L) := h.sub List.filter_sublist
theorem Fine.arm (h : Fine L) (hm : may f n) (hf : f.1 ≤ 9223372036854775807 ∧ f.2 ≤ 9223372036854775807) : Fine (armL f n L) := by
  refine ⟨ins_rise _ _ (h.out f).rise fun q hq => (mem_out hq).2, fun p hp => ?_, fun p hp => ?_⟩
  · rcases List.mem_cons.1 ((ins_perm _ _).mem_iff.1 hp) with rfl | hp
    · exact ⟨⟨hm.1.1, hf.1⟩, ⟨hm.1.2, hf.2⟩⟩
    · exact h.keys p (mem_out hp).1
  · rcases List.mem_cons.1 ((ins_perm _ _).mem_iff.1 hp) with rfl | hp
    · exact hm.2
    · exact h.vals p (mem_out hp).1
theorem Fine.tick (h : Fine L) : Fine (tickL L) := by
  have h1 : Fine (L.filter fun p => decide (p.2 ≠ 1)) := h.sub List.filter_sublist
  refine ⟨List.pairwise_map.2 h1.rise, fun p hp => ?_, fun p hp => ?_⟩
  · obtain ⟨q, hq, rfl⟩ := List.mem_map.1 hp
    exact h1.keys q hq
  · obtain ⟨q, hq, rfl⟩ := List.mem_map.1 hp
    have h2 := h1.vals q hq
    have h3 : q.2 ≠ 1 := by simpa using (List.mem_filter.1 hq).2
    show 1 ≤ q.2 - 1 ∧ q.2 - 1 ≤ 65536
    omega
theorem Fine.nodup (h : Fine L) : (L.map (·.1)).Nodup := List.pairwise_map.2 (h.rise.imp fun h => lt_ne h)
theorem Fine.fired (h : Fine L) : (firedL L).Pairwise lt := List.pairwise_map.2 (h.rise.sublist List.filter_sublist)
theorem length_arm (L : TRows) : (armL f n L).length ≤ L.length + 1 := by
  rw [show (armL f n L).length = _ from (ins_perm _ _).length_eq, List.length_cons]
  exact Nat.succ_le_succ (List.length_filter_le _ _)
theorem length_out (L : TRows) : (out L f).length ≤ L.length := List.length_filter_le _ _
theorem length_clear (i : Int) (L : TRows) : (clearL i L).length ≤ L.length := List.length_filter_le _ _
theorem length_tick (L : TRows) : (tickL L).length ≤ L.length := by
  unfold tickL
  rw [List.length_map]
  exact List.length_filter_le _ _
theorem length_fired (L : TRows) : (firedL L).length ≤ L.length := by
  unfold firedL
  rw [List.length_map]
  exact List.length_filter_le _ _
end

/-- Two rising lists with the same members are one. -/
theorem rise_eq : ∀ {l l' : List F}, l.Pairwise lt → l'.Pairwise lt → l.Perm l' → l = l'
  | [], l', _, _, hp => (List.nil_perm.1 hp).symm
  | a :: r, [], _, _, hp => absurd hp.length_eq (by simp)
  | a :: r, b :: s, h, h', hp => by
    obtain ⟨h1, h2⟩ := List.pairwise_cons.1 h
    obtain ⟨h3, h4⟩ := List.pairwise_cons.1 h'
    have hab : a = b := by
      rcases List.mem_cons.1 (hp.mem_iff.1 (List.mem_cons_self ..)) with e | ha
      · exact e
      · rcases List.mem_cons.1 (hp.mem_iff.2 (List.mem_cons_self ..)) with e | hb
        · exact e.symm
        · exact absurd (h1 b hb) (lt_asymm (h3 a ha))
    subst hab
    rw [rise_eq h2 h4 (List.Perm.cons_inv hp)]

/-! ### a tick, entry by entry -/
def kept (done : TRows) : TRows := tickL done
def came (done : TRows) : List F := (firedL done).reverse
theorem kept_more {x : F} {y : Int} (done : TRows) (h : y ≠ 1) : kept ((x, y) :: done) = (x, y - 1) :: kept done := by simp [kept, tickL, h]
theorem kept_fire {x : F} (done : TRows) : kept ((x, 1) :: done) = kept done := by simp [kept, tickL]
theorem came_more {x : F} {y : Int} (done : TRows) (h : y ≠ 1) : came ((x, y) :: done) = came done := by simp [came, firedL, h]
theorem came_fire {x : F} (done : TRows) : came ((x, 1) :: done) = came done ++ [x] := by simp [came, firedL]
theorem kept_perm {done L : TRows} (h : done.Perm L) : (kept done).Perm (tickL L) := (h.filter _).map _
theorem came_perm {done L : TRows} (h : done.Perm L) : (came done).Perm (firedL L) := (List.reverse_perm _).trans ((h.filter _).map _)
/-- What stays of an instance's clearing. -/
theorem clear_hit {x : F} {y : Int} {i : Int} (done : TRows) (h : x.1 = i) : clearL i ((x, y) :: done) = clearL i done := by simp [clearL, h]
theorem clear_miss {x : F} {y : Int} {i : Int} (done : TRows) (h : x.1 ≠ i) : clearL i ((x, y) :: done) = (x, y) :: clearL i done := by simp [clearL, h]
theorem clear_perm {i : Int} {done L : TRows} (h : done.Perm L) : (clearL i done).Perm (clearL i L) := h.filter _
theorem least_cons (p : F × Int) (L : TRows) : least (p :: L) = min (least L) p.2 := rfl
theorem least_le : ∀ L : TRows, least L ≤ 65536
  | [] => Int.le_refl _
  | p :: L => by rw [least_cons]; have := least_le L; omega
theorem least_perm {L L' : TRows} (h : L.Perm L') : least L = least L' := by
  induction h with
  | nil => rfl
  | cons x _ ih => rw [least_cons, least_cons, ih]
  | swap x y l => simp only [least_cons]; omega
  | trans _ _ h1 h2 => exact h1.trans h2
theorem least_append : ∀ L L' : TRows, least (L ++ L') = min (least L) (least L')
  | [], L' => by have := least_le L'; show least L' = min 65536 (least L'); omega
  | p :: L, L' => by
    rw [List.cons_append, least_cons, least_cons, least_append L L']
    omega
theorem least_pos : ∀ L : TRows, (∀ p ∈ L, 1 ≤ p.2) → 1 ≤ least L
  | [], _ => by show (1 : Int) ≤ 65536; omega
  | p :: L, h => by
    rw [least_cons]
    have := least_pos L fun q hq => h q (by simp [hq])
    have := h p (by simp)
    omega
/-! ### the reference's loops: by the first k -/
theorem take_succ {α : Type} {L : List α} {k : Nat} {x : α} (h : L[k]? = some x) : L.take (k + 1) = L.take k ++ [x] := by
  obtain ⟨hk, rfl⟩ := List.getElem?_eq_some_iff.1 h
  exact List.take_succ_eq_append_getElem hk
theorem out_next {L : TRows} {f : F} {k : Nat} {x : F} {y : Int} (h : L[k]? = some (x, y)) : out (L.take (k + 1)) f = if x = f then out (L.take k) f else out (L.take k) f ++ [(x, y)] := by
  rw [take_succ h]
  unfold out
  rw [List.filter_append]
  by_cases e : x = f <;> simp [e]
theorem clear_next {L : TRows} {i : Int} {k : Nat} {x : F} {y : Int} (h : L[k]? = some (x, y)) : clearL i (L.take (k + 1)) = if x.1 = i then clearL i (L.take k) else clearL i (L.take k) ++ [(x, y)] := by
  rw [take_succ h]
  unfold clearL
  rw [List.filter_append]
  by_cases e : x.1 = i <;> simp [e]
theorem tick_next {L : TRows} {k : Nat} {x : F} {y : Int} (h : L[k]? = some (x, y)) : tickL (L.take (k + 1)) = if y = 1 then tickL (L.take k) else tickL (L.take k) ++ [(x, y - 1)] := by
  rw [take_succ h]
  unfold tickL
  rw [List.filter_append]
  by_cases e : y = 1 <;> simp [e]
theorem fired_next {L : TRows} {k : Nat} {x : F} {y : Int} (h : L[k]? = some (x, y)) : firedL (L.take (k + 1)) = if y = 1 then firedL (L.take k) ++ [x] else firedL (L.take k) := by
  rw [take_succ h]
  unfold firedL
  rw [List.filter_append]
  by_cases e : y = 1 <;> simp [e]
/-- The first k, the new one laid in where it has its place. -/
def put (f : F) (n : Int) (L : TRows) : Prop := ∃ p ∈ L, lt f p.1
instance (f : F) (n : Int) (L : TRows) : Decidable (put f n L) := by unfold put; infer_instance
def insTo (f : F) (n : Int) (L : TRows) : TRows := if put f n L then ins (f, n) L else L
theorem put_nil (f : F) (n : Int) : ¬ put f n [] := by rintro ⟨p, h, _⟩; cases h
theorem put_next {L : TRows} {f : F} {n : Int} {k : Nat} {x : F} {y : Int} (h : L[k]? = some (x, y)) : put f n (L.take (k + 1)) ↔ put f n (L.take k) ∨ lt f x := by
  rw [take_succ h]
  unfold put
  simp only [List.mem_append, List.mem_singleton]
  constructor
  · rintro ⟨p, hp | rfl, hl⟩
    · exact .inl ⟨p, hp, hl⟩
    · exact .inr hl
  · rintro (⟨p, hp, hl⟩ | hl)
    · exact ⟨p, .inl hp, hl⟩
    · exact ⟨(x, y), .inr rfl, hl⟩
theorem ins_append_put (f : F) (n : Int) (q : F × Int) : ∀ L : TRows, put f n L → ins (f, n) (L ++ [q]) = ins (f, n) L ++ [q]
  | [], h => absurd h (put_nil f n)
  | p :: r, h => by
    rw [List.cons_append]
    unfold ins
    split
    · rfl
    · rename_i hl
      rw [ins_append_put f n q r]
      · rfl
      · obtain ⟨p', hp, hl'⟩ := h
        rcases List.mem_cons.1 hp with rfl | hp
        · exact absurd hl' hl
        · exact ⟨p', hp, hl'⟩
theorem ins_append_not (f : F) (n : Int) : ∀ (L M : TRows), ¬ put f n L → ins (f, n) (L ++ M) = L ++ ins (f, n) M
  | [], M, _ => rfl
  | p :: r, M, h => by
    rw [List.cons_append]
    conv => lhs; unfold ins
    rw [if_neg fun hl => h ⟨p, by simp, hl⟩, ins_append_not f n r M fun ⟨p', hp, hl⟩ => h ⟨p', by simp [hp], hl⟩]
    rfl
theorem ins_not {f : F} {n : Int} {L : TRows} (h : ¬ put f n L) : ins (f, n) L = L ++ [(f, n)] := by
  have := ins_append_not f n L [] h
  rwa [List.append_nil] at this
theorem insTo_nil (f : F) (n : Int) : insTo f n [] = [] := if_neg (put_nil f n)
/-- It was laid in before. -/
theorem insTo_was {L : TRows} {f : F} {n : Int} {k : Nat} {x : F} {y : Int} (h : L[k]? = some (x, y)) (hp : put f n (L.take k)) : insTo f n (L.take (k + 1)) = insTo f n (L.take k) ++ [(x, y)] := by
  unfold insTo
  rw [if_pos ((put_next h).2 (.inl hp)), if_pos hp, take_succ h, ins_append_put f n _ _ hp]
/-- It is laid in now. -/
theorem insTo_now {L : TRows} {f : F} {n : Int} {k : Nat} {x : F} {y : Int} (h : L[k]? = some (x, y)) (hp : ¬ put f n (L.take k)) (hl : lt f x) : insTo f n (L.take (k + 1)) = insTo f n (L.take k) ++ [(f, n), (x, y)] := by
  unfold insTo
  rw [if_pos ((put_next h).2 (.inr hl)), if_neg hp, take_succ h, ins_append_not f n _ _ hp]
  congr 1
  unfold ins
  rw [if_pos hl]
/-- Not yet. -/
theorem insTo_not {L : TRows} {f : F} {n : Int} {k : Nat} {x : F} {y : Int} (h : L[k]? = some (x, y)) (hp : ¬ put f n (L.take k)) (hl : ¬ lt f x) : insTo f n (L.take (k + 1)) = insTo f n (L.take k) ++ [(x, y)] := by
  unfold insTo
  rw [if_neg fun h' => ((put_next h).1 h').elim hp hl, if_neg hp, take_succ h]
/-! ### cells -/
def flat2 (l : List F) : List Value := l.flatMap fun x => [.int .i64 x.1, .int .i64 x.2]
def flat3 (L : TRows) : List Value := L.flatMap fun p => [.int .i64 p.1.1, .int .i64 p.1.2, .int .i64 p.2]
theorem flat2_append (a b : List F) : flat2 (a ++ b) = flat2 a ++ flat2 b := List.flatMap_append
theorem flat3_append (a b : TRows) : flat3 (a ++ b) = flat3 a ++ flat3 b := List.flatMap_append
theorem length_flat2 : ∀ l : List F, (flat2 l).length = l.length * 2
  | [] => rfl
  | x :: r => by
    rw [show flat2 (x :: r) = Value.int .i64 x.1 :: Value.int .i64 x.2 :: flat2 r from rfl, List.length_cons, List.length_cons, length_flat2 r, List.length_cons]
    omega
theorem length_flat3 : ∀ L : TRows, (flat3 L).length = L.length * 3
  | [] => rfl
  | x :: r => by
    rw [show flat3 (x :: r) = Value.int .i64 x.1.1 :: Value.int .i64 x.1.2 :: Value.int .i64 x.2 :: flat3 r from rfl, List.length_cons, List.length_cons, List.length_cons, length_flat3 r, List.length_cons]
    omega
theorem flat2_get : ∀ (l : List F) (k : Nat) (x : F), l[k]? = some x → (flat2 l)[k * 2]? = some (.int .i64 x.1) ∧ (flat2 l)[k * 2 + 1]? = some (.int .i64 x.2)
  | [], k, x, h => by simp at h
  | a :: r, 0, x, h => by
    simp at h
    subst h
    exact ⟨rfl, rfl⟩
  | a :: r, k + 1, x, h => by
    have := flat2_get r k x (by simpa using h)
    rw [show (k + 1) * 2 = k * 2 + 2 by omega]
    exact this
theorem flat3_get : ∀ (L : TRows) (k : Nat) (p : F × Int), L[k]? = some p → (flat3 L)[k * 3]? = some (.int .i64 p.1.1) ∧ (flat3 L)[k * 3 + 1]? = some (.int .i64 p.1.2) ∧ (flat3 L)[k * 3 + 2]? = some (.int .i64 p.2)
  | [], k, x, h => by simp at h
  | a :: r, 0, x, h => by
    simp at h
    subst h
    exact ⟨rfl, rfl, rfl⟩
  | a :: r, k + 1, x, h => by
    have := flat3_get r k x (by simpa using h)
    rw [show (k + 1) * 3 = k * 3 + 3 by omega]
    exact this
theorem flat2_one (l : List F) : ∀ v ∈ flat2 l, v.oneCell' = true := fun v hv => by
  obtain ⟨x, _, hx⟩ := List.mem_flatMap.1 hv
  simp at hx
  rcases hx with rfl | rfl <;> rfl
theorem flat3_one (L : TRows) : ∀ v ∈ flat3 L, v.oneCell' = true := fun v hv => by
  obtain ⟨x, _, hx⟩ := List.mem_flatMap.1 hv
  simp at hx
  rcases hx with rfl | rfl | rfl <;> rfl
end Go.Proofs.Ytjpepnokijbhgaa.Tim
