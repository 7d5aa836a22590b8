/- Two Wheels side by side (law 5's WheelApart). -/
import Derived.Test.YtjpepnokijbhgaaSeen5
import Derived.Test.YtjpepnokijbhgaaRef5d
namespace Go.Proofs.Ytjpepnokijbhgaa.Whl
open Go.RowKit Mem MapK Tim MapF
set_option linter.unusedVariables false

/-- Two rising lists of timers with the same members are one. -/
theorem rows_eq : ∀ {l l' : TRows}, (l.Pairwise fun p q => lt p.1 q.1) → (l'.Pairwise fun p q => lt p.1 q.1) → l.Perm l' → l = l'
  | [], l', _, _, hp => (List.nil_perm.1 hp).symm
  | a :: r, [], _, _, hp => absurd hp.length_eq (by simp)
  | a :: r, b :: s, h, h', hp => by
    obtain ⟨h1, h2⟩ := List.pairwise_cons.1 h
    obtain ⟨h3, h4⟩ := List.pairwise_cons.1 h'
    have hab : a = b := by
      rcases List.mem_cons.1 (hp.mem_iff.1 (List.mem_cons_self ..)) with e | ha
      · exact e
      · rcases List.mem_cons.1 (hp.mem_iff.2 (List.mem_cons_self ..)) with e | hb
        · exact e.symm
        · exact absurd (h1 b hb) (lt_asymm (h3 a ha))
    subst hab
    rw [rows_eq h2 h4 (List.Perm.cons_inv hp)]
theorem clear_out (g : Int) (f : F) (L : TRows) : clearL g (out L f) = out (clearL g L) f := by
  unfold clearL out
  rw [List.filter_filter, List.filter_filter]
  exact List.filter_congr fun p _ => Bool.and_comm _ _
theorem clear_gone {g : Int} {f : F} (L : TRows) (h : f.1 = g) : clearL g (out L f) = clearL g L := by
  unfold clearL out
  rw [List.filter_filter]
  refine List.filter_congr fun p _ => ?_
  by_cases e : p.1.1 = g
  · simp [e]
  · have : p.1 ≠ f := fun h' => e (by rw [h', h])
    simp [e, this]
theorem clear_arm {g n : Int} {f : F} {L : TRows} (hL : Fine L) (hm : may f n) (hf : f.1 ≤ 9223372036854775807 ∧ f.2 ≤ 9223372036854775807) : clearL g (armL f n L) = if f.1 = g then clearL g L else armL f n (clearL g L) := by
  have hp : (clearL g (armL f n L)).Perm (clearL g ((f, n) :: out L f)) := (ins_perm _ _).filter _
  by_cases e : f.1 = g
  · rw [if_pos e]
    rw [clear_hit (x := f) (y := n) _ e, clear_gone L e] at hp
    exact rows_eq ((hL.arm hm hf).clear g).rise (hL.clear g).rise hp
  · rw [if_neg e]
    rw [clear_miss (x := f) (y := n) _ e, clear_out] at hp
    exact rows_eq ((hL.arm hm hf).clear g).rise ((hL.clear g).arm hm hf).rise (hp.trans (ins_perm _ _).symm)
theorem clear_twice (g : Int) (L : TRows) : clearL g (clearL g L) = clearL g L := by
  unfold clearL
  rw [List.filter_filter]
  exact List.filter_congr fun p _ => Bool.and_self _
/-- At most so much is left of each. -/
def Under (m : Int) (L : TRows) : Prop := ∀ p ∈ L, p.2 ≤ m
theorem Under.nil (m : Int) : Under m [] := fun p hp => by cases hp
theorem Under.arm {m n : Int} {f : F} {L : TRows} (h : Under m L) (hn : n ≤ m) : Under m (armL f n L) := fun p hp => by
  rcases List.mem_cons.1 ((ins_perm _ _).mem_iff.1 hp) with rfl | hp
  · exact hn
  · exact h p (mem_out hp).1
theorem Under.clear {m : Int} {L : TRows} (h : Under m L) (g : Int) : Under m (clearL g L) := fun p hp => h p (List.mem_filter.1 hp).1
theorem Under.tick {m : Int} {L : TRows} (h : Under m L) : Under (m - 1) (tickL L) := fun p hp => by
  obtain ⟨q, hq, rfl⟩ := List.mem_map.1 hp
  have := h q (List.mem_filter.1 hq).1
  show q.2 - 1 ≤ m - 1
  omega
theorem Under.none {m : Int} {L : TRows} (h : Under m L) (hL : Fine L) (hm : m ≤ 0) : L = [] := by
  cases L with
  | nil => rfl
  | cons p r =>
    have h1 := h p (by simp)
    have h2 := hL.vals p (by simp)
    omega

/-- A slice of the call's own stays where no block of its kind is touched. -/
theorem items_keep {S : Nat → Prop} {w w1 : World} {e : TypeId} {sz n : Nat} {v : Value} {xs : List Value} (h : Items w e sz v n xs) (hf : Foot S w w1) (hd : ∀ g cur, At w g e cur → ¬ S g) : Items w1 e sz v n xs := by
  obtain ⟨hl, a, cap, rfl, h1, h2, h3, h4⟩ := h
  refine ⟨hl, a, cap, rfl, h1, h2, fun x hx => Nat.lt_of_lt_of_le (h3 x hx) hf.size, fun hc => ?_⟩
  obtain ⟨g, off, cur, rfl, h5, h6, h7⟩ := h4 hc
  exact ⟨g, off, cur, rfl, h5.keep hf (hd g cur h5), h6, h7⟩

structure Twin (W w : World) (p q : Nat) (mv nv : Option Nat) (L M : TRows) : Prop where
  one : Mine W w p mv L
  two : Mine W w q nv M
  ne : p ≠ q
  nem : ∀ b, mv = some b → nv ≠ some b
def TwinE (W w : World) (p q : Nat) (L M : TRows) : Prop := ∃ mv nv, Twin W w p q mv nv L M
section
variable {W w w' : World} {p q bf : Nat} {mv mv' nv nv' : Option Nat} {L L' M M' : TRows} {cs : Array Value}
theorem Twin.far (h : Twin W w p q mv nv L M) : (mv ≠ some q) ∧ (nv ≠ some p) := ⟨h.one.whl.map.ne h.two.whl.at_, h.two.whl.map.ne h.one.whl.at_⟩
theorem Twin.still (h : Twin W w p q mv nv L M) (hf : Foot (fun _ => False) w w') : Twin W w' p q mv nv L M := ⟨h.one.still hf, h.two.still hf, h.ne, h.nem⟩
theorem Twin.step1 (h : Twin W w p q mv nv L M) (hl : WheelAt w' p mv' L') (hm : Fresh w mv mv') (hf : Foot (fun k => k = p ∨ mv = some k) w w') : Twin W w' p q mv' nv L' M :=
  have h1 := h.one.step hl hm hf
  ⟨h1, ⟨h.two.whl.keep hf (fun e => e.elim (fun e => h.ne e.symm) h.far.1) fun b hb e => e.elim (fun e => h.far.2 (by rw [hb, e])) fun e => h.nem b e hb, h.two.new, h.two.newm, h1.below⟩, h.ne, fun b hb e => by
    rcases hm b hb with h2 | h2
    · exact h.nem b h2 e
    · subst e
      have := h.two.whl.map.lt
      omega⟩
theorem Twin.step2 (h : Twin W w p q mv nv L M) (hl : WheelAt w' q nv' M') (hm : Fresh w nv nv') (hf : Foot (fun k => k = q ∨ nv = some k) w w') : Twin W w' p q mv nv' L M' :=
  have h1 := h.two.step hl hm hf
  ⟨⟨h.one.whl.keep hf (fun e => e.elim h.ne h.far.2) fun b hb e => e.elim (fun e => h.far.1 (by rw [hb, e])) fun e => h.nem b hb e, h.one.new, h.one.newm, h1.below⟩, h1, h.ne, fun b hb e => by
    rcases hm b e with h2 | h2
    · exact h.nem b hb h2
    · subst hb
      have := h.one.whl.map.lt
      omega⟩
theorem TwinE.still (h : TwinE W w p q L M) (hf : Foot (fun _ => False) w w') : TwinE W w' p q L M := by
  obtain ⟨mv, nv, h⟩ := h
  exact ⟨mv, nv, h.still hf⟩
theorem TwinE.below (h : TwinE W w p q L M) : Below W.heap.size W w := by
  obtain ⟨mv, nv, h⟩ := h
  exact h.one.below
theorem TwinE.good (h : TwinE W w p q L M) : Fine L ∧ Fine M := by
  obtain ⟨mv, nv, h⟩ := h
  exact ⟨h.one.whl.good, h.two.whl.good⟩
/-- With a variable of the law's own beside. -/
structure TwinB (W w : World) (p q bf : Nat) (cs : Array Value) (L M : TRows) : Prop where
  twin : TwinE W w p q L M
  box : At w bf 31 cs
theorem At.notW {w : World} {bf p : Nat} {mv : Option Nat} {L : TRows} {cs : Array Value} (hb : At w bf 31 cs) (h : WheelAt w p mv L) : ¬ (bf = p ∨ mv = some bf) := fun e =>
  e.elim (fun e => by subst e; exact absurd (hb.eq h.at_).1 (by decide)) (h.map.ne hb)

variable (W w p q bf cs L M)
variable (i t n : Int)
theorem arm1 (h : TwinB W w p q bf cs L M) (hi : I64 i) (ht : I64 t) :
    Calls Try.prog 10 #[.pointer (some ⟨p, 0, none⟩), .agg #[.int .i64 i, .int .i64 t], .int .i64 n] w fun e w' => e = .returned (.int .i64 (armR (i, t) n)) ∧ TwinB W w' p q bf cs (armS (i, t) n L) M := by
  obtain ⟨⟨mv, nv, h⟩, hb⟩ := h
  exact (Arm p mv L i t n w h.one.whl hi ht).mono fun e w' ⟨h1, mv', h2, h3, h4⟩ => ⟨h1, ⟨mv', nv, h.step1 h2 h3 h4⟩, hb.keep h4 (At.notW hb h.one.whl)⟩
theorem arm2 (h : TwinB W w p q bf cs L M) (hi : I64 i) (ht : I64 t) :
    Calls Try.prog 10 #[.pointer (some ⟨q, 0, none⟩), .agg #[.int .i64 i, .int .i64 t], .int .i64 n] w fun e w' => e = .returned (.int .i64 (armR (i, t) n)) ∧ TwinB W w' p q bf cs L (armS (i, t) n M) := by
  obtain ⟨⟨mv, nv, h⟩, hb⟩ := h
  exact (Arm q nv M i t n w h.two.whl hi ht).mono fun e w' ⟨h1, nv', h2, h3, h4⟩ => ⟨h1, ⟨mv, nv', h.step2 h2 h3 h4⟩, hb.keep h4 (At.notW hb h.two.whl)⟩
theorem len1 (h : TwinE W w p q L M) : Calls Try.prog 23 #[.pointer (some ⟨p, 0, none⟩)] w fun e w' => e = .returned (.int .i64 L.length) ∧ w = w' := by
  obtain ⟨mv, nv, h⟩ := h
  exact Len p mv L w h.one.whl
theorem len2 (h : TwinE W w p q L M) : Calls Try.prog 23 #[.pointer (some ⟨q, 0, none⟩)] w fun e w' => e = .returned (.int .i64 M.length) ∧ w = w' := by
  obtain ⟨mv, nv, h⟩ := h
  exact Len q nv M w h.two.whl
theorem clear1 (h : TwinE W w p q L M) (hlen : L.length ≤ 1000000) {r : Int} (hr : (L.length : Int) - ((clearL i L).length : Int) = r) {L' : TRows} (hL : clearL i L = L') :
    Calls Try.prog 14 #[.pointer (some ⟨p, 0, none⟩), .int .i64 i] w fun e w' => e = .returned (.int .i64 r) ∧ TwinE W w' p q L' M := by
  obtain ⟨mv, nv, h⟩ := h
  exact (Clear p mv L i w h.one.whl hlen).mono fun e w' ⟨h1, h2, h3⟩ => ⟨by rw [← hr]; exact h1, mv, nv, by rw [← hL]; exact h.step1 h2 (Fresh.refl _ _) (h3.mono fun _ _ e => .inr e)⟩
theorem tick1 (h : TwinE W w p q L M) (hlen : L.length ≤ 1000000) :
    Calls Try.prog 17 #[.pointer (some ⟨p, 0, none⟩)] w fun e w' => ∃ a c, e = .returned (.slice a (firedL L).length c) ∧ TwinE W w' p q (tickL L) M ∧ Firing w' w.heap.size (.slice a (firedL L).length c) (firedL L) := by
  obtain ⟨mv, nv, h⟩ := h
  exact (Tick p mv L w h.one.whl hlen).mono fun e w' ⟨a, c, h1, h2, h3, h4⟩ => ⟨a, c, h1, ⟨mv, nv, h.step1 h2 (Fresh.refl _ _) (h4.mono fun _ _ h => .inr h)⟩, h3⟩
theorem tick2 (h : TwinE W w p q L M) (hlen : M.length ≤ 1000000) {lo : Nat} {v : Value} {l : List F} (hF : Firing w lo v l) :
    Calls Try.prog 17 #[.pointer (some ⟨q, 0, none⟩)] w fun e w' => ∃ a c, e = .returned (.slice a (firedL M).length c) ∧ TwinE W w' p q L (tickL M) ∧ Firing w' w.heap.size (.slice a (firedL M).length c) (firedL M) ∧ Firing w' lo v l := by
  obtain ⟨mv, nv, h⟩ := h
  exact (Tick q nv M w h.two.whl hlen).mono fun e w' ⟨a, c, h1, h2, h3, h4⟩ => ⟨a, c, h1, ⟨mv, nv, h.step2 h2 (Fresh.refl _ _) (h4.mono fun _ _ h => .inr h)⟩, h3, ⟨items_keep hF.items h4 fun g cur hg e => h.two.whl.map.ne hg e, hF.own⟩⟩
end
end Go.Proofs.Ytjpepnokijbhgaa.Whl
