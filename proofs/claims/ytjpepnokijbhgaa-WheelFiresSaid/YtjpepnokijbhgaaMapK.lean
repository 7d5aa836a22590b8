/- Maps of the call's own, in general words: the entries of a map stand for a list of pairs, in whatever order; the look-up, the store, the removal, the length, and the range with its rounds. -/
import Derived.Test.YtjpepnokijbhgaaMem
import Derived.Maps.OwnSet
import Derived.Maps.RangeWalk
namespace Go.Proofs.Ytjpepnokijbhgaa.MapK
open Go.RowKit Mem Go.MapKept
open Go.ChangeMaps
open Go.Maps (Keyed)
set_option linter.unusedVariables false
set_option linter.unusedSectionVars false

def pairs (l : List MapEntry) : List (Value × Value) := l.map fun e => (e.key, e.val)
section
variable {α β : Type} [DecidableEq α] (ek : α → Value) (ev : β → Value)
def encs (L : List (α × β)) : List (Value × Value) := L.map fun p => (ek p.1, ev p.2)
/-- All but the pair at x. -/
def out (L : List (α × β)) (x : α) : List (α × β) := L.filter fun p => decide (p.1 ≠ x)
/-- What stands at x. -/
def look (L : List (α × β)) (x : α) : Option β := (L.find? fun p => decide (p.1 = x)).map (·.2)
end

section
variable {α β : Type} [DecidableEq α] {ek : α → Value} {ev : β → Value} {L D T D0 : List (α × β)} {x : α} {y : β}
theorem out_none (h : ∀ p ∈ L, p.1 ≠ x) : out L x = L := List.filter_eq_self.2 fun p hp => by simpa using h p hp
theorem out_mid {L1 L2 : List (α × β)} (hn : ((L1 ++ (x, y) :: L2).map (·.1)).Nodup) : out (L1 ++ (x, y) :: L2) x = L1 ++ L2 := by
  rw [List.map_append, List.map_cons, List.nodup_append] at hn
  obtain ⟨_, h2, h3⟩ := hn
  obtain ⟨h4, _⟩ := List.nodup_cons.1 h2
  unfold out
  rw [List.filter_append, List.filter_cons]
  simp only [ne_eq, not_true_eq_false, decide_false, Bool.false_eq_true, if_false]
  congr 1
  · exact List.filter_eq_self.2 fun p hp => by simpa using fun e : p.1 = x => h3 p.1 (List.mem_map.2 ⟨p, hp, rfl⟩) x (by simp) e
  · exact List.filter_eq_self.2 fun p hp => by simpa using fun e : p.1 = x => h4 (List.mem_map.2 ⟨p, hp, e⟩)
theorem out_head (hn : (((x, y) :: L).map (·.1)).Nodup) : out ((x, y) :: L) x = L := out_mid (L1 := []) hn
theorem look_none (h : ∀ p ∈ L, p.1 ≠ x) : look L x = none := by
  unfold look
  rw [List.find?_eq_none.2 fun p hp => by simpa using h p hp]
  rfl
theorem look_some (hn : (L.map (·.1)).Nodup) (h : (x, y) ∈ L) : look L x = some y := by
  obtain ⟨L1, L2, rfl⟩ := List.append_of_mem h
  rw [List.map_append, List.map_cons, List.nodup_append] at hn
  obtain ⟨_, _, h3⟩ := hn
  unfold look
  rw [List.find?_append, List.find?_eq_none.2 fun p hp => by simpa using fun e : p.1 = x => h3 p.1 (List.mem_map.2 ⟨p, hp, rfl⟩) x (by simp) e]
  simp
theorem pairs_keys (l : List MapEntry) : (pairs l).map (·.1) = l.map (·.key) := by simp [pairs]
theorem encs_keys (L : List (α × β)) : (encs ek ev L).map (·.1) = (L.map (·.1)).map ek := by simp [encs]
theorem nodup_of {l : List MapEntry} (hn : (l.map (·.key)).Nodup) (hp : (pairs l).Perm (encs ek ev L)) : (L.map (·.1)).Nodup := by
  have h := (hp.map (·.1)).nodup_iff.1 (by rw [pairs_keys]; exact hn)
  rw [encs_keys] at h
  exact List.Pairwise.of_map (S := (· ≠ ·)) ek (fun a b hab e => hab (by rw [e])) h
theorem pairs_append (A B : List MapEntry) : pairs (A ++ B) = pairs A ++ pairs B := List.map_append

/-- An entry at x: what the others stand for. -/
theorem hit {l A B : List MapEntry} {e : MapEntry} (hn : (l.map (·.key)).Nodup) (hp : (pairs l).Perm (encs ek ev L)) (inj : ∀ a b, ek a = ek b → a = b) (hl : l = A ++ e :: B) (hk : e.key = ek x) :
    ∃ y, (x, y) ∈ L ∧ e.val = ev y ∧ (pairs (A ++ B)).Perm (encs ek ev (out L x)) := by
  have hm : (e.key, e.val) ∈ encs ek ev L := hp.mem_iff.1 (List.mem_map.2 ⟨e, by simp [hl], rfl⟩)
  obtain ⟨⟨x', y⟩, hpL, he⟩ := List.mem_map.1 hm
  injection he with h1 h2
  obtain rfl : x' = x := inj _ _ (h1.trans hk)
  refine ⟨y, hpL, h2.symm, ?_⟩
  have hN := nodup_of hn hp
  obtain ⟨L1, L2, rfl⟩ := List.append_of_mem hpL
  rw [out_mid hN]
  subst hl
  have h3 : (pairs (A ++ e :: B)).Perm ((e.key, e.val) :: pairs (A ++ B)) := by
    rw [pairs_append, pairs_append]
    exact List.perm_middle
  have h4 : (encs ek ev (L1 ++ (x', y) :: L2)).Perm ((e.key, e.val) :: encs ek ev (L1 ++ L2)) := by
    unfold encs
    rw [List.map_append, List.map_append, List.map_cons]
    show (List.map _ L1 ++ (ek x', ev y) :: List.map _ L2).Perm _
    rw [hk, h2]
    exact List.perm_middle
  exact List.Perm.cons_inv (h3.symm.trans (hp.trans h4))
theorem miss {l : List MapEntry} (hp : (pairs l).Perm (encs ek ev L)) (h : ∀ e ∈ l, e.key ≠ ek x) : ∀ p ∈ L, p.1 ≠ x := fun p hpL e => by
  obtain ⟨e1, h1, h2⟩ := List.mem_map.1 (hp.mem_iff.2 (List.mem_map.2 ⟨p, hpL, rfl⟩))
  injection h2 with h3
  exact h e1 h1 (by rw [h3, e])
theorem split_at {l : List MapEntry} {j : Nat} {e : MapEntry} (h : l[j]? = some e) : l = l.take j ++ e :: l.drop (j + 1) := by
  obtain ⟨hj, rfl⟩ := List.getElem?_eq_some_iff.1 h
  rw [← List.drop_eq_getElem_cons hj, List.take_append_drop]
theorem eraseIdx_at {l : List MapEntry} {j : Nat} : l.eraseIdx j = l.take j ++ l.drop (j + 1) := List.eraseIdx_eq_take_drop_succ l j
theorem set_at {l : List MapEntry} {j : Nat} {e : MapEntry} (h : j < l.length) : l.set j e = l.take j ++ e :: l.drop (j + 1) := List.set_eq_take_append_cons_drop .. |>.trans (if_pos h)
theorem toList_erase (es : Array MapEntry) (j : Nat) (h : j < es.size) : (es.eraseIdxIfInBounds j).toList = es.toList.take j ++ es.toList.drop (j + 1) := by
  unfold Array.eraseIdxIfInBounds
  rw [dif_pos h, ← eraseIdx_at]
  simp

/-- A step of the range: the entry e comes. -/
theorem comes {l : List MapEntry} {seen : Array Nat} {e : MapEntry} (hn : (l.map (·.born)).Nodup) (he : e ∈ l) (hs : seen.contains e.born = false) :
    (l.filter fun x => (seen.push e.born).contains x.born).Perm (e :: l.filter fun x => seen.contains x.born) ∧ (l.filter fun x => !seen.contains x.born).Perm (e :: l.filter fun x => !(seen.push e.born).contains x.born) := by
  obtain ⟨A, B, rfl⟩ := List.append_of_mem he
  rw [List.map_append, List.map_cons, List.nodup_append] at hn
  obtain ⟨_, h2, h3⟩ := hn
  obtain ⟨h4, _⟩ := List.nodup_cons.1 h2
  have hA : ∀ x ∈ A, (seen.push e.born).contains x.born = seen.contains x.born := fun x hx => by
    rw [contains_push]
    have : (x.born == e.born) = false := by simpa using h3 x.born (List.mem_map.2 ⟨x, hx, rfl⟩) e.born (by simp)
    rw [this, Bool.or_false]
  have hB : ∀ x ∈ B, (seen.push e.born).contains x.born = seen.contains x.born := fun x hx => by
    rw [contains_push]
    have : (x.born == e.born) = false := by simpa using fun h : x.born = e.born => h4 (List.mem_map.2 ⟨x, hx, h⟩)
    rw [this, Bool.or_false]
  have hE : (seen.push e.born).contains e.born = true := by rw [contains_push]; simp
  simp only [List.filter_append, List.filter_cons, hs, hE, Bool.not_true, Bool.not_false, Bool.false_eq_true, if_true, if_false]
  rw [List.filter_congr hA, List.filter_congr hB, List.filter_congr (p := fun x => !(seen.push e.born).contains x.born) fun x hx => congrArg Bool.not (hA x hx), List.filter_congr (p := fun x => !(seen.push e.born).contains x.born) fun x hx => congrArg Bool.not (hB x hx)]
  exact ⟨List.perm_middle, List.perm_middle⟩
end

/-- The entries es stand for L. -/
structure Ents (P : Program) (k : TypeId) {α β : Type} (ek : α → Value) (ev : β → Value) (es : Array MapEntry) (clock : Nat) (L : List (α × β)) : Prop where
  stamped : Stamped es clock
  keys : ∀ e ∈ es.toList, ∃ l, keyOf P k e.key = some l
  perm : (pairs es.toList).Perm (encs ek ev L)
/-- The map mv, nil or not, stands for L. -/
def MapV (P : Program) (k : TypeId) {α β : Type} (ek : α → Value) (ev : β → Value) (w : World) (mv : Option Nat) (L : List (α × β)) : Prop :=
  match mv with
  | none => L = []
  | some b => ∃ es clock, w.heap[b]? = some (.map es clock) ∧ Ents P k ek ev es clock L
/-- The range over the map mv, its iterator in block r: D stands for what has come and is there, T for what is to come. -/
def Going (P : Program) (k : TypeId) {α β : Type} (ek : α → Value) (ev : β → Value) (w : World) (mv : Option Nat) (r : Nat) (D T : List (α × β)) : Prop :=
  match mv with
  | none => w.heap[r]? = some (.mapIter none 0 #[] 0) ∧ D = [] ∧ T = []
  | some b => ∃ es clock seen, w.heap[b]? = some (.map es clock) ∧ Stamped es clock ∧ (∀ e ∈ es.toList, ∃ l, keyOf P k e.key = some l) ∧ w.heap[r]? = some (.mapIter (some b) clock seen clock) ∧
      (pairs (es.toList.filter fun x => seen.contains x.born)).Perm (encs ek ev D) ∧ (pairs (es.toList.filter fun x => !seen.contains x.born)).Perm (encs ek ev T)

theorem foot_setBlock {w : World} {b : Nat} {o o' : Obj} (hb : w.heap[b]? = some o) : Foot (fun j => j = b) w (setBlock w b o') :=
  ⟨rfl, rfl, rfl, by simp [setBlock], fun i _ hi => (heap_set hb).2 i hi⟩
theorem size_setBlock (w : World) (b : Nat) (o : Obj) : (setBlock w b o).heap.size = w.heap.size := by simp [setBlock]

section
variable {P : Program} {k : TypeId} {α β : Type} [DecidableEq α] {ek : α → Value} {ev : β → Value} {w w1 : World} {mv : Option Nat} {b r : Nat} {L D T : List (α × β)} {S : Nat → Prop}
theorem MapV.lt (h : MapV P k ek ev w (some b) L) : b < w.heap.size := by
  obtain ⟨es, clock, hb, _⟩ := h
  exact (Array.getElem?_eq_some_iff.1 hb).1
theorem MapV.keep (h : MapV P k ek ev w mv L) (hf : Foot S w w1) (hs : ∀ j, mv = some j → ¬ S j) : MapV P k ek ev w1 mv L := by
  cases mv with
  | none => exact h
  | some b =>
    obtain ⟨es, clock, hb, hE⟩ := h
    exact ⟨es, clock, (hf.block b (Array.getElem?_eq_some_iff.1 hb).1 (hs b rfl)).trans hb, hE⟩
theorem MapV.nodup (h : MapV P k ek ev w mv L) : (L.map (·.1)).Nodup := by
  cases mv with
  | none => rw [show L = [] from h]; exact List.nodup_nil
  | some b =>
    obtain ⟨es, clock, hb, hE⟩ := h
    exact nodup_of hE.stamped.2.2 hE.perm
theorem MapV.perm (h : MapV P k ek ev w mv L) {L' : List (α × β)} (hp : L.Perm L') : MapV P k ek ev w mv L' := by
  cases mv with
  | none => rw [show L = [] from h] at hp; exact List.nil_perm.1 hp
  | some b =>
    obtain ⟨es, clock, hb, hE⟩ := h
    exact ⟨es, clock, hb, hE.stamped, hE.keys, hE.perm.trans (hp.map _)⟩
theorem MapV.made (w : World) : MapV P k ek ev (w.alloc (.map #[] 0)) (some w.heap.size) ([] : List (α × β)) :=
  ⟨#[], 0, (MapKept.heap_alloc w _).1, stamped_empty 0, by simp, by simp [pairs, encs]⟩
theorem MapV.ne {g : Nat} {t : TypeId} {cs : Array Value} (h : MapV P k ek ev w mv L) (hg : At w g t cs) : mv ≠ some g := by
  rintro rfl
  obtain ⟨es, clock, hb, hE⟩ := h
  unfold At at hg
  rw [hb] at hg
  cases hg
theorem Going.lt (h : Going P k ek ev w mv r D T) : r < w.heap.size := by
  cases mv with
  | none => exact (Array.getElem?_eq_some_iff.1 h.1).1
  | some b => obtain ⟨_, _, _, _, _, _, hr, _⟩ := h; exact (Array.getElem?_eq_some_iff.1 hr).1
theorem Going.keep (h : Going P k ek ev w mv r D T) (hf : Foot S w w1) (hs : ∀ j, mv = some j → ¬ S j) (hr' : ¬ S r) : Going P k ek ev w1 mv r D T := by
  have hl := h.lt
  cases mv with
  | none => exact ⟨(hf.block r hl hr').trans h.1, h.2⟩
  | some b =>
    obtain ⟨es, clock, seen, hb, h1, h2, hr, h3⟩ := h
    exact ⟨es, clock, seen, (hf.block b (Array.getElem?_eq_some_iff.1 hb).1 (hs b rfl)).trans hb, h1, h2, (hf.block r hl hr').trans hr, h3⟩
theorem Going.map (h : Going P k ek ev w mv r D T) : MapV P k ek ev w mv (D ++ T) := by
  cases mv with
  | none => obtain ⟨_, rfl, rfl⟩ := h; rfl
  | some b =>
    obtain ⟨es, clock, seen, hb, h1, h2, hr, h3, h4⟩ := h
    refine ⟨es, clock, hb, h1, h2, ?_⟩
    have h5 := (List.filter_append_perm (fun x : MapEntry => seen.contains x.born) es.toList).map fun e => (e.key, e.val)
    refine h5.symm.trans ?_
    unfold encs
    rw [List.map_append, List.map_append]
    exact h3.append h4
theorem Going.nodup (h : Going P k ek ev w mv r D T) : ((D ++ T).map (·.1)).Nodup := h.map.nodup
theorem Going.ne {g : Nat} {t : TypeId} {cs : Array Value} (h : Going P k ek ev w mv r D T) (hg : At w g t cs) : r ≠ g := by
  rintro rfl
  unfold At at hg
  cases mv with
  | none => rw [h.1] at hg; cases hg
  | some b => obtain ⟨_, _, _, _, _, _, hr, _⟩ := h; rw [hr] at hg; cases hg
theorem Going.apart (h : Going P k ek ev w mv r D T) : mv ≠ some r := by
  rintro rfl
  obtain ⟨_, _, _, hb, _, _, hr, _⟩ := h
  rw [hr] at hb
  cases hb

variable {t e : TypeId} {x : α} {y : β} {lx : Lit}

/-- The look-up. -/
theorem run_look (K : Keyed P k) (inj : ∀ a b, ek a = ek b → a = b) (ht : P.underlying t = some (.map k e)) {d : β} (hz : (zeroValue e).run P w = .ok (ev d) w) (c : Bool) (h : MapV P k ek ev w mv L) (hx : keyOf P k (ek x) = some lx) :
    (Instr.lookup t (.map mv) (ek x) c).run P w = .ok (if c then .tuple #[ev ((look L x).getD d), .bool (look L x).isSome] else ev ((look L x).getD d)) w := by
  have hN := h.nodup
  cases mv with
  | none =>
    rw [show L = [] from h, show look ([] : List (α × β)) x = none from rfl]
    exact Maps.look_nil c K ht hz hx
  | some b =>
    obtain ⟨es, clock, hb, hE⟩ := h
    rcases K.find w hx es.toList hE.keys with ⟨h1, h2⟩ | ⟨j, e0, h1, h2, h3⟩
    · rw [look_none (miss hE.perm h2)]
      simp [Instr.lookup, run_underlying ht, MapKept.run_getObj_map hb, K.check w _ hx, h1, hz, Result.andThen]
    · obtain ⟨y, hm, hv, _⟩ := hit hE.stamped.2.2 hE.perm inj (split_at h2) h3
      rw [look_some hN hm]
      simp [Instr.lookup, run_underlying ht, MapKept.run_getObj_map hb, K.check w _ hx, h1, hv, Result.andThen]

/-- The length. -/
theorem run_len (ht : P.underlying t = some (.map k e)) (h : MapV P k ek ev w mv L) (ty : TypeId) : (Builtin.len_ #[t] ty #[.map mv]).run P w = .ok (.int .i64 L.length) w := by
  cases mv with
  | none => rw [show L = [] from h]; exact Maps.len_nil ht ty
  | some b =>
    obtain ⟨es, clock, hb, hE⟩ := h
    have e1 : es.size = L.length := by have := hE.perm.length_eq; simpa [pairs, encs] using this
    rw [← e1]
    simp [Builtin.len_, run_underlying ht, MapKept.run_getObj_map hb, goInt, Result.andThen]

theorem born_keys (es : Array MapEntry) (h : (es.toList.map (·.key)).Nodup) {e1 e2 : MapEntry} (h1 : e1 ∈ es.toList) (h2 : e2 ∈ es.toList) (hk : e1.key = e2.key) : e1 = e2 := by
  obtain ⟨i, hi, rfl⟩ := List.getElem_of_mem h1
  obtain ⟨j, hj, rfl⟩ := List.getElem_of_mem h2
  rcases Nat.lt_trichotomy i j with h1 | rfl | h1
  · have := List.pairwise_iff_getElem.1 h i j (by simpa using hi) (by simpa using hj) h1
    rw [List.getElem_map, List.getElem_map] at this
    exact absurd hk this
  · rfl
  · have := List.pairwise_iff_getElem.1 h j i (by simpa using hj) (by simpa using hi) h1
    rw [List.getElem_map, List.getElem_map] at this
    exact absurd hk.symm this

/-- The store. -/
theorem run_store (K : Keyed P k) (inj : ∀ a b, ek a = ek b → a = b) (ht : P.underlying t = some (.map k e)) (h : MapV P k ek ev w (some b) L) (hx : keyOf P k (ek x) = some lx) :
    ∃ w', (Instr.mapUpdate t (.map (some b)) (ek x) (ev y)).run P w = .ok () w' ∧ MapV P k ek ev w' (some b) ((x, y) :: out L x) ∧ Foot (fun j => j = b) w w' ∧ w'.heap.size = w.heap.size := by
  obtain ⟨es, clock, hb, hE⟩ := h
  rcases K.find w hx es.toList hE.keys with ⟨h1, h2⟩ | ⟨j, e0, h1, h2, h3⟩
  · refine ⟨setBlock w b (.map (es.push ⟨ek x, ev y, clock⟩) (clock + 1)), ?_, ⟨_, _, heap_setBlock_same hb _, stamped_push hE.stamped h2, ?_, ?_⟩, foot_setBlock hb, size_setBlock _ _ _⟩
    · simp [Instr.mapUpdate, run_underlying ht, MapKept.run_getObj_map hb, K.check w false hx, h1, MapKept.run_setObj_map _ hb, Result.andThen, setBlock]
    · intro e he
      simp only [Array.toList_push, List.mem_append, List.mem_singleton] at he
      rcases he with he | rfl
      · exact hE.keys e he
      · exact ⟨_, hx⟩
    · rw [out_none (miss hE.perm h2), Array.toList_push, pairs_append]
      exact (List.perm_append_comm).trans (hE.perm.cons (ek x, ev y))
  · have hj : es[j]? = some e0 := by simpa using h2
    have hjl : j < es.toList.length := (List.getElem?_eq_some_iff.1 h2).1
    have hlist : (es.modify j (fun e' => { e' with key := ek x, val := ev y })).toList = es.toList.take j ++ { e0 with key := ek x, val := ev y } :: es.toList.drop (j + 1) := by rw [Array.toList_modify, modify_eq_set _ _ _ _ h2, set_at hjl]
    have hkeyf : ∀ e', es[j]? = some e' → ({ e' with key := ek x, val := ev y } : MapEntry).key = e'.key := fun e' he' => by rw [hj] at he'; cases he'; exact h3.symm
    obtain ⟨y0, hm, hv, hp⟩ := hit hE.stamped.2.2 hE.perm inj (split_at h2) h3
    refine ⟨setBlock w b (.map (es.modify j (fun e' => { e' with key := ek x, val := ev y })) clock), ?_, ⟨_, _, heap_setBlock_same hb _, stamped_modify hE.stamped j (fun e' => { e' with key := ek x, val := ev y }) (fun _ _ => rfl) (fun e' _ he' => hkeyf e' he'), ?_, ?_⟩, foot_setBlock hb, size_setBlock _ _ _⟩
    · simp [Instr.mapUpdate, run_underlying ht, MapKept.run_getObj_map hb, K.check w false hx, h1, hj, h3, K.stays w hx, MapKept.run_setObj_map _ hb, Result.andThen, setBlock]
    · intro e he
      rw [hlist] at he
      rcases List.mem_append.1 he with he | he
      · exact hE.keys e (List.mem_of_mem_take he)
      · rcases List.mem_cons.1 he with rfl | he
        · exact ⟨_, hx⟩
        · exact hE.keys e (List.mem_of_mem_drop he)
    · rw [hlist, pairs_append]
      refine List.perm_middle.trans ?_
      exact (by rw [← pairs_append]; exact hp : (pairs (es.toList.take j) ++ pairs (es.toList.drop (j + 1))).Perm _).cons (ek x, ev y)

/-- The removal. -/
theorem run_drop (K : Keyed P k) (inj : ∀ a b, ek a = ek b → a = b) (ht : P.underlying t = some (.map k e)) (h : MapV P k ek ev w mv L) (hx : keyOf P k (ek x) = some lx) (ty : TypeId) :
    ∃ w', (Builtin.delete_ #[t, k] ty #[.map mv, ek x]).run P w = .ok (.tuple #[]) w' ∧ MapV P k ek ev w' mv (out L x) ∧ Foot (fun j => mv = some j) w w' ∧ w'.heap.size = w.heap.size := by
  cases mv with
  | none =>
    refine ⟨w, Maps.drop_nil K ht hx ty, ?_, Foot.refl _ _, rfl⟩
    rw [show L = [] from h]
    rfl
  | some b =>
    obtain ⟨es, clock, hb, hE⟩ := h
    have hF : ∀ o', Foot (fun j => some b = some j) w (setBlock w b o') := fun o' => (foot_setBlock hb).mono fun j _ e => by rw [e]
    rcases K.find w hx es.toList hE.keys with ⟨h1, h2⟩ | ⟨j, e0, h1, h2, h3⟩
    · refine ⟨setBlock w b (.map es clock), ?_, ⟨_, _, heap_setBlock_same hb _, hE.stamped, hE.keys, ?_⟩, hF _, size_setBlock _ _ _⟩
      · simp [Builtin.delete_, run_underlying ht, MapKept.run_getObj_map hb, K.check w _ hx, h1, MapKept.run_setObj_map _ hb, Result.andThen, setBlock]
      · rw [out_none (miss hE.perm h2)]; exact hE.perm
    · have hjl : j < es.toList.length := (List.getElem?_eq_some_iff.1 h2).1
      have hlist := toList_erase es j (by simpa using hjl)
      obtain ⟨y0, hm, hv, hp⟩ := hit hE.stamped.2.2 hE.perm inj (split_at h2) h3
      refine ⟨setBlock w b (.map (es.eraseIdxIfInBounds j) clock), ?_, ⟨_, _, heap_setBlock_same hb _, stamped_erase hE.stamped j, ?_, by rw [hlist]; exact hp⟩, hF _, size_setBlock _ _ _⟩
      · simp [Builtin.delete_, run_underlying ht, MapKept.run_getObj_map hb, K.check w _ hx, h1, MapKept.run_setObj_map _ hb, Result.andThen, setBlock]
      · intro e he
        rw [hlist] at he
        rcases List.mem_append.1 he with he | he
        · exact hE.keys e (List.mem_of_mem_take he)
        · exact hE.keys e (List.mem_of_mem_drop he)

/-- The range begins. -/
theorem run_range (ht : P.underlying t = some (.map k e)) (h : MapV P k ek ev w mv L) :
    ∃ w', (Instr.range t (.map mv)).run P w = .ok (.pointer (some ⟨w.heap.size, 0, none⟩)) w' ∧ Going P k ek ev w' mv w.heap.size [] L ∧ Foot (fun _ => False) w w' ∧ w'.heap.size = w.heap.size + 1 := by
  cases mv with
  | none => exact ⟨_, run_range_nilMap w t k e ht, ⟨(MapKept.heap_alloc w _).1, rfl, h⟩, (Foot.refl _ w).alloc _, by simp⟩
  | some b =>
    have hlt := h.lt
    obtain ⟨es, clock, hb, hE⟩ := h
    refine ⟨_, run_range_map w t k e b es clock ht hb, ⟨es, clock, #[], ((MapKept.heap_alloc w _).2 b hlt).trans hb, hE.stamped, hE.keys, (MapKept.heap_alloc w _).1, ?_, ?_⟩, (Foot.refl _ w).alloc _, by simp⟩
    · simp [pairs, encs]
    · rw [List.filter_eq_self.2 fun x _ => by simp]; exact hE.perm

/-- The range's step. -/
theorem run_next (h : Going P k ek ev w mv r D T) (ty : TypeId) :
    (T = [] ∧ (Instr.next (.pointer (some ⟨r, 0, none⟩)) false ty).run P w = .ok (.tuple #[.bool false]) w) ∨
    ∃ x y T' w', T.Perm ((x, y) :: T') ∧ (Instr.next (.pointer (some ⟨r, 0, none⟩)) false ty).run P w = .ok (.tuple #[.bool true, ek x, ev y]) w' ∧ Going P k ek ev w' mv r ((x, y) :: D) T' ∧ Foot (fun j => j = r) w w' ∧ w'.heap.size = w.heap.size ∧
      (Instr.entry (.pointer (some ⟨r, 0, none⟩))).run P w' = .ok (.tuple #[ek x, ev y]) w' := by
  have hap := h.apart
  cases mv with
  | none =>
    obtain ⟨h1, _, h2⟩ := h
    refine Or.inl ⟨h2, ?_⟩
    simp only [Instr.next, getObj, Sem.run_bind, Sem.run, h1, Result.andThen]
    rfl
  | some b =>
    have hne : b ≠ r := fun e => hap (by rw [e])
    obtain ⟨es, clock, seen, hb, hS, hK, hr, hD, hT⟩ := h
    rcases run_next_at (P := P) w ty r b clock clock seen es clock hr hb hS.1 (Nat.le_refl _) with ⟨h0, hrun⟩ | ⟨e, he, w1, hal, hrun⟩
    · refine Or.inl ⟨?_, hrun⟩
      have h1 : es.toList.filter (fun x => !seen.contains x.born) = [] := List.filter_eq_nil_iff.2 fun x hx => by rw [all_seen es seen h0 x hx]; decide
      rw [h1] at hT
      simpa [pairs, encs] using hT
    · obtain ⟨hem, hes⟩ := mem_left he
      obtain ⟨hc1, hc2⟩ := comes hS.2.1 hem hes
      have hmT : (e.key, e.val) ∈ encs ek ev T := hT.mem_iff.1 (List.mem_map.2 ⟨e, List.mem_filter.2 ⟨hem, by rw [hes]; rfl⟩, rfl⟩)
      obtain ⟨⟨x, y⟩, hxy, hE⟩ := List.mem_map.1 hmT
      injection hE with h1 h2
      obtain ⟨T1, T2, rfl⟩ := List.append_of_mem hxy
      have hr1 : w1.heap[r]? = some (.mapIter (some b) clock seen clock) := by rcases hal with rfl | rfl <;> exact hr
      have hb1 : w1.heap[b]? = some (.map es clock) := by rcases hal with rfl | rfl <;> exact hb
      have hset := heap_set (o' := .mapIter (some b) clock (seen.push e.born) clock) hr1
      have hb' : (setBlock w1 r (.mapIter (some b) clock (seen.push e.born) clock)).heap[b]? = some (.map es clock) := (hset.2 b hne).trans hb1
      refine Or.inr ⟨x, y, T1 ++ T2, _, List.perm_middle, by rw [h1, h2]; exact hrun, ⟨es, clock, seen.push e.born, hb', hS, hK, hset.1, ?_, ?_⟩, ?_, ?_, ?_⟩
      · refine (hc1.map _).trans ?_
        show ((e.key, e.val) :: pairs (es.toList.filter fun x => seen.contains x.born)).Perm ((ek x, ev y) :: encs ek ev D)
        rw [h1, h2]
        exact hD.cons _
      · have h3 : (pairs (e :: es.toList.filter fun x => !(seen.push e.born).contains x.born)).Perm _ := (hc2.map fun e : MapEntry => (e.key, e.val)).symm.trans hT
        have h4 : (encs ek ev (T1 ++ (x, y) :: T2)).Perm ((e.key, e.val) :: encs ek ev (T1 ++ T2)) := by
          unfold encs
          rw [List.map_append, List.map_append, List.map_cons]
          show (List.map _ T1 ++ (ek x, ev y) :: List.map _ T2).Perm _
          rw [h1, h2]
          exact List.perm_middle
        exact List.Perm.cons_inv (h3.trans h4)
      · rcases hal with rfl | rfl
        · exact foot_setBlock hr
        · exact ((Foot.refl _ w).drew).trans (foot_setBlock hr1) fun _ _ h => h
      · rcases hal with rfl | rfl <;> simp [setBlock]
      · rw [h1, h2]
        exact run_entry_at _ r b clock seen es clock e hset.1 hb' hem hS.2.1

/-- In a round: the store at the key that has come. -/
theorem run_restore (K : Keyed P k) (inj : ∀ a b, ek a = ek b → a = b) (ht : P.underlying t = some (.map k e)) {y0 : β} (h : Going P k ek ev w (some b) r ((x, y0) :: D) T) (hx : keyOf P k (ek x) = some lx) :
    ∃ w', (Instr.mapUpdate t (.map (some b)) (ek x) (ev y)).run P w = .ok () w' ∧ Going P k ek ev w' (some b) r ((x, y) :: D) T ∧ Foot (fun j => j = b) w w' ∧ w'.heap.size = w.heap.size := by
  have hap := h.apart
  have hne : r ≠ b := fun e => hap (by rw [e])
  obtain ⟨es, clock, seen, hb, hS, hK, hr, hD, hT⟩ := h
  obtain ⟨e1, he1, hE1⟩ := List.mem_map.1 (hD.mem_iff.2 (List.mem_cons_self ..))
  injection hE1 with hk1 hv1
  obtain ⟨hm1, hs1⟩ := List.mem_filter.1 he1
  rcases K.find w hx es.toList hK with ⟨h1, h2⟩ | ⟨j, e0, h1, h2, h3⟩
  · exact absurd hk1 (h2 e1 hm1)
  · have hj : es[j]? = some e0 := by simpa using h2
    have hjl : j < es.toList.length := (List.getElem?_eq_some_iff.1 h2).1
    obtain rfl : e1 = e0 := born_keys es hS.2.2 hm1 (List.mem_of_getElem? h2) (hk1.trans h3.symm)
    have hlist : (es.modify j (fun e' => { e' with key := ek x, val := ev y })).toList = es.toList.take j ++ { e1 with key := ek x, val := ev y } :: es.toList.drop (j + 1) := by rw [Array.toList_modify, modify_eq_set _ _ _ _ h2, set_at hjl]
    have hkeyf : ∀ e', es[j]? = some e' → ({ e' with key := ek x, val := ev y } : MapEntry).key = e'.key := fun e' he' => by rw [hj] at he'; cases he'; exact h3.symm
    have hsp := split_at h2
    have hfs : es.toList.filter (fun x => seen.contains x.born) = (es.toList.take j).filter (fun x => seen.contains x.born) ++ e1 :: (es.toList.drop (j + 1)).filter (fun x => seen.contains x.born) := by
      conv => lhs; rw [hsp]
      rw [List.filter_append, List.filter_cons, if_pos hs1]
    have hnf : ((es.toList.filter (fun x => seen.contains x.born)).map (·.key)).Nodup := hS.2.2.sublist (List.filter_sublist.map _)
    obtain ⟨y', hm, hv, hp⟩ := hit hnf hD inj hfs h3
    rw [out_head (nodup_of hnf hD)] at hp
    refine ⟨setBlock w b (.map (es.modify j (fun e' => { e' with key := ek x, val := ev y })) clock), ?_, ⟨_, clock, seen, heap_setBlock_same hb _, stamped_modify hS j (fun e' => { e' with key := ek x, val := ev y }) (fun _ _ => rfl) (fun e' _ he' => hkeyf e' he'), ?_, (heap_setBlock_other hb _ hne).trans hr, ?_, ?_⟩, foot_setBlock hb, size_setBlock _ _ _⟩
    · simp [Instr.mapUpdate, run_underlying ht, MapKept.run_getObj_map hb, K.check w false hx, h1, hj, h3, K.stays w hx, MapKept.run_setObj_map _ hb, Result.andThen, setBlock]
    · intro e he
      rw [hlist] at he
      rcases List.mem_append.1 he with he | he
      · exact hK e (List.mem_of_mem_take he)
      · rcases List.mem_cons.1 he with rfl | he
        · exact ⟨_, hx⟩
        · exact hK e (List.mem_of_mem_drop he)
    · rw [hlist, List.filter_append, List.filter_cons, if_pos hs1, pairs_append]
      refine List.perm_middle.trans ?_
      exact (by rw [← pairs_append]; exact hp : (pairs ((es.toList.take j).filter fun x => seen.contains x.born) ++ pairs ((es.toList.drop (j + 1)).filter fun x => seen.contains x.born)).Perm _).cons (ek x, ev y)
    · rw [hlist, List.filter_append, List.filter_cons, if_neg (by simpa using hs1)]
      rw [hsp, List.filter_append, List.filter_cons, if_neg (by simpa using hs1)] at hT
      simpa using hT

/-- In a round: the removal of the key that has come. -/
theorem run_redrop (K : Keyed P k) (inj : ∀ a b, ek a = ek b → a = b) (ht : P.underlying t = some (.map k e)) {y0 : β} (h : Going P k ek ev w (some b) r ((x, y0) :: D) T) (hx : keyOf P k (ek x) = some lx) (ty : TypeId) :
    ∃ w', (Builtin.delete_ #[t, k] ty #[.map (some b), ek x]).run P w = .ok (.tuple #[]) w' ∧ Going P k ek ev w' (some b) r D T ∧ Foot (fun j => j = b) w w' ∧ w'.heap.size = w.heap.size := by
  have hap := h.apart
  have hne : r ≠ b := fun e => hap (by rw [e])
  obtain ⟨es, clock, seen, hb, hS, hK, hr, hD, hT⟩ := h
  obtain ⟨e1, he1, hE1⟩ := List.mem_map.1 (hD.mem_iff.2 (List.mem_cons_self ..))
  injection hE1 with hk1 hv1
  obtain ⟨hm1, hs1⟩ := List.mem_filter.1 he1
  rcases K.find w hx es.toList hK with ⟨h1, h2⟩ | ⟨j, e0, h1, h2, h3⟩
  · exact absurd hk1 (h2 e1 hm1)
  · have hjl : j < es.toList.length := (List.getElem?_eq_some_iff.1 h2).1
    obtain rfl : e1 = e0 := born_keys es hS.2.2 hm1 (List.mem_of_getElem? h2) (hk1.trans h3.symm)
    have hlist := toList_erase es j (by simpa using hjl)
    have hsp := split_at h2
    have hfs : es.toList.filter (fun x => seen.contains x.born) = (es.toList.take j).filter (fun x => seen.contains x.born) ++ e1 :: (es.toList.drop (j + 1)).filter (fun x => seen.contains x.born) := by
      conv => lhs; rw [hsp]
      rw [List.filter_append, List.filter_cons, if_pos hs1]
    have hnf : ((es.toList.filter (fun x => seen.contains x.born)).map (·.key)).Nodup := hS.2.2.sublist (List.filter_sublist.map _)
    obtain ⟨y', hm, hv, hp⟩ := hit hnf hD inj hfs h3
    rw [out_head (nodup_of hnf hD)] at hp
    refine ⟨setBlock w b (.map (es.eraseIdxIfInBounds j) clock), ?_, ⟨_, clock, seen, heap_setBlock_same hb _, stamped_erase hS j, ?_, (heap_setBlock_other hb _ hne).trans hr, ?_, ?_⟩, foot_setBlock hb, size_setBlock _ _ _⟩
    · simp [Builtin.delete_, run_underlying ht, MapKept.run_getObj_map hb, K.check w _ hx, h1, MapKept.run_setObj_map _ hb, Result.andThen, setBlock]
    · intro e he
      rw [hlist] at he
      rcases List.mem_append.1 he with he | he
      · exact hK e (List.mem_of_mem_take he)
      · exact hK e (List.mem_of_mem_drop he)
    · rw [hlist, List.filter_append]
      exact hp
    · rw [hlist, List.filter_append]
      rw [hsp, List.filter_append, List.filter_cons, if_neg (by simpa using hs1)] at hT
      exact hT
end
#print axioms run_restore
#print axioms run_next
end Go.Proofs.Ytjpepnokijbhgaa.MapK
