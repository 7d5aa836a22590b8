/- Slices that grow: each element's blocks are its own. -/
import Derived.Test.YtdibkgjldmepcaaDoorGenX
namespace Go.Proofs.YtdibkgjldmepcaaDoor.Gen
open Go.RowKit Mem Lex
set_option linter.unusedVariables false

/-- A record's values read as data. -/
inductive Rec (w : World) (P : Nat → Prop) : List Value → List D → Prop
  | nil : Rec w P [] []
  | cons {v : Value} {d : D} {vs : List Value} {ds : List D} (h : Reads w P v d) (t : Rec w P vs ds) : Rec w P (v :: vs) (d :: ds)
theorem Rec.len {w : World} {P : Nat → Prop} {us : List Value} {ds : List D} (h : Rec w P us ds) : us.length = ds.length := by
  induction h with
  | nil => rfl
  | cons _ _ ih => simp [ih]
theorem Rec.get {w : World} {P : Nat → Prop} {us : List Value} {ds : List D} (h : Rec w P us ds) : ∀ (f : Nat) (d : D), ds[f]? = some d → ∃ u, us[f]? = some u ∧ Reads w P u d := by
  induction h with
  | nil => intro f d hd; cases hd
  | cons h _ ih =>
    intro f d hd
    cases f with
    | zero => cases hd; exact ⟨_, rfl, h⟩
    | succ f => exact ih f d hd
theorem Rec.weak {w : World} {P P' : Nat → Prop} {us : List Value} {ds : List D} (h : Rec w P us ds) (hl : ∀ k, k < w.heap.size → P k → P' k) : Rec w P' us ds := by
  induction h with
  | nil => exact .nil
  | cons h _ ih => exact .cons (h.weak hl) ih
theorem Rec.keep {w w' : World} {P S : Nat → Prop} {us : List Value} {ds : List D} (h : Rec w P us ds) (hf : Foot S w w') (hS : ∀ k, S k → ¬ P k) : Rec w' P us ds := by
  induction h with
  | nil => exact .nil
  | cons h _ ih => exact .cons (h.keep hf hS) ih
theorem Rec.one {w : World} {P : Nat → Prop} {us : List Value} {ds : List D} (h : Rec w P us ds) : ∀ u ∈ us, u.oneCell' = true := by
  induction h with
  | nil => intro u hu; cases hu
  | cons h _ ih =>
    intro u hu
    rcases List.mem_cons.1 hu with rfl | hu
    · cases h <;> rfl
    · exact ih u hu

/-- A relation of values and data that worlds keep. -/
structure Keeps (E : World → (Nat → Prop) → List Value → List D → Prop) : Prop where
  keep : ∀ {w w' : World} {P S : Nat → Prop} {us ds}, E w P us ds → Foot S w w' → (∀ k, S k → ¬ P k) → E w' P us ds
  weak : ∀ {w : World} {P P' : Nat → Prop} {us ds}, E w P us ds → (∀ k, k < w.heap.size → P k → P' k) → E w P' us ds
  one : ∀ {w : World} {P : Nat → Prop} {us ds}, E w P us ds → ∀ u ∈ us, u.oneCell' = true
theorem keepsRec : Keeps Rec := ⟨Rec.keep, Rec.weak, Rec.one⟩

/-- A slice that has grown since lo: its own block, and each element's blocks, apart from each other. -/
structure Grow (E : World → (Nat → Prop) → List Value → List D → Prop) (lo : Nat) (w : World) (e : TypeId) (sz : Nat) (v : Value) (l : List (List D)) : Prop where
  out : ∃ (uss : List (List Value)) (Q : Nat → Nat → Prop), uss.length = l.length ∧ (∀ us ∈ uss, us.length = sz) ∧ Items w e sz v l.length uss.flatten ∧
    (∀ k us ds, uss[k]? = some us → l[k]? = some ds → E w (Q k) us ds) ∧
    (∀ k b, Q k b → lo ≤ b ∧ b < w.heap.size ∧ v.ownBlock ≠ some b) ∧ (∀ k k' b, Q k b → Q k' b → k = k')
  own : ∀ g, v.ownBlock = some g → lo ≤ g
section
variable {E : World → (Nat → Prop) → List Value → List D → Prop} {lo : Nat} {w w' : World} {e : TypeId} {sz : Nat} {v : Value} {l : List (List D)}
theorem Grow.nil (E : World → (Nat → Prop) → List Value → List D → Prop) (lo : Nat) (w : World) (e : TypeId) (sz : Nat) : Grow E lo w e sz (.slice none 0 0) [] :=
  ⟨⟨[], fun _ _ => False, rfl, fun _ h => by (cases h), Items.nil w e sz, fun k us ds h => by simp at h, fun _ _ h => h.elim, fun _ _ _ h => h.elim⟩, fun g hg => by simp [Value.ownBlock] at hg⟩
theorem Grow.keep (hE : Keeps E) (h : Grow E lo w e sz v l) {S : Nat → Prop} (hf : Foot S w w') (hS : ∀ k, S k → k < lo) : Grow E lo w' e sz v l := by
  obtain ⟨uss, Q, h1, h2, h3, h4, h5, h6⟩ := h.out
  exact ⟨⟨uss, Q, h1, h2, h3.keep hf fun g hg hs => by (have := h.own g hg; have := hS g hs; omega), fun k us ds hu hd => hE.keep (h4 k us ds hu hd) hf fun b hs hq => by (have := (h5 k b hq).1; have := hS b hs; omega),
    fun k b hq => ⟨(h5 k b hq).1, Nat.lt_of_lt_of_le (h5 k b hq).2.1 hf.size, (h5 k b hq).2.2⟩, h6⟩, h.own⟩
theorem Grow.still (hE : Keeps E) (h : Grow E lo w e sz v l) (hf : Foot (fun _ => False) w w') : Grow E lo w' e sz v l := h.keep hE hf fun _ h => h.elim
theorem Grow.shape (h : Grow E lo w e sz v l) : ∃ a cap, v = .slice a l.length cap ∧ l.length ≤ cap ∧ cap ≤ maxLen := by
  obtain ⟨uss, Q, h1, h2, h3, _⟩ := h.out
  exact h3.shape
/-- One more. -/
theorem Grow.push (hE : Keeps E) {w1 w2 w3 : World} {v' : Value} {us : List Value} {ds : List D} {S : Nat → Prop} (h : Grow E lo w1 e sz v l) (hlo : lo ≤ w1.heap.size) (hf : Foot S w1 w2) (hS : ∀ k, S k → k < lo)
    (hr : E w2 (fun b => w1.heap.size ≤ b) us ds) (hl : us.length = sz)
    (ha : ∀ xs, Items w2 e sz v l.length xs → Items w3 e sz v' (l.length + 1) (xs ++ us)) (hf3 : Foot (fun k => v.ownBlock = some k) w2 w3) (hm : Moved w2 v v') : Grow E lo w3 e sz v' (l ++ [ds]) := by
  obtain ⟨uss, Q, h1, h2, h3, h4, h5, h6⟩ := (h.keep hE hf hS).out
  obtain ⟨_, Q0, _, _, _, _, g5, _⟩ := h.out
  have hv : ∀ g, v.ownBlock = some g → g < w1.heap.size := fun g hg => by
    obtain ⟨_, _, _, _, i3, _⟩ := h.out
    exact i3.lt hg
  obtain ⟨uss, Q, h1, h2, h3, h4, h5, h6⟩ : ∃ (uss : List (List Value)) (Q : Nat → Nat → Prop), uss.length = l.length ∧ (∀ us ∈ uss, us.length = sz) ∧ Items w2 e sz v l.length uss.flatten ∧
      (∀ k us ds, uss[k]? = some us → l[k]? = some ds → E w2 (Q k) us ds) ∧ (∀ k b, Q k b → lo ≤ b ∧ b < w1.heap.size ∧ v.ownBlock ≠ some b) ∧ (∀ k k' b, Q k b → Q k' b → k = k') := by
    obtain ⟨uss, Q, h1, h2, h3, h4, h5, h6⟩ := h.out
    exact ⟨uss, Q, h1, h2, h3.keep hf fun g hg hs => by (have := h.own g hg; have := hS g hs; omega), fun k us ds hu hd => hE.keep (h4 k us ds hu hd) hf fun b hs hq => by (have := (h5 k b hq).1; have := hS b hs; omega), h5, h6⟩
  have hv3 : ∀ g, v'.ownBlock = some g → v.ownBlock = some g ∨ w2.heap.size ≤ g := hm
  have hs12 := hf.size
  have hs23 := hf3.size
  have hi := ha _ h3
  refine ⟨⟨uss ++ [us], fun k b => if k = l.length then w1.heap.size ≤ b ∧ b < w2.heap.size else Q k b ∧ k < l.length, by simp [h1], fun x hx => ?_, by simpa using hi, fun k x d hx hd => ?_, fun k b hq => ?_, fun k k' b hq hq' => ?_⟩, fun g hg => ?_⟩
  · rcases List.mem_append.1 hx with hx | hx
    · exact h2 x hx
    · simp at hx; subst hx; exact hl
  · by_cases hk : k < l.length
    · rw [List.getElem?_append_left (by omega)] at hx hd
      simp only [if_neg (show ¬ k = l.length by omega)]
      exact hE.weak (hE.keep (h4 k x d hx hd) hf3 fun b hb hq => (h5 k b hq).2.2 hb) fun b _ hq => ⟨hq, hk⟩
    · have hke : k = l.length := by
        have := (List.getElem?_eq_some_iff.1 hd).1
        simp at this; omega
      subst hke
      rw [List.getElem?_append_right (Nat.le_refl _), Nat.sub_self] at hd
      rw [List.getElem?_append_right (by omega), h1, Nat.sub_self] at hx
      simp at hx hd
      subst hx hd
      simp only [if_true]
      refine hE.weak (hE.keep (hE.weak hr (P' := fun b => w1.heap.size ≤ b ∧ b < w2.heap.size) fun b hb hq => ⟨hq, hb⟩) hf3 fun b hb hq => ?_) fun b _ hq => hq
      have := hv b hb
      omega
  · dsimp only at hq
    split at hq
    · refine ⟨by omega, by omega, fun hg => ?_⟩
      rcases hv3 b hg with h | h
      · have := hv b h; omega
      · omega
    · obtain ⟨x1, x2, x3⟩ := h5 k b hq.1
      refine ⟨x1, by omega, fun hg => ?_⟩
      rcases hv3 b hg with h | h
      · exact x3 h
      · omega
  · dsimp only at hq hq'
    split at hq <;> split at hq'
    · omega
    · have := (h5 k' b hq'.1).2.1; omega
    · have := (h5 k b hq.1).2.1; omega
    · exact h6 k k' b hq.1 hq'.1
  · rcases hv3 g hg with h' | h'
    · exact h.own g h'
    · omega
theorem flat_get {α : Type} (sz : Nat) : ∀ (uss : List (List α)) (k f : Nat), (∀ us ∈ uss, us.length = sz) → f < sz → uss.flatten[k * sz + f]? = (uss[k]?).bind (·[f]?)
  | [], k, f, _, _ => by simp
  | us :: r, 0, f, h, hf => by
    have := h us List.mem_cons_self
    rw [List.flatten_cons, List.getElem?_append_left (by omega)]
    simp
  | us :: r, k + 1, f, h, hf => by
    have h1 := h us List.mem_cons_self
    rw [List.flatten_cons, List.getElem?_append_right (by rw [h1, Nat.add_mul]; omega), h1, show (k + 1) * sz + f - sz = k * sz + f by rw [Nat.add_mul]; omega, flat_get sz r k f (fun x hx => h x (List.mem_cons_of_mem _ hx)) hf]
    simp
/-- What has grown reads as its data. -/
theorem Grow.reads (h : Grow Rec lo w e sz v l) : Reads w (fun b => lo ≤ b) v (.row l) := by
  obtain ⟨uss, Q, h1, h2, h3, h4, h5, h6⟩ := h.out
  obtain ⟨a, cap, rfl, hc1, hc2⟩ := h3.shape
  have hlen : ∀ k ds, l[k]? = some ds → ∃ us, uss[k]? = some us ∧ us.length = sz ∧ Rec w (Q k) us ds := fun k ds hd => by
    have hk := (List.getElem?_eq_some_iff.1 hd).1
    have hu : uss[k]? = some uss[k] := List.getElem?_eq_getElem (by omega)
    exact ⟨_, hu, h2 _ (List.getElem_mem _), h4 k _ ds hu hd⟩
  refine .row a cap sz l (fun k f => ((uss[k]?).bind (·[f]?)).getD undef) (fun x hx => ?_) ⟨hc1, hc2⟩ (fun x hx => ?_) (fun hn => ?_) (fun g off k f d hg hd => ?_) fun k f d hd => ?_
  · obtain ⟨k, hk⟩ := List.mem_iff_getElem?.1 hx
    obtain ⟨us, _, h7, h8⟩ := hlen k x hk
    rw [← h8.len, h7]
  · subst hx
    exact ⟨h.own x.block rfl, h3.lt (g := x.block) rfl⟩
  · obtain ⟨g, off, _, _, hv, _⟩ := h3.open hn
    exact ⟨g, off, by injection hv⟩
  · obtain ⟨ds, hds, hf⟩ := Option.bind_eq_some_iff.1 hd
    have hk := (List.getElem?_eq_some_iff.1 hds).1
    obtain ⟨us, hu, h7, h8⟩ := hlen k ds hds
    obtain ⟨u, hu2, _⟩ := h8.get f d hf
    have hfz := (List.getElem?_eq_some_iff.1 hu2).1
    obtain ⟨g', off', cap', hv, _, _, hgl, hcell⟩ := h3.cell (by omega)
    obtain ⟨rfl, rfl⟩ : g = g' ∧ off = off' := by
      injection hv with e1; rw [hg] at e1; simpa using e1
    have hb : k * sz + f < l.length * sz := by
      have : (k + 1) * sz ≤ l.length * sz := Nat.mul_le_mul_right _ hk
      rw [Nat.add_mul] at this; omega
    rw [Nat.add_assoc, hcell _ hb, flat_get sz uss k f h2 (by omega), hu]
    simp [hu2]
  · obtain ⟨ds, hds, hf⟩ := Option.bind_eq_some_iff.1 hd
    obtain ⟨us, hu, h7, h8⟩ := hlen k ds hds
    obtain ⟨u, hu2, h9⟩ := h8.get f d hf
    simp only [hu, Option.bind_some, hu2, Option.getD_some]
    exact h9.weak fun b _ hq => (h5 k b hq).1
end

theorem items_det {w : World} {e : TypeId} {sz n : Nat} {v : Value} {xs ys : List Value} (h : Items w e sz v n xs) (h' : Items w e sz v n ys) : xs = ys := by
  have l1 := h.1
  have l2 := h'.1
  by_cases hn : 0 < n
  · obtain ⟨g, off, cap, hv, _, _, _, hc⟩ := h.cell hn
    obtain ⟨g', off', cap', hv', _, _, _, hc'⟩ := h'.cell hn
    obtain ⟨rfl, rfl⟩ : g = g' ∧ off = off' := by
      rw [hv] at hv'; have hv2 := hv'; simp at hv2; exact hv2.1
    refine List.ext_getElem? fun j => ?_
    by_cases hj : j < n * sz
    · rw [← hc j hj, hc' j hj]
    · rw [List.getElem?_eq_none (by omega), List.getElem?_eq_none (by omega)]
  · obtain rfl : n = 0 := by omega
    rw [Nat.zero_mul] at l1 l2
    rw [List.eq_nil_of_length_eq_zero l1, List.eq_nil_of_length_eq_zero l2]
/-- What is asked of a slice's type. -/
structure ElemT (t e : TypeId) (sz : Nat) : Prop where
  out : Tryd.prog.underlying t = some (.slice e) ∧ ∃ i z, Tryd.prog.info? e = some i ∧ i.zero = some z ∧ i.size = sz ∧ z.cells.size = sz ∧ i.bytes ≤ 400
theorem info_split {e : TypeId} {z : Value} {sz by' : Nat} (h : (Tryd.prog.info? e).map (fun i => (i.zero, i.size, i.bytes)) = some (some z, sz, by')) : ∃ i, Tryd.prog.info? e = some i ∧ i.zero = some z ∧ i.size = sz ∧ i.bytes = by' := by
  cases hi : Tryd.prog.info? e with
  | none => rw [hi] at h; cases h
  | some i =>
    rw [hi] at h
    simp only [Option.map_some, Option.some.injEq, Prod.mk.injEq] at h
    exact ⟨i, rfl, h.1, h.2.1, h.2.2⟩
theorem ElemT.mk' {t e : TypeId} {z : Value} {sz by' : Nat} (hu : Tryd.prog.underlying t = some (.slice e)) (h : (Tryd.prog.info? e).map (fun i => (i.zero, i.size, i.bytes)) = some (some z, sz, by')) (hz : z.cells.size = sz) (hb : by' ≤ 400) : ElemT t e sz := by
  obtain ⟨i, h1, h2, h3, h4⟩ := info_split h
  exact ⟨hu, i, z, h1, h2, h3, hz, by omega⟩
section
variable {E : World → (Nat → Prop) → List Value → List D → Prop} {w : World} {o : Oper} {a : Act} {ops : Array Oper} {rest : List Oper} {Q : Exit → Act → World → Prop} {K : Act → World → Prop}
/-- Append of one record, that a slice literal holds. -/
theorem wp_grow (s x : Operand) {t e : TypeId} {sz : Nat} (hT : ElemT t e sz) (ho : o.op = .call { callee := .builtin .append, args := #[s, x], argTypes := #[t, t] }) (hE : Keeps E)
    {lo : Nat} {w1 : World} {S : Nat → Prop} {v : Value} {l : List (List D)} (hs : a.eval s = v) (h : Grow E lo w1 e sz v l) (hlo : lo ≤ w1.heap.size) (hf : Foot S w1 w) (hS : ∀ k, S k → k < lo)
    {us : List Value} {ds : List D} (hr : E w (fun b => w1.heap.size ≤ b) us ds) (hl : us.length = sz) (g m : Nat) (hx : a.eval x = .slice (some ⟨g, 0, none⟩) 1 m) (hg : At w g e us.toArray) (hn : l.length ≤ 1000000)
    (hK : ∀ a' c' w', Grow E lo w' e sz (.slice a' (l.length + 1) c') (l ++ [ds]) → Foot (fun k => lo ≤ k) w w' → K (a.put o.dst (.slice a' (l.length + 1) c')) w') : o.wp Tryd.prog a w K Q := by
  obtain ⟨hu, i, z, hi, hz, hsz, hzs, hb⟩ := hT.out
  obtain ⟨uss, Q', h1, h2, h3, _⟩ := (h.keep hE hf hS).out
  refine wp_append s x t ho e i z sz hu hi hz hsz hzs hs h3 ⟨g, 0, none⟩ 1 m us hx (by omega) (fun j u hj => ?_) (hE.one hr) (by omega) (by unfold maxLen; omega) ?_ fun a' c' w' hi' hf' hm => ?_
  · rw [add_plain, Nat.zero_add, hg.cell]
    simpa using hj
  · have : (l.length + 1) * i.bytes ≤ 1000001 * 400 := Nat.mul_le_mul (by omega) hb
    omega
  · refine hK a' c' w' (h.push hE hlo hf hS hr hl (fun xs hxs => ?_) hf' hm) (hf'.mono fun k _ hk => h.own k hk)
    rw [items_det hxs h3]; exact hi'
theorem wpList_grow (hgd : o.guard = none) (s x : Operand) {t e : TypeId} {sz : Nat} (hT : ElemT t e sz) (ho : o.op = .call { callee := .builtin .append, args := #[s, x], argTypes := #[t, t] }) (hE : Keeps E)
    {lo : Nat} {w1 : World} {S : Nat → Prop} {v : Value} {l : List (List D)} (hs : a.eval s = v) (h : Grow E lo w1 e sz v l) (hlo : lo ≤ w1.heap.size) (hf : Foot S w1 w) (hS : ∀ k, S k → k < lo)
    {us : List Value} {ds : List D} (hr : E w (fun b => w1.heap.size ≤ b) us ds) (hl : us.length = sz) (g m : Nat) (hx : a.eval x = .slice (some ⟨g, 0, none⟩) 1 m) (hg : At w g e us.toArray) (hn : l.length ≤ 1000000)
    (hK : ∀ a' c' w', Grow E lo w' e sz (.slice a' (l.length + 1) c') (l ++ [ds]) → Foot (fun k => lo ≤ k) w w' → wpList Tryd.prog ops Q rest (a.put o.dst (.slice a' (l.length + 1) c')) w') : wpList Tryd.prog ops Q (o :: rest) a w :=
  wpList_plain hgd fun _ hK' => wp_grow s x hT ho hE hs h hlo hf hS hr hl g m hx hg hn fun a' c' w' h1 h2 => hK' _ _ (hK a' c' w' h1 h2)
end
end Go.Proofs.YtdibkgjldmepcaaDoor.Gen
