/- Memory in general words: a block known whole, which blocks may have changed, a slice of the call's own at whatever offset, and the builtins on it. -/
import Derived.WalkKit
import Derived.ProofKit
import Derived.Lib.Hide
import Derived.Laws.CopyOwn
import Derived.Deep.Draws
import Derived.Maps.AppendAt
namespace Go.Proofs.YtdibkgjldmepcaaDoor.Mem
open Go.RowKit

/-- Block g holds just these cells. -/
def At (w : World) (g : Nat) (t : TypeId) (cs : Array Value) : Prop := w.heap[g]? = some (.cells cs t (0, 0))

/-- Of the old blocks only those in S may have changed. -/
structure Foot (S : Nat → Prop) (w w' : World) : Prop where
  os : w'.os = w.os
  tape : w'.tape = w.tape
  output : w'.output = w.output
  size : w.heap.size ≤ w'.heap.size
  block : ∀ k, k < w.heap.size → ¬ S k → w'.heap[k]? = w.heap[k]?

/-- Whatever block v' points to: v pointed to it before, or it is new. -/
def Moved (w : World) (v v' : Value) : Prop := ∀ g, v'.ownBlock = some g → v.ownBlock = some g ∨ w.heap.size ≤ g

section
variable {S T : Nat → Prop} {w w1 w2 : World} {g : Nat} {t : TypeId} {cs : Array Value}
theorem At.lt (h : At w g t cs) : g < w.heap.size := (Array.getElem?_eq_some_iff.1 h).1
theorem At.cell (h : At w g t cs) (i : Nat) : w.cell? ⟨g, i, none⟩ = cs[i]? := by unfold At at h; simp [World.cell?, h]
theorem At.free (h : At w g t cs) (i : Nat) : w.frozen? ⟨g, i, none⟩ = false := by unfold At at h; simp [World.frozen?, h]
theorem At.new (w : World) (t : TypeId) (cs : Array Value) : At (w.alloc (.cells cs t)) w.heap.size t cs := heap_alloc_new w _
theorem At.keep (h : At w g t cs) (hf : Foot S w w1) (hg : ¬ S g) : At w1 g t cs := (hf.block g h.lt hg).trans h
theorem At.set (h : At w g t cs) (i : Nat) (u : Value) : At (w.setCell ⟨g, i, none⟩ u) g t (cs.setIfInBounds i u) := by
  unfold At at h ⊢
  simp [World.setCell, Array.getElem?_modify, h]
theorem At.setOther {p : Addr} (h : At w g t cs) (hp : g ≠ p.block) (u : Value) : At (w.setCell p u) g t cs := (Below.heap_setCell w p u g hp).trans h
theorem At.alloc (h : At w g t cs) (o : Obj) : At (w.alloc o) g t cs := (Below.heap_alloc w o g h.lt).trans h
theorem At.drewN (h : At w g t cs) (n : Nat) : At (w.drewN n) g t cs := h
theorem At.eq {cs' : Array Value} {t' : TypeId} (h : At w g t cs) (h' : At w g t' cs') : t = t' ∧ cs = cs' := by
  unfold At at h h'
  rw [h] at h'
  injection h' with h'
  injection h' with h1 h2
  exact ⟨h2, h1⟩
theorem At.ne {g' : Nat} {cs' : Array Value} {t' : TypeId} (h : At w g t cs) (h' : At w g' t' cs') (hne : t ≠ t') : g ≠ g' := by
  rintro rfl
  exact hne (h.eq h').1

theorem Foot.refl (S : Nat → Prop) (w : World) : Foot S w w := ⟨rfl, rfl, rfl, Nat.le_refl _, fun _ _ _ => rfl⟩
theorem Foot.mono (h : Foot S w w1) (hs : ∀ k, k < w.heap.size → S k → T k) : Foot T w w1 := ⟨h.os, h.tape, h.output, h.size, fun k hk hn => h.block k hk fun hS => hn (hs k hk hS)⟩
theorem Foot.trans (h : Foot S w w1) (h2 : Foot T w1 w2) (hs : ∀ k, k < w.heap.size → T k → S k) : Foot S w w2 :=
  ⟨h2.os.trans h.os, h2.tape.trans h.tape, h2.output.trans h.output, Nat.le_trans h.size h2.size, fun k hk hn =>
    (h2.block k (Nat.lt_of_lt_of_le hk h.size) fun hT => hn (hs k hk hT)).trans (h.block k hk hn)⟩
theorem Foot.alloc (h : Foot S w w1) (o : Obj) : Foot S w (w1.alloc o) :=
  ⟨h.os, h.tape, h.output, Nat.le_trans h.size (by simp), fun k hk hn => (Below.heap_alloc w1 o k (Nat.lt_of_lt_of_le hk h.size)).trans (h.block k hk hn)⟩
theorem Foot.setCell (h : Foot S w w1) {p : Addr} (hp : p.block < w.heap.size → S p.block) (u : Value) : Foot S w (w1.setCell p u) :=
  ⟨h.os, h.tape, h.output, by simpa [World.setCell] using h.size, fun k hk hn => (Below.heap_setCell w1 p u k (fun e => hn (by subst e; exact hp hk))).trans (h.block k hk hn)⟩
theorem Foot.setRow (h : Foot S w w1) (hp : g < w.heap.size → S g) (cs : Array Value) : Foot S w (w1.setRow g cs) :=
  ⟨h.os, h.tape, h.output, by simpa [World.setRow] using h.size, fun k hk hn => (setRow_other w1 g k cs (fun e => hn (by subst e; exact hp hk))).trans (h.block k hk hn)⟩
theorem Foot.drew (h : Foot S w w1) : Foot S w w1.drew := ⟨h.os, h.tape, h.output, h.size, h.block⟩
theorem Foot.drewN (h : Foot S w w1) (n : Nat) : Foot S w (w1.drewN n) := ⟨h.os, h.tape, h.output, h.size, h.block⟩
theorem Foot.below {B : Nat} (h : Foot S w w1) (hB : ∀ k, k < w.heap.size → S k → B ≤ k) (hb : B ≤ w.heap.size) : Below B w w1 :=
  ⟨h.os, h.tape, h.output, h.size, fun k hk => h.block k (by omega) fun hS => by have := hB k (by omega) hS; omega⟩
theorem Foot.cell (h : Foot S w w1) {p : Addr} (hp : p.block < w.heap.size) (hn : ¬ S p.block) : w1.cell? p = w.cell? p := World.cell?_of_block (w := w) (h.block p.block hp hn)
theorem Foot.frozen (h : Foot S w w1) {p : Addr} (hp : p.block < w.heap.size) (hn : ¬ S p.block) : w1.frozen? p = w.frozen? p := World.frozen?_of_block (w := w) (h.block p.block hp hn)
theorem Foot.ofBelow {B : Nat} (h : Below B w w1) (hs : ∀ k, k < w.heap.size → B ≤ k → S k) : Foot S w w1 :=
  ⟨h.os, h.tape, h.output, h.size, fun k hk hn => h.block k (by rcases Nat.lt_or_ge k B with h1 | h1; exact h1; exact absurd (hs k hk h1) hn)⟩

theorem Moved.refl (w : World) (v : Value) : Moved w v v := fun _ h => .inl h
theorem Moved.trans {v v1 v2 : Value} (h : Moved w v v1) (h2 : Moved w1 v1 v2) (hz : w.heap.size ≤ w1.heap.size) : Moved w v v2 := fun g hg => by
  rcases h2 g hg with h3 | h3
  · exact h g h3
  · exact .inr (by omega)
end

/-- A slice of the call's own, at whatever offset of its block: its n elements are the cells xs. -/
def Items (w : World) (e : TypeId) (sz : Nat) (v : Value) (n : Nat) (xs : List Value) : Prop :=
  xs.length = n * sz ∧ ∃ (a : Option Addr) (cap : Nat), v = .slice a n cap ∧ n ≤ cap ∧ cap ≤ maxLen ∧ (∀ x, a = some x → x.block < w.heap.size) ∧
    (0 < cap → ∃ g off cur, a = some ⟨g, off, none⟩ ∧ At w g e cur ∧ off + cap * sz ≤ cur.size ∧ (cur.toList.drop off).take (n * sz) = xs)

section
variable {S : Nat → Prop} {w w1 : World} {e : TypeId} {sz n : Nat} {v : Value} {xs : List Value}
theorem Items.nil (w : World) (e : TypeId) (sz : Nat) : Items w e sz (.slice none 0 0) 0 [] := ⟨by simp, none, 0, rfl, Nat.le_refl _, Nat.zero_le _, (fun _ h => by cases h), fun h => absurd h (by omega)⟩
theorem Items.keep (h : Items w e sz v n xs) (hf : Foot S w w1) (hd : ∀ g, v.ownBlock = some g → ¬ S g) : Items w1 e sz v n xs := by
  obtain ⟨hl, a, cap, rfl, h1, h2, h3, h4⟩ := h
  refine ⟨hl, a, cap, rfl, h1, h2, fun x hx => Nat.lt_of_lt_of_le (h3 x hx) hf.size, fun hc => ?_⟩
  obtain ⟨g, off, cur, rfl, h5, h6, h7⟩ := h4 hc
  exact ⟨g, off, cur, rfl, h5.keep hf (hd g rfl), h6, h7⟩
theorem Items.lt (h : Items w e sz v n xs) {g : Nat} (hg : v.ownBlock = some g) : g < w.heap.size := by
  obtain ⟨_, a, cap, rfl, _, _, h3, _⟩ := h
  cases a with
  | none => simp [Value.ownBlock] at hg
  | some x => simp [Value.ownBlock] at hg; subst hg; exact h3 x rfl
theorem Items.shape (h : Items w e sz v n xs) : ∃ a cap, v = .slice a n cap ∧ n ≤ cap ∧ cap ≤ maxLen := by
  obtain ⟨_, a, cap, rfl, h1, h2, _⟩ := h
  exact ⟨a, cap, rfl, h1, h2⟩
/-- Its block, where there is an element. -/
theorem Items.open (h : Items w e sz v n xs) (hn : 0 < n) : ∃ g off cap cur, v = .slice (some ⟨g, off, none⟩) n cap ∧ n ≤ cap ∧ cap ≤ maxLen ∧ At w g e cur ∧ off + cap * sz ≤ cur.size ∧ (cur.toList.drop off).take (n * sz) = xs := by
  obtain ⟨_, a, cap, rfl, h1, h2, _, h4⟩ := h
  obtain ⟨g, off, cur, rfl, h5, h6, h7⟩ := h4 (by omega)
  exact ⟨g, off, cap, cur, rfl, h1, h2, h5, h6, h7⟩
theorem take_drop_get {α : Type} {l xs : List α} {off m : Nat} (h : (l.drop off).take m = xs) {j : Nat} (hj : j < m) : l[off + j]? = xs[j]? := by
  rw [← h, List.getElem?_take, if_pos hj, List.getElem?_drop]
/-- Its cells read as xs. -/
theorem Items.cell (h : Items w e sz v n xs) (hn : 0 < n) : ∃ g off cap, v = .slice (some ⟨g, off, none⟩) n cap ∧ n ≤ cap ∧ cap ≤ maxLen ∧ g < w.heap.size ∧ ∀ j, j < n * sz → w.cell? ⟨g, off + j, none⟩ = xs[j]? := by
  obtain ⟨g, off, cap, cur, rfl, h1, h2, h5, h6, h7⟩ := h.open hn
  refine ⟨g, off, cap, rfl, h1, h2, h5.lt, fun j hj => ?_⟩
  rw [h5.cell, ← take_drop_get h7 hj, Array.getElem?_toList]
theorem Items.blk (h : Items w e sz v n xs) {g : Nat} {t : TypeId} {cs : Array Value} (hg : At w g t cs) (hne : e ≠ t) (hn : 0 < n) : v.ownBlock ≠ some g := by
  obtain ⟨g', off, cap, cur, rfl, _, _, h5, _⟩ := h.open hn
  intro he
  simp [Value.ownBlock] at he
  subst he
  exact hne (h5.eq hg).1
theorem Items.alloc (h : Items w e sz v n xs) (o : Obj) : Items (w.alloc o) e sz v n xs := h.keep (S := fun _ => False) ((Foot.refl _ w).alloc o) fun _ _ => id
theorem Items.setOther (h : Items w e sz v n xs) {p : Addr} (hp : v.ownBlock ≠ some p.block) (u : Value) : Items (w.setCell p u) e sz v n xs :=
  h.keep (S := fun k => k = p.block) ((Foot.refl (fun k => k = p.block) w).setCell (p := p) (fun _ => rfl) u) fun g hg e => by subst e; exact hp hg
theorem Items.drewN (h : Items w e sz v n xs) (k : Nat) : Items (w.drewN k) e sz v n xs := h
/-- Of a block that was made. -/
theorem Items.made {g : Nat} {cs : Array Value} (h : At w g e cs) (hn : cs.size = n * sz) (hm : n ≤ maxLen) : Items w e sz (.slice (some ⟨g, 0, none⟩) n n) n cs.toList :=
  ⟨by simpa using hn, _, n, rfl, Nat.le_refl _, hm, fun x hx => by cases hx; exact h.lt, fun _ => ⟨g, 0, cs, rfl, h, by omega, by rw [List.drop_zero, List.take_of_length_le]; simpa using Nat.le_of_eq hn⟩⟩
theorem take_drop_drop {α : Type} {l xs : List α} {off m k : Nat} (h : (l.drop off).take m = xs) : (l.drop (off + k)).take (m - k) = xs.drop k := by
  rw [← h, List.drop_take, List.drop_drop]
/-- A cut from k on. -/
theorem Items.cut {a : Option Addr} {cap : Nat} (h : Items w e sz (.slice a n cap) n xs) {k : Nat} (hk : k ≤ n) :
    Items w e sz (.slice (if cap = k then a else a.map (·.add (k * sz))) (n - k) (cap - k)) (n - k) (xs.drop (k * sz)) ∧ (Value.slice (if cap = k then a else a.map (·.add (k * sz))) (n - k) (cap - k)).ownBlock = (Value.slice a n cap).ownBlock := by
  obtain ⟨hl, a', cap', hv, h1, h2, h3, h4⟩ := h
  obtain ⟨rfl, _, rfl⟩ : a = a' ∧ n = n ∧ cap = cap' := by injection hv with h1 h2 h3; exact ⟨h1, rfl, h3⟩
  by_cases hc : cap = k
  · subst hc
    obtain rfl : n = cap := by omega
    simp only [if_true]
    exact ⟨⟨by simp [hl], a, 0, by simp, by omega, Nat.zero_le _, h3, fun h => absurd h (by omega)⟩, by cases a <;> simp [Value.ownBlock]⟩
  · rw [if_neg hc]
    obtain ⟨g, off, cur, rfl, h5, h6, h7⟩ := h4 (by omega)
    have hadd : (⟨g, off, none⟩ : Addr).add (k * sz) = ⟨g, off + k * sz, none⟩ := by unfold Addr.add; split <;> simp_all
    simp only [Option.map_some, hadd]
    refine ⟨⟨by rw [List.length_drop, hl, Nat.sub_mul], _, cap - k, rfl, by omega, by omega, (fun x hx => by cases hx; exact h3 ⟨g, off, none⟩ rfl), fun _ => ⟨g, off + k * sz, cur, rfl, h5, ?_, ?_⟩⟩, rfl⟩
    · rw [Nat.sub_mul]
      have := Nat.mul_le_mul_right sz (show k ≤ cap by omega)
      omega
    · rw [Nat.sub_mul]
      exact take_drop_drop h7
theorem Items.up {a : Option Addr} {cap : Nat} (h : Items w e sz (.slice a n cap) n xs) {k : Nat} (hk : k ≤ n) : Items w e sz (.slice a k cap) k (xs.take (k * sz)) := by
  obtain ⟨hl, a', cap', hv, h1, h2, h3, h4⟩ := h
  obtain ⟨rfl, _, rfl⟩ : a = a' ∧ n = n ∧ cap = cap' := by injection hv with h1 h2 h3; exact ⟨h1, rfl, h3⟩
  have hm := Nat.mul_le_mul_right sz hk
  refine ⟨by rw [List.length_take, hl]; omega, a, cap, rfl, by omega, h2, h3, fun hc => ?_⟩
  obtain ⟨g, off, cur, rfl, h5, h6, h7⟩ := h4 hc
  exact ⟨g, off, cur, rfl, h5, h6, by rw [← h7, List.take_take, Nat.min_eq_left hm]⟩
end

/-- A slice of ints that reads as zs. -/
def ReadsI (w : World) (a : Option Addr) (n : Nat) (zs : List Int) : Prop :=
  zs.length = n ∧ (0 < n → ∃ b off, a = some ⟨b, off, none⟩ ∧ ∀ j, j < n → w.cell? ⟨b, off + j, none⟩ = some (.int .i64 (zs.getD j 0)))
theorem getD_map {zs : List Int} {j : Nat} (h : j < zs.length) : (zs.map (Value.int .i64))[j]? = some (.int .i64 (zs.getD j 0)) := by
  simp [List.getElem?_eq_getElem h, List.getD]
theorem Items.reads {w : World} {e : TypeId} {n cap : Nat} {a : Option Addr} {zs : List Int} (h : Items w e 1 (.slice a n cap) n (zs.map (Value.int .i64))) : ReadsI w a n zs := by
  have hl := h.1
  rw [List.length_map, Nat.mul_one] at hl
  refine ⟨hl, fun hn => ?_⟩
  obtain ⟨g, off, cap', hv, _, _, _, hc⟩ := h.cell hn
  refine ⟨g, off, by injection hv, fun j hj => ?_⟩
  rw [hc j (by omega), getD_map (by omega)]
theorem At.reads {w : World} {g : Nat} {e : TypeId} {zs : List Int} (h : At w g e (zs.map (Value.int .i64)).toArray) : ReadsI w (some ⟨g, 0, none⟩) zs.length zs :=
  ⟨rfl, fun _ => ⟨g, 0, rfl, fun j hj => by rw [Nat.zero_add, h.cell, List.getElem?_toArray, getD_map hj]⟩⟩
theorem ReadsI.keep {w w1 : World} {S : Nat → Prop} {a : Option Addr} {n : Nat} {zs : List Int} (h : ReadsI w a n zs) (hf : Foot S w w1) (hs : ∀ x, a = some x → ¬ S x.block) : ReadsI w1 a n zs :=
  ⟨h.1, fun hn => by
    obtain ⟨b, off, rfl, hc⟩ := h.2 hn
    exact ⟨b, off, rfl, fun j hj => (hf.cell (World.block_lt_of_cell? _ _ (hc j hj)) (hs ⟨b, off, none⟩ rfl)).trans (hc j hj)⟩⟩
theorem Moved.apart {w : World} {v v' : Value} {g : Nat} (h : Moved w v v') (hg : v.ownBlock ≠ some g) (hlt : g < w.heap.size) : v'.ownBlock ≠ some g := fun e => by
  rcases h g e with h1 | h1
  · exact hg h1
  · omega
theorem ReadsI.below {w w1 : World} {a : Option Addr} {n : Nat} {zs : List Int} (h : ReadsI w a n zs) (hf : Below w.heap.size w w1) : ReadsI w1 a n zs :=
  h.keep (S := fun _ => False) ⟨hf.os, hf.tape, hf.output, hf.size, fun k hk _ => hf.block k hk⟩ fun _ _ => id

section
variable {P : Program} {w : World}

/-- append of m > 0 elements onto such a slice. -/
theorem run_append (t ty e : TypeId) (i : TypeInfo) (z : Value) (sz : Nat) (ht : P.underlying t = some (.slice e)) (hi : P.info? e = some i) (hz : i.zero = some z)
    (hsize : i.size = sz) (hzs : z.cells.size = sz) {v : Value} {n : Nat} {xs : List Value} (h : Items w e sz v n xs)
    (ad : Addr) (m c : Nat) (news : List Value) (hl : news.length = m * sz) (hnews : ∀ j u, news[j]? = some u → w.cell? (ad.add j) = some u) (h1 : ∀ u ∈ news, u.oneCell' = true)
    (hm : 0 < m) (h63 : n + m ≤ maxLen) (hbytes : (n + m) * i.bytes ≤ 140737488355328) :
    ∃ a' c' w', (Builtin.append_ #[t, t] ty #[v, .slice (some ad) m c]).run P w = .ok (.slice a' (n + m) c') w' ∧ Items w' e sz (.slice a' (n + m) c') (n + m) (xs ++ news) ∧
      Foot (fun k => v.ownBlock = some k) w w' ∧ Moved w v (.slice a' (n + m) c') := by
  subst hsize
  obtain ⟨hxl, a, cap, rfl, hc1, hc2, hlt, hblk⟩ := h
  have hlen : (xs ++ news).length = (n + m) * i.size := by rw [List.length_append, hxl, hl, Nat.add_mul]
  by_cases hroom : n + m ≤ cap
  · obtain ⟨g, off, cur, rfl, hg, hfit, hcur⟩ := hblk (by omega)
    have hf := run_firstCells_some (P := P) w i.size m ad m c news hl hnews
    have hmul := Nat.mul_le_mul_right i.size hroom
    rw [Nat.add_mul] at hmul
    have hst := run_storeCells_at P g (off + n * i.size) e news 0 cur w hg (by rw [hl]; omega) h1
    simp only [Nat.add_zero] at hst
    have hadd : (⟨g, off, none⟩ : Addr).add (n * i.size) = ⟨g, off + n * i.size, none⟩ := by unfold Addr.add; split <;> simp_all
    refine ⟨some ⟨g, off, none⟩, cap, w.setRow g (cur.toList.take (off + n * i.size) ++ news ++ cur.toList.drop (off + n * i.size + news.length)).toArray, ?_, ⟨hlen, some ⟨g, off, none⟩, cap, rfl, hroom, hc2, fun x hx => ?_, fun _ => ⟨g, off, _, rfl, setRow_heap w g cur _ e _ hg, ?_, ?_⟩⟩, (Foot.refl (fun k => (Value.slice (some ⟨g, off, none⟩) n cap).ownBlock = some k) w).setRow (g := g) (fun _ => rfl) _, Moved.refl _ _⟩
    · simp [Builtin.append_, run_underlying ht, sizeOf, typeInfo, hi, Builtin.lenOf, hroom, hf, hadd, hst]
    · cases hx
      have := hg.lt
      simpa [World.setRow] using this
    · simp only [List.size_toArray, List.length_append, List.length_take, List.length_drop, Array.length_toList]
      omega
    · have hxs : (cur.toList.take (off + n * i.size)).drop off = xs := by rw [List.drop_take, show off + n * i.size - off = n * i.size by omega]; exact hcur
      have hol : off ≤ (cur.toList.take (off + n * i.size)).length := by simp; omega
      simp only [List.append_assoc]
      rw [List.drop_append_of_le_length hol, hxs, ← List.append_assoc, ← hlen]
      exact List.take_left
  · have hb := growslice_fits (need := n + m) (old := cap) (bytes := i.bytes) (by omega) hbytes
    have h63' : ((n + m : Nat) : Int) ≤ 9223372036854775807 := by unfold maxLen at h63; omega
    have mk : ∀ (cs : Array Value), cs.size = grownCap w (n + m) cap e * i.size → cs.toList.take ((n + m) * i.size) = xs ++ news →
        Items (w.drew.alloc (.cells cs e)) e i.size (.slice (some ⟨w.heap.size, 0, none⟩) (n + m) (grownCap w (n + m) cap e)) (n + m) (xs ++ news) := by
      intro cs hs ht
      refine ⟨hlen, _, _, rfl, grownCap_ge _ _ _ _, grownCap_le_maxLen _ _ _ _ h63, fun x hx => ?_, fun _ => ⟨w.heap.size, 0, cs, rfl, At.new w.drew e cs, by omega, by simpa using ht⟩⟩
      cases hx
      have := (At.new w.drew e cs).lt
      exact this
    have hge := grownCap_ge w (n + m) cap e
    have hgm := Nat.mul_le_mul_right i.size hge
    cases a with
    | none =>
      have hcap : cap = 0 := by
        rcases Nat.eq_zero_or_pos cap with h0 | h0
        · exact h0
        · obtain ⟨_, _, _, hx, _⟩ := hblk h0
          cases hx
      subst hcap
      obtain rfl : n = 0 := by omega
      have hx0 : xs = [] := List.eq_nil_of_length_eq_zero (by simpa using hxl)
      subst hx0
      simp only [Nat.zero_add] at hb h63' hbytes mk hge hgm ⊢
      have hr := run_append_nil (P := P) w t ty e i z ht hi hz ad m c news hl hnews hm h63' (by omega)
      refine ⟨_, _, _, hr, mk _ ?_ ?_, ((Foot.refl _ w).drew).alloc _, fun g hg => .inr ?_⟩
      · simp [size_zeroCells, hl, hzs]
        rw [← Nat.add_mul]
        congr 1
        omega
      · simp only [Array.toList_append, List.nil_append]
        rw [← hl]
        exact List.take_left
      · simp [Value.ownBlock] at hg
        omega
    | some b =>
      have holds : ∀ j u, xs[j]? = some u → w.cell? (b.add j) = some u := by
        intro j u hu
        have hj : j < xs.length := (List.getElem?_eq_some_iff.1 hu).1
        rcases Nat.eq_zero_or_pos n with h0 | h0
        · subst h0; simp at hxl; subst hxl; simp at hj
        · obtain ⟨g, off, cur, hx, hg, hfit, hcur⟩ := hblk (by omega)
          cases hx
          have hadd : (⟨g, off, none⟩ : Addr).add j = ⟨g, off + j, none⟩ := by unfold Addr.add; split <;> simp_all
          rw [hadd, hg.cell, ← Array.getElem?_toList, take_drop_get hcur (by omega)]
          exact hu
      have hr := run_append_grow (P := P) w t ty e i z ht hi hz b n cap xs hxl holds ad m c news hl hnews (by omega) h63' hb
      refine ⟨_, _, _, hr, mk _ ?_ ?_, ((Foot.refl _ w).drew).alloc _, fun g hg => .inr ?_⟩
      · simp [size_zeroCells, hl, hzs, hxl]
        rw [← Nat.add_mul, ← Nat.add_mul]
        congr 1
        omega
      · simp only [Array.toList_append]
        rw [← hlen]
        exact List.take_left
      · simp [Value.ownBlock] at hg
        omega

/-- append of nothing. -/
theorem run_append_none (t ty e : TypeId) (i : TypeInfo) (ht : P.underlying t = some (.slice e)) (hi : P.info? e = some i) {a : Option Addr} {n cap : Nat} (hc : n ≤ cap) (b : Option Addr) (c : Nat) :
    (Builtin.append_ #[t, t] ty #[.slice a n cap, .slice b 0 c]).run P w = .ok (.slice a n cap) w := by
  cases a <;> cases b <;> simp [Builtin.append_, run_underlying ht, sizeOf, typeInfo, hi, Builtin.lenOf, hc, storeCells, Builtin.firstCells, loadCells, loadCellsFrom]

end

section
variable {P : Program} {w : World} {o : Oper} {a : Act} {K : Act → World → Prop} {Q : Exit → Act → World → Prop} {E : Prop} {ops : Array Oper} {rest : List Oper}

/-- append of m > 0 elements, at the operation. -/
theorem wp_append (s x : Operand) (t : TypeId) (ho : o.op = .call { callee := .builtin .append, args := #[s, x], argTypes := #[t, t] })
    (e : TypeId) (i : TypeInfo) (z : Value) (sz : Nat) (ht : P.underlying t = some (.slice e)) (hi : P.info? e = some i) (hz : i.zero = some z)
    (hsize : i.size = sz) (hzs : z.cells.size = sz) {v : Value} {n : Nat} {xs : List Value} (hs : a.eval s = v) (h : Items w e sz v n xs)
    (ad : Addr) (m c : Nat) (news : List Value) (hx : a.eval x = .slice (some ad) m c) (hl : news.length = m * sz) (hnews : ∀ j u, news[j]? = some u → w.cell? (ad.add j) = some u) (h1 : ∀ u ∈ news, u.oneCell' = true)
    (hm : 0 < m) (h63 : n + m ≤ maxLen) (hbytes : (n + m) * i.bytes ≤ 140737488355328)
    (hK : ∀ a' c' w', Items w' e sz (.slice a' (n + m) c') (n + m) (xs ++ news) → Foot (fun k => v.ownBlock = some k) w w' → Moved w v (.slice a' (n + m) c') → K (a.put o.dst (.slice a' (n + m) c')) w') : o.wp P a w K Q := by
  obtain ⟨a', c', w', hr, h2, h3, h4⟩ := run_append (P := P) t o.type e i z sz ht hi hz hsize hzs h ad m c news hl hnews h1 hm h63 hbytes
  unfold Oper.wp execOp
  simp only [ho, resolve, invoke, builtin, Sem.run_bind, Sem.run_pure, Result.andThen_ok, List.map_toArray, List.map_cons, List.map_nil, hs, hx, hr]
  exact hK a' c' w' h2 h3 h4

theorem wpList_append (hgd : o.guard = none) (s x : Operand) (t : TypeId) (ho : o.op = .call { callee := .builtin .append, args := #[s, x], argTypes := #[t, t] })
    (e : TypeId) (i : TypeInfo) (z : Value) (sz : Nat) (ht : P.underlying t = some (.slice e)) (hi : P.info? e = some i) (hz : i.zero = some z)
    (hsize : i.size = sz) (hzs : z.cells.size = sz) {v : Value} {n : Nat} {xs : List Value} (hs : a.eval s = v) (h : Items w e sz v n xs)
    (ad : Addr) (m c : Nat) (news : List Value) (hx : a.eval x = .slice (some ad) m c) (hl : news.length = m * sz) (hnews : ∀ j u, news[j]? = some u → w.cell? (ad.add j) = some u) (h1 : ∀ u ∈ news, u.oneCell' = true)
    (hm : 0 < m) (h63 : n + m ≤ maxLen) (hbytes : (n + m) * i.bytes ≤ 140737488355328)
    (hK : ∀ a' c' w', Items w' e sz (.slice a' (n + m) c') (n + m) (xs ++ news) → Foot (fun k => v.ownBlock = some k) w w' → Moved w v (.slice a' (n + m) c') → wpList P ops Q rest (a.put o.dst (.slice a' (n + m) c')) w') :
    wpList P ops Q (o :: rest) a w :=
  wpList_plain hgd fun _ hK' => wp_append s x t ho e i z sz ht hi hz hsize hzs hs h ad m c news hx hl hnews h1 hm h63 hbytes fun a' c' w' h2 h3 h4 => hK' _ _ (hK a' c' w' h2 h3 h4)

theorem step_of_wp (hgd : o.guard = none) (h : o.wp P a w K Q) : if Region.wanted o (yielded ops a.tmps) = true then Oper.wp P o a w K Q else E := by
  rw [if_pos (by simp [Region.wanted, hgd])]
  exact h

/-- The cut s[k:]. -/
theorem run_cut (t e : TypeId) (i : TypeInfo) (sz : Nat) (ht : P.underlying t = some (.slice e)) (he : P.elem t = e) (hi : P.info? e = some i) (hsize : i.size = sz) {ad : Option Addr} {n cap : Nat} (k : Nat) (kd : IntKind) (hk : k ≤ n) :
    (Instr.slice t (.slice ad n cap) (some (.int kd k)) none none).run P w = .ok (.slice (if cap = k then ad else ad.map (·.add (k * sz))) (n - k) (cap - k)) w := by
  subst hsize
  rw [run_slice_l w t ad n cap (by rw [he]; exact ht) kd k (by omega) (by omega)]
  simp [sizeOf, typeInfo, he, hi, sliced]

/-- copy, from anywhere onto a block that is known whole. -/
theorem run_copy (dT sT ty elem : TypeId) (i : TypeInfo) (sz g off dLen dCap : Nat) (ad : Addr) (sLen sCap : Nat) (cur : Array Value) (t : TypeId) (cs : List Value)
    (hu : P.underlying dT = some (.slice elem)) (hi : P.info? elem = some i) (hsz : i.size = sz) (hg : At w g t cur) (hn : cs.length = Nat.min sLen dLen * sz)
    (hsrc : ∀ j v, cs[j]? = some v → w.cell? (ad.add j) = some v) (hfit : off + cs.length ≤ cur.size) (h1 : ∀ v ∈ cs, v.oneCell' = true) :
    (Builtin.copy_ #[dT, sT] ty #[.slice (some ⟨g, off, none⟩) dLen dCap, .slice (some ad) sLen sCap]).run P w =
      .ok (goInt (Nat.min sLen dLen)) (w.setRow g (cur.toList.take off ++ cs ++ cur.toList.drop (off + cs.length)).toArray) := by
  subst hsz
  have hl := run_firstCells_some (P := P) w i.size (Nat.min sLen dLen) ad sLen sCap cs hn hsrc
  have hst := run_storeCells_at P g off t cs 0 cur w hg (by simpa using hfit) h1
  simp only [Nat.add_zero] at hst
  simp [Builtin.copy_, run_underlying hu, Builtin.lenOf, sizeOf, typeInfo, hi, hl, hst]

/-- copy of nothing. -/
theorem run_copy_empty (dT sT ty elem : TypeId) (i : TypeInfo) (d s : Option Addr) (dLen dCap sLen sCap : Nat) (hu : P.underlying dT = some (.slice elem)) (hi : P.info? elem = some i) (hn : Nat.min sLen dLen = 0) :
    (Builtin.copy_ #[dT, sT] ty #[.slice d dLen dCap, .slice s sLen sCap]).run P w = .ok (goInt 0) w := by
  cases d <;> cases s <;> simp [Builtin.copy_, run_underlying hu, Builtin.lenOf, Builtin.firstCells, sizeOf, typeInfo, hi, hn, loadCells, loadCellsFrom, storeCells]

/-- The cells cs laid over L from place off on (a name, so that the walk leaves it alone). -/
def laid (L : Array Value) (off : Nat) (cs : List Value) : Array Value := (L.toList.take off ++ cs ++ L.toList.drop (off + cs.length)).toArray
theorem laid_all {L : Array Value} {cs : List Value} (h : L.size = cs.length) : laid L 0 cs = cs.toArray := by
  unfold laid
  rw [Nat.zero_add, ← h, ← Array.length_toList, List.drop_length]; simp

theorem size_laid {L : Array Value} {off : Nat} {cs : List Value} (h : off + cs.length ≤ L.size) : (laid L off cs).size = L.size := by
  simp [laid]
  omega
/-- Elements moved on by one place: what lies from off + sz on. -/
theorem laid_shift {L : Array Value} {xs M : List Value} {off sz n k : Nat} (hxs : (L.toList.drop off).take (n * sz) = xs) (hl : xs.length = n * sz) (hfit : off + n * sz ≤ L.size) (hk : k < n)
    (hM : M.drop (off + sz) = (laid L (off + sz) (xs.take (k * sz))).toList.drop (off + sz)) : (M.drop (off + sz)).take ((n - 1) * sz) = xs.take (k * sz) ++ xs.drop ((k + 1) * sz) := by
  have hk1 : (k + 1) * sz ≤ n * sz := Nat.mul_le_mul_right _ hk
  have h1 : (k + 1) * sz = k * sz + sz := by rw [Nat.add_mul, Nat.one_mul]
  have h2 : (n - 1) * sz = n * sz - sz := by rw [Nat.sub_mul, Nat.one_mul]
  have hlen : (xs.take (k * sz)).length = k * sz := by rw [List.length_take, hl]; omega
  have hsz : L.toList.length = L.size := Array.length_toList
  have h3 : (L.toList.take (off + sz)).length = off + sz := by rw [List.length_take, hsz]; omega
  rw [hM]
  simp only [laid]
  rw [List.append_assoc, List.drop_append_of_le_length (by omega), List.drop_of_length_le (by omega), List.nil_append, List.take_append, List.take_of_length_le (by rw [hlen]; omega), hlen]
  congr 1
  rw [show off + sz + k * sz = off + (k + 1) * sz by omega, show (n - 1) * sz - k * sz = n * sz - (k + 1) * sz by omega, ← hxs, List.drop_take, List.drop_drop]

theorem wp_copy (d s : Operand) (dT sT : TypeId) (ho : o.op = .call { callee := .builtin .copy, args := #[d, s], argTypes := #[dT, sT] })
    (elem : TypeId) (i : TypeInfo) (sz : Nat) (hu : P.underlying dT = some (.slice elem)) (hi : P.info? elem = some i) (hsz : i.size = sz)
    (dp sp : Option Addr) (dLen dCap sLen sCap : Nat) (hd : a.eval d = .slice dp dLen dCap) (hs : a.eval s = .slice sp sLen sCap)
    (g off : Nat) (cur : Array Value) (t : TypeId) (hg : At w g t cur) (cs : List Value) (hn : cs.length = Nat.min sLen dLen * sz)
    (hpos : 0 < Nat.min sLen dLen → dp = some ⟨g, off, none⟩ ∧ ∃ ad, sp = some ad ∧ ∀ j v, cs[j]? = some v → w.cell? (ad.add j) = some v)
    (hfit : off + cs.length ≤ cur.size) (h1 : ∀ v ∈ cs, v.oneCell' = true)
    (hK : ∀ w', At w' g t (laid cur off cs) → Foot (fun k => k = g) w w' → K (a.put o.dst (goInt (Nat.min sLen dLen))) w') : o.wp P a w K Q := by
  by_cases h0 : Nat.min sLen dLen = 0
  · have hrun := run_copy_empty (P := P) (w := w) dT sT o.type elem i dp sp dLen dCap sLen sCap hu hi h0
    unfold Oper.wp execOp
    simp only [ho, resolve, invoke, builtin, Sem.run_bind, Sem.run_pure, Result.andThen_ok, List.map_toArray, List.map_cons, List.map_nil, hd, hs, hrun]
    rw [h0] at hK hn
    obtain rfl : cs = [] := List.eq_nil_of_length_eq_zero (by omega)
    exact hK w (by simpa [laid] using hg) (Foot.refl _ w)
  · obtain ⟨rfl, ad, rfl, hsrc⟩ := hpos (by omega)
    have hrun := run_copy (P := P) dT sT o.type elem i sz g off dLen dCap ad sLen sCap cur t cs hu hi hsz hg hn hsrc hfit h1
    unfold Oper.wp execOp
    simp only [ho, resolve, invoke, builtin, Sem.run_bind, Sem.run_pure, Result.andThen_ok, List.map_toArray, List.map_cons, List.map_nil, hd, hs, hrun]
    exact hK _ (setRow_heap w g cur _ t _ hg) ((Foot.refl (fun k => k = g) w).setRow (fun _ => rfl) _)

theorem wpList_copy (hgd : o.guard = none) (d s : Operand) (dT sT : TypeId) (ho : o.op = .call { callee := .builtin .copy, args := #[d, s], argTypes := #[dT, sT] })
    (elem : TypeId) (i : TypeInfo) (sz : Nat) (hu : P.underlying dT = some (.slice elem)) (hi : P.info? elem = some i) (hsz : i.size = sz)
    (dp sp : Option Addr) (dLen dCap sLen sCap : Nat) (hd : a.eval d = .slice dp dLen dCap) (hs : a.eval s = .slice sp sLen sCap)
    (g off : Nat) (cur : Array Value) (t : TypeId) (hg : At w g t cur) (cs : List Value) (hn : cs.length = Nat.min sLen dLen * sz)
    (hpos : 0 < Nat.min sLen dLen → dp = some ⟨g, off, none⟩ ∧ ∃ ad, sp = some ad ∧ ∀ j v, cs[j]? = some v → w.cell? (ad.add j) = some v)
    (hfit : off + cs.length ≤ cur.size) (h1 : ∀ v ∈ cs, v.oneCell' = true)
    (hK : ∀ w', At w' g t (laid cur off cs) → Foot (fun k => k = g) w w' → wpList P ops Q rest (a.put o.dst (goInt (Nat.min sLen dLen))) w') :
    wpList P ops Q (o :: rest) a w :=
  wpList_plain hgd fun _ hK' => wp_copy d s dT sT ho elem i sz hu hi hsz dp sp dLen dCap sLen sCap hd hs g off cur t hg cs hn hpos hfit h1 fun w' h2 h3 => hK' _ _ (hK w' h2 h3)

/-- append of whatever many elements, none let in. -/
theorem wp_append_any (s x : Operand) (t : TypeId) (ho : o.op = .call { callee := .builtin .append, args := #[s, x], argTypes := #[t, t] })
    (e : TypeId) (i : TypeInfo) (z : Value) (sz : Nat) (ht : P.underlying t = some (.slice e)) (hi : P.info? e = some i) (hz : i.zero = some z)
    (hsize : i.size = sz) (hzs : z.cells.size = sz) {v : Value} {n : Nat} {xs : List Value} (hs : a.eval s = v) (h : Items w e sz v n xs)
    (ao : Option Addr) (m c : Nat) (news : List Value) (hx : a.eval x = .slice ao m c) (hl : news.length = m * sz) (hnews : 0 < m → ∃ ad, ao = some ad ∧ ∀ j u, news[j]? = some u → w.cell? (ad.add j) = some u) (h1 : ∀ u ∈ news, u.oneCell' = true)
    (h63 : n + m ≤ maxLen) (hbytes : (n + m) * i.bytes ≤ 140737488355328)
    (hK : ∀ a' c' w', Items w' e sz (.slice a' (n + m) c') (n + m) (xs ++ news) → Foot (fun k => v.ownBlock = some k) w w' → Moved w v (.slice a' (n + m) c') → K (a.put o.dst (.slice a' (n + m) c')) w') : o.wp P a w K Q := by
  by_cases hm : m = 0
  · subst hm
    have hn : news = [] := List.eq_nil_of_length_eq_zero (by omega)
    subst hn
    obtain ⟨a', cap, rfl, hc, _⟩ := h.shape
    have hrun := run_append_none (P := P) (w := w) t o.type e i ht hi (a := a') hc ao c
    unfold Oper.wp execOp
    simp only [ho, resolve, invoke, builtin, Sem.run_bind, Sem.run_pure, Result.andThen_ok, List.map_toArray, List.map_cons, List.map_nil, hs, hx, hrun]
    exact hK a' cap w (by simpa using h) (Foot.refl _ _) (Moved.refl _ _)
  · obtain ⟨ad, rfl, hc⟩ := hnews (by omega)
    exact wp_append s x t ho e i z sz ht hi hz hsize hzs hs h ad m c news hx hl hc h1 (by omega) h63 hbytes hK

/-- make([]T, n), n a variable. -/
theorem wpList_make (hgd : o.guard = none) (l c : Operand) (t : TypeId) (ho : o.op = Op.makeSlice t l c)
    (e : TypeId) (i : TypeInfo) (z : Value) (sz : Nat) (ht : P.underlying t = some (.slice e)) (hi : P.info? e = some i) (hz : i.zero = some z) (hsize : i.size = sz)
    (n : Nat) (hl : a.eval l = .int .i64 n) (hc : a.eval c = .int .i64 n) (hb : i.bytes * n ≤ 281474976710656) (h63 : n ≤ maxLen)
    (hK : ∀ w', At w' w.heap.size e (madeCells z.cells (n * sz)) → Foot (fun _ => False) w w' → wpList P ops Q rest (a.put o.dst (.slice (some ⟨w.heap.size, 0, none⟩) n n)) w') :
    wpList P ops Q (o :: rest) a w := by
  refine wpList_plain hgd fun K hK' => ?_
  subst hsize
  have hb' : (i.bytes : Int) * (n : Int) ≤ 281474976710656 := by
    have h : ((i.bytes * n : Nat) : Int) ≤ 281474976710656 := by omega
    rwa [Int.natCast_mul] at h
  have hrun := run_make (P := P) w t e i z ht hi hz .i64 .i64 n n (by omega) (Int.le_refl _) hb' (by unfold maxLen at h63; omega)
  simp only [Int.toNat_natCast] at hrun
  unfold Oper.wp
  simp [execOp, ho, hl, hc, hrun, Result.andThen]
  exact hK' _ _ (hK _ (At.new _ _ _) ((Foot.refl _ w).alloc _))

/-- The same, and how large the memory is then. -/
theorem wpList_make1 (hgd : o.guard = none) (l c : Operand) (t : TypeId) (ho : o.op = Op.makeSlice t l c)
    (e : TypeId) (i : TypeInfo) (z : Value) (sz : Nat) (ht : P.underlying t = some (.slice e)) (hi : P.info? e = some i) (hz : i.zero = some z) (hsize : i.size = sz)
    (n : Nat) (hl : a.eval l = .int .i64 n) (hc : a.eval c = .int .i64 n) (hb : i.bytes * n ≤ 281474976710656) (h63 : n ≤ maxLen)
    (hK : ∀ w', At w' w.heap.size e (madeCells z.cells (n * sz)) → Foot (fun _ => False) w w' → w'.heap.size = w.heap.size + 1 → wpList P ops Q rest (a.put o.dst (.slice (some ⟨w.heap.size, 0, none⟩) n n)) w') :
    wpList P ops Q (o :: rest) a w := by
  refine wpList_plain hgd fun K hK' => ?_
  subst hsize
  have hb' : (i.bytes : Int) * (n : Int) ≤ 281474976710656 := by
    have h : ((i.bytes * n : Nat) : Int) ≤ 281474976710656 := by omega
    rwa [Int.natCast_mul] at h
  have hrun := run_make (P := P) w t e i z ht hi hz .i64 .i64 n n (by omega) (Int.le_refl _) hb' (by unfold maxLen at h63; omega)
  simp only [Int.toNat_natCast] at hrun
  unfold Oper.wp
  simp [execOp, ho, hl, hc, hrun, Result.andThen]
  exact hK' _ _ (hK _ (At.new _ _ _) ((Foot.refl _ w).alloc _) (by simp))

end
#print axioms wpList_copy
#print axioms wpList_append
end Go.Proofs.YtdibkgjldmepcaaDoor.Mem
