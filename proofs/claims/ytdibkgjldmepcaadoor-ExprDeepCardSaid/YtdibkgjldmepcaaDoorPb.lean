/- The reader in memory, the variables of a call beside it; next. -/
import Derived.Test.YtdibkgjldmepcaaDoorPa
import Derived.StillTailTactics
namespace Go.Proofs.YtdibkgjldmepcaaDoor.Xp
open Go.RowKit Mem Lex Gen
set_option linter.unusedVariables false
set_option linter.unusedSimpArgs false

/-- The reader at block R: its tokens, its place, how many brackets are open. -/
structure Rd (w : World) (R : Nat) (v : Value) (ts : List Tok) (i o : Nat) : Prop where
  rd : At w R 76 #[v, .int .i64 i, .int .i64 o]
  toks : Items w 72 5 v ts.length (flatT ts)
  own : v.ownBlock ≠ some R
  few : ts.length ≤ 1000000
  small : ∀ t ∈ ts, t.text.length ≤ 281474976710656
/-- The same from a call's beginning on: its own variables beside it, the newest first. -/
structure St (W0 w : World) (R : Nat) (v : Value) (ts : List Tok) (i o : Nat) (L : List (Nat × TypeId × Array Value)) : Prop where
  rd : Rd w R v ts i o
  loc : ∀ x ∈ L, At w x.1 x.2.1 x.2.2 ∧ W0.heap.size ≤ x.1
  ord : L.Pairwise fun a b => b.1 < a.1
  foot : Foot (fun k => k = R) W0 w
  lt : R < W0.heap.size
  own : ∀ g, v.ownBlock = some g → g < W0.heap.size
section
variable {W0 w w' : World} {R : Nat} {v : Value} {ts : List Tok} {i o : Nat} {L : List (Nat × TypeId × Array Value)}
theorem Rd.lt (h : Rd w R v ts i o) : R < w.heap.size := h.rd.lt
theorem Rd.still (h : Rd w R v ts i o) (hf : Foot (fun _ => False) w w') : Rd w' R v ts i o := ⟨h.rd.keep hf id, h.toks.keep hf fun _ _ => id, h.own, h.few, h.small⟩
theorem Rd.at_ (h : Rd w R v ts i o) (j : Nat) : Rd (w.setCell ⟨R, 1, none⟩ (.int .i64 j)) R v ts j o := ⟨h.rd.set 1 _, h.toks.setOther h.own _, h.own, h.few, h.small⟩
theorem Rd.open_ (h : Rd w R v ts i o) (j : Nat) : Rd (w.setCell ⟨R, 2, none⟩ (.int .i64 j)) R v ts i j := ⟨h.rd.set 2 _, h.toks.setOther h.own _, h.own, h.few, h.small⟩
theorem Rd.shape (h : Rd w R v ts i o) : ∃ a c, v = .slice a ts.length c := by obtain ⟨a, c, h1, _⟩ := h.toks.shape; exact ⟨a, c, h1⟩
theorem St.start (h : Rd w R v ts i o) : St w w R v ts i o [] := ⟨h, (fun _ h => by cases h), List.Pairwise.nil, Foot.refl _ _, h.lt, fun g hg => h.toks.lt hg⟩
theorem St.step (h : St W0 w R v ts i o L) {i' o' : Nat} (hr : Rd w' R v ts i' o') (hf : Foot (fun k => k = R) w w') : St W0 w' R v ts i' o' L :=
  ⟨hr, fun x hx => ⟨(h.loc x hx).1.keep hf (fun e => by have := (h.loc x hx).2; have := h.lt; omega), (h.loc x hx).2⟩, h.ord, h.foot.trans hf fun _ _ h => h, h.lt, h.own⟩
theorem St.still (h : St W0 w R v ts i o L) (hf : Foot (fun _ => False) w w') : St W0 w' R v ts i o L := h.step (h.rd.still hf) (hf.mono fun _ _ h => h.elim)
theorem St.alloc (h : St W0 w R v ts i o L) (cs : Array Value) (t : TypeId) : St W0 (w.alloc (.cells cs t)) R v ts i o ((w.heap.size, t, cs) :: L) := by
  have h1 := h.still ((Foot.refl (fun _ => False) w).alloc (.cells cs t))
  refine ⟨h1.rd, fun x hx => ?_, List.pairwise_cons.2 ⟨fun x hx => (h.loc x hx).1.lt, h.ord⟩, h1.foot, h.lt, h.own⟩
  rcases List.mem_cons.1 hx with rfl | hx
  · exact ⟨At.new w t cs, h.foot.size⟩
  · exact h1.loc x hx
theorem St.drewN (h : St W0 w R v ts i o L) (n : Nat) : St W0 (w.drewN n) R v ts i o L := h.still ((Foot.refl _ w).drewN n)
theorem St.drew (h : St W0 w R v ts i o L) : St W0 w.drew R v ts i o L := h.still ((Foot.refl _ w).drew)
theorem St.at_ (h : St W0 w R v ts i o L) (j : Nat) : St W0 (w.setCell ⟨R, 1, none⟩ (.int .i64 j)) R v ts j o L := h.step (h.rd.at_ j) ((Foot.refl (fun k => k = R) w).setCell (p := ⟨R, 1, none⟩) (fun _ => rfl) _)
theorem St.open_ (h : St W0 w R v ts i o L) (j : Nat) : St W0 (w.setCell ⟨R, 2, none⟩ (.int .i64 j)) R v ts i j L := h.step (h.rd.open_ j) ((Foot.refl (fun k => k = R) w).setCell (p := ⟨R, 2, none⟩) (fun _ => rfl) _)
theorem St.inc (h : St W0 w R v ts i o L) : St W0 (w.setCell ⟨R, 1, none⟩ (.int .i64 ((i : Int) + 1))) R v ts (i + 1) o L := h.at_ (i + 1)
theorem St.incO (h : St W0 w R v ts i o L) : St W0 (w.setCell ⟨R, 2, none⟩ (.int .i64 ((o : Int) + 1))) R v ts i (o + 1) L := h.open_ (o + 1)
theorem St.var (h : St W0 w R v ts i o L) (k : Nat) {g : Nat} {t : TypeId} {cs : Array Value} (hk : L[k]? = some (g, t, cs)) : At w g t cs ∧ W0.heap.size ≤ g := h.loc (g, t, cs) (List.mem_of_getElem? hk)
/-- A cell of the k-th variable stored. -/
theorem St.set (h : St W0 w R v ts i o L) (k : Nat) {g : Nat} {t : TypeId} {cs : Array Value} (hk : L[k]? = some (g, t, cs)) (j : Nat) (u : Value) : St W0 (w.setCell ⟨g, j, none⟩ u) R v ts i o (L.set k (g, t, cs.setIfInBounds j u)) := by
  have hv := h.var k hk
  have hlt := h.lt
  have hgR : g ≠ R := by omega
  refine ⟨⟨h.rd.rd.setOther (p := ⟨g, j, none⟩) (by simp only; omega) u, h.rd.toks.setOther (p := ⟨g, j, none⟩) (fun e => by have := h.own _ e; simp only at this; omega) u, h.rd.own, h.rd.few, h.rd.small⟩, fun x hx => ?_, ?_, ?_, hlt, h.own⟩
  · obtain ⟨n, hn⟩ := List.getElem?_of_mem hx
    rw [List.getElem?_set] at hn
    split at hn
    · split at hn
      · cases hn
        exact ⟨hv.1.set j u, hv.2⟩
      · cases hn
    · rename_i hne
      have hm := h.loc x (List.mem_of_getElem? hn)
      refine ⟨hm.1.setOther (p := ⟨g, j, none⟩) (fun e => ?_) u, hm.2⟩
      have hkl := (List.getElem?_eq_some_iff.1 hk)
      have hnl := (List.getElem?_eq_some_iff.1 hn)
      obtain ⟨k1, k2⟩ := hkl
      obtain ⟨n1, n2⟩ := hnl
      have hp := List.pairwise_iff_getElem.1 h.ord
      rcases Nat.lt_or_gt_of_ne hne with hl | hl
      · have := hp k n k1 n1 hl
        rw [k2, n2] at this
        simp only at this e
        omega
      · have := hp n k n1 k1 hl
        rw [k2, n2] at this
        simp only at this e
        omega
  · have hmap : (L.set k (g, t, cs.setIfInBounds j u)).map (·.1) = L.map (·.1) := by
      rw [List.map_set]
      apply List.ext_getElem?
      intro m
      rw [List.getElem?_set]
      split
      · rename_i he
        subst he
        split
        · rw [List.getElem?_map, hk]; rfl
        · rw [List.getElem?_map, hk]
          rename_i hlt'
          exact absurd (by rw [List.length_map]; exact (List.getElem?_eq_some_iff.1 hk).1) hlt'
      · rfl
    have h1 : (L.map (·.1)).Pairwise fun a b => b < a := List.pairwise_map.2 h.ord
    rw [← hmap] at h1
    exact List.pairwise_map.1 h1
  · exact h.foot.setCell (p := ⟨g, j, none⟩) (fun hh => absurd hh (by simp only; omega)) u
theorem St.set2 (h : St W0 w R v ts i o L) (k : Nat) {g : Nat} {t : TypeId} {a b : Value} (hk : L[k]? = some (g, t, #[a, b])) (x y : Value) : St W0 ((w.setCell ⟨g, 0, none⟩ x).setCell ⟨g, 1, none⟩ y) R v ts i o (L.set k (g, t, #[x, y])) := by
  have hk0 := (List.getElem?_eq_some_iff.1 hk).1
  have h1 := (h.set k hk 0 x).set k (g := g) (t := t) (cs := #[x, b]) (by rw [List.getElem?_set_self hk0]; rfl) 1 y
  rwa [List.set_set] at h1
theorem St.set5 (h : St W0 w R v ts i o L) (k : Nat) {g : Nat} {t : TypeId} {a b c d e : Value} (hk : L[k]? = some (g, t, #[a, b, c, d, e])) (u0 u1 u2 u3 u4 : Value) :
    St W0 (((((w.setCell ⟨g, 0, none⟩ u0).setCell ⟨g, 1, none⟩ u1).setCell ⟨g, 2, none⟩ u2).setCell ⟨g, 3, none⟩ u3).setCell ⟨g, 4, none⟩ u4) R v ts i o (L.set k (g, t, #[u0, u1, u2, u3, u4])) := by
  have hk0 := (List.getElem?_eq_some_iff.1 hk).1
  have h1 := h.set k hk 0 u0
  have h2 := h1.set k (g := g) (t := t) (cs := #[u0, b, c, d, e]) (by rw [List.getElem?_set_self hk0]; rfl) 1 u1
  rw [List.set_set] at h2
  have h3 := h2.set k (g := g) (t := t) (cs := #[u0, u1, c, d, e]) (by rw [List.getElem?_set_self hk0]; rfl) 2 u2
  rw [List.set_set] at h3
  have h4 := h3.set k (g := g) (t := t) (cs := #[u0, u1, u2, d, e]) (by rw [List.getElem?_set_self hk0]; rfl) 3 u3
  rw [List.set_set] at h4
  have h5 := h4.set k (g := g) (t := t) (cs := #[u0, u1, u2, u3, e]) (by rw [List.getElem?_set_self hk0]; rfl) 4 u4
  rwa [List.set_set] at h5
end
theorem size_alloc (w : World) (o : Obj) : (w.alloc o).heap.size = w.heap.size + 1 := by simp
theorem St.decO {W0 w : World} {R : Nat} {v : Value} {ts : List Tok} {i o : Nat} {L : List (Nat × TypeId × Array Value)} (h : St W0 w R v ts i (o + 1) L) : St W0 (w.setCell ⟨R, 2, none⟩ (.int .i64 o)) R v ts i o L := h.open_ o
theorem size_set (w : World) (p : Addr) (u : Value) : (w.setCell p u).heap.size = w.heap.size := by simp [World.setCell]
theorem cells3 {w : World} {g : Nat} {t : TypeId} {a b c : Value} (h : At w g t #[a, b, c]) : w.cell? ⟨g, 0, none⟩ = some a ∧ w.cell? ⟨g, 1, none⟩ = some b ∧ w.cell? ⟨g, 2, none⟩ = some c := ⟨h.cell 0, h.cell 1, h.cell 2⟩
theorem cells2 {w : World} {g : Nat} {t : TypeId} {a b : Value} (h : At w g t #[a, b]) : w.cell? ⟨g, 0, none⟩ = some a ∧ w.cell? ⟨g, 1, none⟩ = some b := ⟨h.cell 0, h.cell 1⟩

theorem foot2 {S : Nat → Prop} {w0 w : World} (h : Foot S w0 w) {g : Nat} (hg : w0.heap.size ≤ g) (u0 u1 : Value) : Foot S w0 ((w.setCell ⟨g, 0, none⟩ u0).setCell ⟨g, 1, none⟩ u1) :=
  (h.setCell (p := ⟨g, 0, none⟩) (fun h => absurd h (by simp only; omega)) u0).setCell (p := ⟨g, 1, none⟩) (fun h => absurd h (by simp only; omega)) u1
theorem foot5 {S : Nat → Prop} {w0 w : World} (h : Foot S w0 w) {g : Nat} (hg : w0.heap.size ≤ g) (u0 u1 u2 u3 u4 : Value) :
    Foot S w0 (((((w.setCell ⟨g, 0, none⟩ u0).setCell ⟨g, 1, none⟩ u1).setCell ⟨g, 2, none⟩ u2).setCell ⟨g, 3, none⟩ u3).setCell ⟨g, 4, none⟩ u4) :=
  (((foot2 h hg u0 u1).setCell (p := ⟨g, 2, none⟩) (fun h => absurd h (by simp only; omega)) u2).setCell (p := ⟨g, 3, none⟩) (fun h => absurd h (by simp only; omega)) u3).setCell (p := ⟨g, 4, none⟩) (fun h => absurd h (by simp only; omega)) u4
set_option maxHeartbeats 1000000 in
set_option maxRecDepth 100000 in
theorem next_c (R : Nat) (v : Value) (ts : List Tok) (i o : Nat) (w : World) (h : Rd w R v ts i o) (hi : i < ts.length) :
    Calls Tryd.prog 52 #[.pointer (some ⟨R, 0, none⟩)] w fun e w' => e = .returned (tokV ts[i]) ∧ Foot (fun _ => False) w w' := by
  obtain ⟨a, c, rfl⟩ := h.shape
  have S0 := (St.start h).alloc #[.int .i64 0, .int .i64 0, .int .i64 0, .string ⟨#[]⟩, .int .i64 0] 72
  have HF := Lib.hid ((Foot.refl (fun _ => False) w).alloc (.cells #[.int .i64 0, .int .i64 0, .int .i64 0, .string ⟨#[]⟩, .int .i64 0] 72))
  obtain ⟨r0, r1, r2⟩ := cells3 S0.rd.rd
  obtain ⟨g, off, rfl, t0, t1, t2, t3, t4⟩ := tok_cells S0.rd.toks rfl hi
  have hlt := S0.lt
  have HV := S0.var 0 rfl
  obtain ⟨l0, l1, l2, l3, l4⟩ := cells5 HV.1
  obtain ⟨f0, f1, f2, f3, f4⟩ := free5 HV.1
  have hg : g ≠ w.heap.size := by have := S0.own g rfl; omega
  have hi1 : (i : Int) < ts.length := by omega
  have hi2 : decide ((i : Int) < 0) = false := by simp
  have hi3 : decide ((ts.length : Int) ≤ i) = false := by simp; omega
  unfold tokV
  rw [strV_mk] at t3 ⊢
  generalize ts[i] = t at *
  clear S0 HV
  have hi0 : ¬ (i : Int) < 0 := by omega
  go_enter Tryd.func52, Tryd.ntmps52
  go_wp2_with fail
  generalize w.alloc (.cells #[.int .i64 0, .int .i64 0, .int .i64 0, .string ⟨#[]⟩, .int .i64 0] 72) = W1 at *
  go_quiet (fail)
  go_wp2_with fail
  obtain ⟨wd, hwd⟩ : ∃ z, z = W1.drewN nq := ⟨_, rfl⟩
  have HF2 : Hid (Foot (fun _ => False) w wd) := Lib.hid (by rw [hwd]; exact HF.out.drewN nq)
  have r1 : wd.cell? { block := R, off := 1 } = some (Value.int IntKind.i64 ↑i) := by rw [hwd]; exact r1
  have r0 : wd.cell? { block := R, off := 0 } = some (Value.slice (some { block := g, off := off }) ts.length c) := by rw [hwd]; exact r0
  have l0 : wd.cell? { block := w.heap.size, off := 0 } = some (Value.int IntKind.i64 0) := by rw [hwd]; exact l0
  have l1 : wd.cell? { block := w.heap.size, off := 1 } = some (Value.int IntKind.i64 0) := by rw [hwd]; exact l1
  have l2 : wd.cell? { block := w.heap.size, off := 2 } = some (Value.int IntKind.i64 0) := by rw [hwd]; exact l2
  have l3 : wd.cell? { block := w.heap.size, off := 3 } = some (Value.string { data := #[] }) := by rw [hwd]; exact l3
  have l4 : wd.cell? { block := w.heap.size, off := 4 } = some (Value.int IntKind.i64 0) := by rw [hwd]; exact l4
  have f0 : wd.frozen? { block := w.heap.size, off := 0 } = false := by rw [hwd]; exact f0
  have f1 : wd.frozen? { block := w.heap.size, off := 1 } = false := by rw [hwd]; exact f1
  have f2 : wd.frozen? { block := w.heap.size, off := 2 } = false := by rw [hwd]; exact f2
  have f3 : wd.frozen? { block := w.heap.size, off := 3 } = false := by rw [hwd]; exact f3
  have f4 : wd.frozen? { block := w.heap.size, off := 4 } = false := by rw [hwd]; exact f4
  have t0 : wd.cell? { block := g, off := off + i * 5 } = some (Value.int IntKind.i64 t.kind) := by rw [hwd]; exact t0
  have t1 : wd.cell? { block := g, off := off + i * 5 + 1 } = some (Value.int IntKind.i64 ↑t.at_) := by rw [hwd]; exact t1
  have t2 : wd.cell? { block := g, off := off + i * 5 + 2 } = some (Value.int IntKind.i64 ↑t.en) := by rw [hwd]; exact t2
  have t3 : wd.cell? { block := g, off := off + i * 5 + 3 } = some (Value.string (mk t.text)) := by rw [hwd]; exact t3
  have t4 : wd.cell? { block := g, off := off + i * 5 + 4 } = some (Value.int IntKind.i64 t.n) := by rw [hwd]; exact t4
  rw [← hwd]
  clear hwd HF
  go_still_tail 10, (by kernel_rfl)
  change wpList _ _ _ _ _ wd.drew
  go_wp2_with fail
  refine bodyPost_ret (v := .agg #[.int .i64 t.kind, .int .i64 t.at_, .int .i64 t.en, .string (mk t.text), .int .i64 t.n]) (by simp [results, Tryd.results52, go_sem, *]) rfl ⟨rfl, ?_⟩
  exact (foot5 HF2.out (Nat.le_refl _) _ _ _ _ _).drew
end Go.Proofs.YtdibkgjldmepcaaDoor.Xp
