/- List of package idset: the set's numbers, rising, in a new slice. -/
import Derived.Test.YtkoedgmfjpcocaaDoorRange
import Derived.Test.YtkoedgmfjpcocaaDoorRef3
namespace Go.Proofs.YtkoedgmfjpcocaaDoor.Sets
open Go.RowKit Go.Shelf Mem Words
open Refs (ints nums Gives)
set_option linter.unusedVariables false
attribute [local go_sem] Oper.semAt_some

section
variable {F : Fence} {n : Nat} {P : Program} {w : World} {o : Oper} {a : Act} {Q : Exit → Act → World → Prop} {ops : Array Oper} {rest : List Oper}
/-- append of m > 0 elements, inside a fence. -/
theorem wpListIn_append (hgd : o.guard = none) (s x : Operand) (t : TypeId) (ho : o.op = .call { callee := .builtin .append, args := #[s, x], argTypes := #[t, t] })
    (e : TypeId) (i : TypeInfo) (z : Value) (sz : Nat) (ht : P.underlying t = some (.slice e)) (hi : P.info? e = some i) (hz : i.zero = some z)
    (hsize : i.size = sz) (hzs : z.cells.size = sz) {v : Value} {k : Nat} {xs : List Value} (hs : a.eval s = v) (h : Items w e sz v k xs)
    (ad : Addr) (m c : Nat) (news : List Value) (hx : a.eval x = .slice (some ad) m c) (hl : news.length = m * sz) (hnews : ∀ j u, news[j]? = some u → w.cell? (ad.add j) = some u) (h1 : ∀ u ∈ news, u.oneCell' = true)
    (hm : 0 < m) (h63 : k + m ≤ maxLen) (hbytes : (k + m) * i.bytes ≤ 140737488355328)
    (hK : ∀ a' c' w', Items w' e sz (.slice a' (k + m) c') (k + m) (xs ++ news) → Foot (fun k => v.ownBlock = some k) w w' → Moved w v (.slice a' (k + m) c') → wpListIn F n P ops Q rest (a.put o.dst (.slice a' (k + m) c')) w') :
    wpListIn F n P ops Q (o :: rest) a w := by
  refine wpListIn_plain hgd fun K hK' => ?_
  obtain ⟨a', c', w', hr, h2, h3, h4⟩ := run_append (P := P) t o.type e i z sz ht hi hz hsize hzs h ad m c news hl hnews h1 hm h63 hbytes
  unfold Oper.wpIn
  refine ⟨?_, ?_⟩
  · simp [Oper.about, ho, resolve, Target.leads, Sem.run_pure]
  · rw [Oper.semAt_plain F _ _ (by rw [ho]; intro c hc'; cases hc')]
    simp [execOp, ho, resolve, invoke, builtin, hs, hx, hr, Result.andThen]
    exact hK' _ _ (hK a' c' w' h2 h3 h4)
end

/-- What the loop that collects has: its list, in a block of ints of the call's own. -/
structure Coll (w wr : World) (out : Value) (ys : List Int) : Prop where
  has : Refs.Has' w wr out ys
  blk : ∀ g, out.ownBlock = some g → ∃ cs, At wr g 3 cs
theorem Coll.still {B : Nat} {w wr w' : World} {out : Value} {ys : List Int} (h : Coll w wr out ys) (hS : Still B wr w') (hB : w.heap.size ≤ B) : Coll w w' out ys := by
  have hne : ∀ g cs, At wr g 3 cs → ¬ (B ≤ g ∧ Loose wr g) := by
    rintro g cs hg ⟨_, (⟨cs', h2⟩ | ⟨o, h2, h3⟩)⟩
    · have := (hg.eq h2).1; cases this
    · rw [show wr.heap[g]? = _ from hg] at h2; cases h2; cases h3
  refine ⟨⟨h.has.items.keep hS fun g hg => ?_, h.has.own, h.has.foot.trans hS fun k hk hk2 => absurd hk2.1 (by omega)⟩, fun g hg => ?_⟩
  · obtain ⟨cs, hc⟩ := h.blk g hg
    exact hne g cs hc
  · obtain ⟨cs, hc⟩ := h.blk g hg
    exact ⟨cs, hc.keep hS (hne g cs hc)⟩
theorem box_still {B b : Nat} {wr w' : World} {v : Value} (h : At wr b 22 #[v]) (hS : Still B wr w') : At w' b 22 #[v] := by
  refine h.keep hS ?_
  rintro ⟨_, (⟨cs', h2⟩ | ⟨o, h2, h3⟩)⟩
  · have := (h.eq h2).1; cases this
  · rw [show wr.heap[b]? = _ from h] at h2; cases h2; cases h3

/-- A body that writes no sets keeps what it must. -/
theorem kept_of {B : Nat} {S : Nat → Prop} {w w' : World} (hF : Foot S w w') (h0 : ¬ S 0) (hw : 0 < w.heap.size) (hS : ∀ k, k < w.heap.size → S k → ∃ t cs, t ≠ 28 ∧ At w k t cs) : Kept B w w' := by
  refine ⟨⟨hF.size, fun k cs h => h.keep hF fun hk => ?_, hF.block 0 hw h0⟩, fun k o _ h hc => ?_⟩
  · obtain ⟨t, cs', hne, h2⟩ := hS k h.lt hk
    exact hne (h2.eq h).1
  · refine (hF.block k (Array.getElem?_eq_some_iff.1 h).1 fun hk => ?_).trans h
    obtain ⟨t, cs', hne, h2⟩ := hS k (Array.getElem?_eq_some_iff.1 h).1 hk
    rw [show w.heap[k]? = _ from h2] at h
    cases h
    cases hc
theorem nums_snoc (l : List Nat) (x : Nat) : nums (l ++ [x]) = nums l ++ [(x : Int)] := by simp [nums]
theorem nums_len (l : List Nat) : (nums l).length = l.length := List.length_map ..

set_option maxRecDepth 100000 in
set_option maxHeartbeats 1000000 in
theorem List_in (p : Nat → Bool) (w : World) (hT : Tab w) :
    CallsIn Fence.wide 5 Tryd.prog 13 #[.agg #[.int .u64 (lo p : Nat), .int .u64 (hi p : Nat)]] w (Gives w (nums (els p))) := by
  obtain ⟨i0, hii, hz0, hz1, hz2⟩ := info_parts Refs.info_int
  have HT := Lib.hid hT; clear hT
  have hm := els_le p
  have hL := Lib.hid fun w => Len p w
  have hA := Lib.hid fun w => All p w
  generalize hmm : (els p).length = m at hm hL
  have HM := Lib.hid hmm; clear hmm
  have hmk : ∀ W : World, (Instr.makeSlice 22 (.int .i64 0) (.int .i64 (m : Nat))).run Tryd.prog W = .ok (.slice (some ⟨W.heap.size, 0, none⟩) 0 m) (W.alloc (.cells (madeCells #[.int .i64 0] m) 3)) := fun W => by
    have h := run_make (P := Tryd.prog) W 22 3 i0 (.int .i64 0) Tryd.underlying22 hii hz0 .i64 .i64 0 m (by omega) (by omega) (by rw [hz2]; omega) (by omega)
    rw [hz1] at h
    simpa [Value.cells] using h
  refine callsIn_of_wp_marks Tryd.func13 rfl trivial ?_ rfl
  simp only [Tryd.ntmps13, List.size_toArray, List.length_cons, List.length_nil, Nat.reduceAdd, Nat.reduceSub, Array.replicate_succ, Array.replicate_zero, List.push_toArray, List.append_toArray, List.nil_append, List.cons_append]
  gi_wp2_with fail
  refine ⟨trivial, (callsIn_wide.2 (hL.out _)).mono ?_⟩
  rintro e w1 ⟨rfl, hF1⟩
  have A1 : At w1 w.heap.size 28 #[.int .u64 (lo p : Nat), .int .u64 (hi p : Nat)] := (At.new w _ _).keep hF1 id
  have F1 : Hid (Foot (fun _ => False) w w1) := Lib.hid (((Foot.refl _ w).alloc _).trans hF1 fun _ _ h => h)
  have c0 : w1.cell? ⟨w.heap.size, 0, none⟩ = some (.int .u64 (lo p : Nat)) := A1.cell 0
  have c1 : w1.cell? ⟨w.heap.size, 1, none⟩ = some (.int .u64 (hi p : Nat)) := A1.cell 1
  have hlt1 := A1.lt
  have HA1 := Lib.hid A1
  clear A1 hF1
  gi_wp2_with fail
  obtain ⟨wa, hwa⟩ : ∃ wa, (w1.alloc (.cells (madeCells #[Value.int .i64 0] m) 3)).alloc (.cells #[.slice (some ⟨w1.heap.size, 0, none⟩) 0 m] 22) = wa := ⟨_, rfl⟩
  rw [hwa]
  have G0 : Hid (At wa w1.heap.size 3 (madeCells #[Value.int .i64 0] m)) := Lib.hid (by rw [← hwa]; exact (At.new _ _ _).alloc _)
  have X0 : Hid (At wa (w1.heap.size + 1) 22 #[.slice (some ⟨w1.heap.size, 0, none⟩) 0 m]) := Lib.hid (by rw [← hwa]; exact At.newAt _ _ (by simp))
  have Fa : Hid (Foot (fun _ => False) w1 wa) := Lib.hid (by rw [← hwa]; exact ((Foot.refl _ w1).alloc _).alloc _)
  have C0 : Hid (Coll w wa (.slice (some ⟨w1.heap.size, 0, none⟩) 0 m) []) := Lib.hid
    ⟨⟨⟨rfl, _, m, rfl, Nat.zero_le _, by unfold maxLen; omega, (fun x hx => by cases hx; exact G0.out.lt), fun _ => ⟨_, 0, _, rfl, G0.out, by simp [size_madeCells], rfl⟩⟩,
      (fun g hg => by cases hg; exact F1.out.size), F1.out.trans Fa.out fun _ _ h => h⟩, fun g hg => by cases hg; exact ⟨_, G0.out⟩⟩
  clear hwa hmk
  have hsz := F1.out.size
  refine ⟨trivial, (callsIn_wide.2 (hA.out _)).mono ?_⟩
  rintro e w2 ⟨rfl, hbx, hF2⟩
  have S2 : Hid (Still w.heap.size wa w2) := Lib.hid (hF2.mono fun _ _ h => h.elim)
  have T2 : Tab w2 := ((HT.out.foot F1.out id).foot Fa.out id).foot hF2 id
  have hw2 := hF2.size
  have hwa := Fa.out.size
  have hlt2 : w1.heap.size + 1 < wa.heap.size := X0.out.lt
  clear hF2
  gi_wp2_with fail
  refine range_all (n := 5) (by omega) (Bx := wa.heap.size) rfl rfl p hbx T2
    (fun pre W => ∃ out, At W (w1.heap.size + 1) 22 #[out] ∧ Coll w W out (nums pre)) (fun _ _ _ => False)
    (fun s W W' ⟨out, h1, h2⟩ hS => ⟨out, box_still h1 hS, h2.still hS (by omega)⟩) (fun _ _ _ _ h _ => h) ⟨_, box_still X0.out S2.out, C0.out.still S2.out (Nat.le_refl _)⟩
    (fun x => { tmps := #[.agg #[.int .u64 (lo p : Nat), .int .u64 (hi p : Nat)], .pointer (some ⟨w.heap.size, 0, none⟩), .slice none 0 0, .pointer (some ⟨w1.heap.size + 1, 0, none⟩), .int .i64 (x : Nat),
        .agg #[.int .u64 (lo p : Nat), .int .u64 (hi p : Nat)], .int .i64 (m : Nat), .slice (some ⟨w1.heap.size, 0, none⟩) 0 m, .agg #[.int .u64 (lo p : Nat), .int .u64 (hi p : Nat)],
        .func (.func 29) #[] #[.pointer (some ⟨wa.heap.size, 0, none⟩)], .int .i64 (x : Nat), undef, undef, undef, undef, undef], defers := [] }) ?assign ?body ?done ?stop
  case assign =>
    intro l x W K hK
    gi_wp2
    exact hK
  case body =>
    rintro l pre x W ⟨out, hb, hC⟩ hpre
    have hlen : (nums pre).length + 1 ≤ m := by
      have := hpre.length_le
      rw [HM.out] at this
      rw [nums_len]
      simpa using this
    obtain ⟨ao, co, hv, _, _⟩ := hC.has.shape
    subst hv
    have k0 : W.cell? ⟨w1.heap.size + 1, 0, none⟩ = some (.slice ao (nums pre).length co) := hb.cell 0
    have hC' := Lib.hid hC; have hb' := Lib.hid hb
    have hns := nums_snoc pre x
    have hne : Hid ((Value.slice ao (nums pre).length co).ownBlock ≠ some (w1.heap.size + 1)) := Lib.hid fun e => by
      obtain ⟨cs, h⟩ := hC'.out.blk _ e
      have := (h.eq hb'.out).1
      cases this
    generalize nums pre = ys at *
    have HN := Lib.hid hns
    clear hC hb hns
    gi_wp2_with (gi_at_builtin; refine wpListIn_append rfl (.tmp 11) (.tmp 13) 22 rfl 3 i0 (.int .i64 0) 1 Tryd.underlying22 hii hz0 hz1 rfl rfl (hC'.out.has.items.alloc _) ⟨W.heap.size, 0, none⟩ 1 1 [.int .i64 (x : Nat)] rfl rfl (cell_one_new _ _ _) (by simp [Value.oneCell']) (by omega) (by unfold maxLen; omega) (by rw [hz2]; omega) ?_; intro a' c' w3 hI hF hM; have B3 := ((hb'.out.alloc _).keep hF hne.out); have k1 : w3.cell? ⟨w1.heap.size + 1, 0, none⟩ = some (.slice ao ys.length co) := B3.cell 0; have k2 := B3.free 0; have HI := Lib.hid hI; have HF := Lib.hid hF; have HMv := Lib.hid hM; have HB3 := Lib.hid B3; clear hI hF hM B3)
    have hne2 : (Value.slice a' (ys.length + 1) c').ownBlock ≠ some (w1.heap.size + 1) := (HMv.out.apart hne.out (by have := hb'.out.lt; simp; omega))
    refine ⟨kept_of (S := fun k => k = w1.heap.size + 1 ∨ (Value.slice ao ys.length co).ownBlock = some k)
      ((((Foot.refl (fun k => k = w1.heap.size + 1 ∨ (Value.slice ao ys.length co).ownBlock = some k) W).alloc _).trans (HF.out.mono (T := fun k => k = w1.heap.size + 1 ∨ (Value.slice ao ys.length co).ownBlock = some k) fun _ _ h => .inr h) fun _ _ h => h).setCell (p := ⟨w1.heap.size + 1, 0, none⟩) (fun _ => .inl rfl) _)
      ?_ (by have := hb'.out.lt; omega) ?_, .slice a' (ys.length + 1) c', HB3.out.set 0 _, ?_, ?_⟩
    · rintro (h | h)
      · omega
      · have := hC'.out.has.own 0 h
        have := HT.out.1
        omega
    · rintro k hk (rfl | h)
      · exact ⟨_, _, by decide, hb'.out⟩
      · obtain ⟨cs, hc⟩ := hC'.out.blk k h
        exact ⟨_, _, by decide, hc⟩
    · rw [HN.out]
      have h := hC'.out.has.snoc (n := 0) _ HI.out HF.out HMv.out
      refine ⟨h.items.setOther (p := ⟨w1.heap.size + 1, 0, none⟩) (by simpa using hne2) _, h.own, h.foot.setNew _ _ (by omega) _⟩
    · intro g hg
      obtain ⟨g', off, cap, cur, hv, _, _, hA', _⟩ := HI.out.open (by omega)
      cases hv
      cases hg
      exact ⟨cur, hA'.setOther (by intro e; exact hne2 (by simp [Value.ownBlock]; exact e)) _⟩
  case done =>
    rintro D W hD ⟨out, hb, hC⟩ hK
    obtain ⟨ao, co, hv, _, _⟩ := hC.has.shape
    subst hv
    have k0 : W.cell? ⟨w1.heap.size + 1, 0, none⟩ = some (.slice ao (nums (els p)).length co) := hb.cell 0
    have HC := Lib.hid (hC.still (Still.put (B := w2.heap.size) (.deferred none) hD hK rfl) (by omega))
    have HK := Lib.hid hK
    clear hC hb hK
    generalize nums (els p) = ys at *
    gi_wp2_with fail
    refine ⟨by simp, .inl ⟨_, _, rfl, run_takeDeferred HK.out, ?_⟩⟩
    exact ⟨_, results_tmp rfl _ _ _, ao, co, rfl, HC.out.has.items, HC.out.has.own, HC.out.has.foot⟩
  case stop =>
    rintro D id pre x W _ _ h _
    exact h.elim
theorem ListOf (p : Nat → Bool) (w : World) (hT : Tab w) :
    Calls Tryd.prog 13 #[.agg #[.int .u64 (lo p : Nat), .int .u64 (hi p : Nat)]] w (Gives w (nums (els p))) := (callsIn_wide (n := 5)).1 (List_in p w hT)
#print axioms ListOf
end Go.Proofs.YtkoedgmfjpcocaaDoor.Sets
