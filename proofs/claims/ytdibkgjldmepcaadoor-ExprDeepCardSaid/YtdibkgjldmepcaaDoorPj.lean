/- Parse. -/
import Derived.Test.YtdibkgjldmepcaaDoorPg
import Derived.Test.YtdibkgjldmepcaaDoorPh
import Derived.Test.YtdibkgjldmepcaaDoorPi
namespace Go.Proofs.YtdibkgjldmepcaaDoor.Xp
open Go.RowKit Mem Lex Gen
set_option linter.unusedVariables false
set_option linter.unusedSimpArgs false

theorem all_c : ∀ F : Nat, (∀ F', F' ≤ F → OpC F') ∧ UnC F ∧ SgC F
  | 0 => by
    refine ⟨fun F' h n h1 h6 R v ts i o w _ _ _ _ hF => ?_, fun R v ts i o w _ _ _ _ hF => ?_, fun R v ts i o w _ _ _ _ hF => ?_⟩
    · exfalso; simp only [need] at hF; omega
    · exfalso; simp only [need] at hF; omega
    · exfalso; simp only [need] at hF; omega
  | F + 1 => by
    obtain ⟨h1, h2, h3⟩ := all_c F
    refine ⟨fun F' h => ?_, prefixed_c F h2 h3, single_c F (h1 F (Nat.le_refl _))⟩
    rcases Nat.lt_or_ge F F' with h' | h'
    · obtain rfl : F' = F + 1 := by omega
      exact operation_c F h1 h2
    · exact h1 F' h'
/-- What Parse answers. -/
def parse (ts : List Tok) (i : Nat) : PRes := prs (16 * ts.length + 14) (.lvl 1) (ts.drop i) 0
def PostP (w w' : World) (ts : List Tok) (r : PRes) (e : Ending) : Prop :=
  match r with
  | .ok (x, l) => ∃ u j, e = .returned (.tuple #[u, .int .i64 (j : Nat), .agg #[.int .i64 0, .int .i64 0]]) ∧ Tr w' (fun k => w.heap.size ≤ k) u x ∧ l = ts.drop j ∧ j < ts.length
  | .error (c, p) => e = .returned (.tuple #[.agg #[.int .i64 0, .int .i64 0, .string ⟨#[]⟩, .slice none 0 0, .int .i64 0], .int .i64 0, .agg #[.int .i64 c, .int .i64 p]]) ∧ c ≠ 0
structure Toks (w : World) (v : Value) (ts : List Tok) : Prop where
  items : Items w 72 5 v ts.length (flatT ts)
  few : ts.length ≤ 1000000
  small : ∀ t ∈ ts, t.text.length ≤ 281474976710656
  ends : Ends ts
theorem Toks.keep {S : Nat → Prop} {w w' : World} {v : Value} {ts : List Tok} (h : Toks w v ts) (hf : Foot S w w') (hd : ∀ g, v.ownBlock = some g → ¬ S g) : Toks w' v ts := ⟨h.items.keep hf hd, h.few, h.small, h.ends⟩
theorem Toks.still {w w' : World} {v : Value} {ts : List Tok} (h : Toks w v ts) (hf : Foot (fun _ => False) w w') : Toks w' v ts := h.keep hf fun _ _ => id

set_option maxHeartbeats 4000000 in
set_option maxRecDepth 100000 in
theorem parse_c (v : Value) (ts : List Tok) (i : Nat) (w : World) (h : Toks w v ts) (hi : i < ts.length) :
    Calls Tryd.prog 19 #[v, .int .i64 i] w fun e w' => PostP w w' ts (parse ts i) e ∧ Foot (fun _ => False) w w' := by
  have OP := (all_c (16 * ts.length + 14)).1 _ (Nat.le_refl _) 1 (by omega) (by omega)
  unfold parse
  obtain ⟨a, c, rfl⟩ : ∃ a c, v = .slice a ts.length c := by obtain ⟨a, c, h1, _⟩ := h.items.shape; exact ⟨a, c, h1⟩
  have hf0 := (((Foot.refl (fun _ => False) w).alloc (.cells #[.int .i64 0, .int .i64 0, .string ⟨#[]⟩, .slice none 0 0, .int .i64 0] 24)).alloc (.cells #[.int .i64 0, .int .i64 0] 47)).alloc (.cells #[.slice a ts.length c, .int .i64 i, .int .i64 0] 76)
  have hlt : ∀ g, (Value.slice a ts.length c).ownBlock = some g → g < w.heap.size := fun g hg => h.items.lt hg
  have hsz : ((((w.alloc (.cells #[.int .i64 0, .int .i64 0, .string ⟨#[]⟩, .slice none 0 0, .int .i64 0] 24)).alloc (.cells #[.int .i64 0, .int .i64 0] 47)))).heap.size = w.heap.size + 2 := by rw [size_alloc, size_alloc]
  have hR := At.new ((w.alloc (.cells #[.int .i64 0, .int .i64 0, .string ⟨#[]⟩, .slice none 0 0, .int .i64 0] 24)).alloc (.cells #[.int .i64 0, .int .i64 0] 47)) 76 #[.slice a ts.length c, .int .i64 i, .int .i64 0]
  rw [hsz] at hR
  have HRd : Hid (Rd _ (w.heap.size + 2) (.slice a ts.length c) ts i 0) := Lib.hid ⟨hR, (h.still hf0).items, fun e => by have := hlt _ e; omega, h.few, h.small⟩
  obtain ⟨hA, hB, _, _⟩ := two (Foot.refl (fun _ => False) ((w.alloc (.cells #[.int .i64 0, .int .i64 0, .string ⟨#[]⟩, .slice none 0 0, .int .i64 0] 24)).alloc (.cells #[.int .i64 0, .int .i64 0] 47)))
  have hA := hA.alloc (.cells #[.slice a ts.length c, .int .i64 i, .int .i64 0] 76)
  have hB := hB.alloc (.cells #[.slice a ts.length c, .int .i64 i, .int .i64 0] 76)
  have HF0 := Lib.hid hf0
  have HA := Lib.hid hA
  have HB := Lib.hid hB
  have HE := Lib.hid h.ends
  have hnd : need (.lvl 1) (ts.length - i) ≤ 16 * ts.length + 14 := by simp only [need]; omega
  have hszW := size_alloc ((w.alloc (.cells #[.int .i64 0, .int .i64 0, .string ⟨#[]⟩, .slice none 0 0, .int .i64 0] 24)).alloc (.cells #[.int .i64 0, .int .i64 0] 47)) (.cells #[.slice a ts.length c, .int .i64 i, .int .i64 0] 76)
  rw [hsz] at hszW
  clear hf0 hlt hsz hR hA hB h
  go_enter Tryd.func19, Tryd.ntmps19
  go_wp2_with fail
  generalize (((w.alloc (.cells #[.int .i64 0, .int .i64 0, .string ⟨#[]⟩, .slice none 0 0, .int .i64 0] 24)).alloc (.cells #[.int .i64 0, .int .i64 0] 47))).alloc (.cells #[.slice a ts.length c, .int .i64 i, .int .i64 0] 76) = W1 at *
  refine (OP (w.heap.size + 2) (.slice a ts.length c) ts i 0 W1 HRd.out HE.out hi (by omega) hnd).mono ?_
  rintro e w1 ⟨hp, hf⟩
  have HF1 := Lib.hid (HF0.out.trans hf fun k hk e => by omega)
  have HA := Lib.hid (HA.out.keep hf (by omega))
  have HB := Lib.hid (HB.out.keep hf (by omega))
  have S0 := St.start HRd.out
  cases hq : prs (16 * ts.length + 14) (.lvl 1) (ts.drop i) 0 with
  | error z =>
    obtain ⟨cc, pp⟩ := z
    rw [hq] at hp
    obtain ⟨u, j, o', rfl, ⟨k1, n1, s1, a1, m1, c1, p1, rfl⟩, hcc, hoo, hj, hr⟩ := hp
    have b1 : (cc != 0) = true := by rw [bne_iff_ne]; exact hcc
    have b2 : (cc == 0) = false := by rw [beq_eq_false_iff_ne]; exact hcc
    have hlA := HA.out.lt
    have hlB := HB.out.lt
    go_wp2_with fail
    obtain ⟨x1, x2, x3, x4⟩ := two (Foot.refl (fun _ => False) ((w1.alloc (.cells #[.int .i64 k1, .int .i64 n1, .string s1, .slice a1 m1 c1, .int .i64 p1] 24)).alloc (.cells #[.int .i64 cc, .int .i64 pp] 47)))
    have HA := HA.out.keep x3 id
    have HB := HB.out.keep x3 id
    have HF2 := Lib.hid (HF1.out.trans x3 fun _ _ h => h)
    generalize (w1.alloc (.cells #[.int .i64 k1, .int .i64 n1, .string s1, .slice a1 m1 c1, .int .i64 p1] 24)).alloc (.cells #[.int .i64 cc, .int .i64 pp] 47) = W3 at *
    obtain ⟨f0, f1⟩ := cells2 x2
    obtain ⟨e0, e1, e2, e3, e4⟩ := cells5 HA
    obtain ⟨ef0, ef1, ef2, ef3, ef4⟩ := free5 HA
    obtain ⟨g0, g1⟩ := cells2 HB
    have gf0 := HB.free 0
    have gf1 := HB.free 1
    clear x1 x2 x3 x4 HA HB hf hr
    go_region
    go_wp2_with fail
    refine bodyPost_ret (v := .tuple #[.agg #[.int .i64 0, .int .i64 0, .string ⟨#[]⟩, .slice none 0 0, .int .i64 0], .int .i64 0, .agg #[.int .i64 cc, .int .i64 pp]]) (by simp [results, Tryd.results19, go_sem, *]) rfl ⟨?_, (foot2 (foot5 HF2.out (Nat.le_refl _) _ _ _ _ _) (by omega) _ _).drew⟩
    rw [hq]
    exact ⟨rfl, hcc⟩
  | ok z =>
    obtain ⟨x, l⟩ := z
    rw [hq] at hp
    obtain ⟨u, j, rfl, hTr, hl, hj, hr⟩ := hp
    obtain ⟨k1, n1, s1, a1, m1, c1, p1, rfl⟩ := hTr.five
    have hlA := HA.out.lt
    have hlB := HB.out.lt
    have hlR := hr.rd.lt
    go_wp2_with fail
    obtain ⟨x1, x2, x3, x4⟩ := two (Foot.refl (fun _ => False) ((w1.alloc (.cells #[.int .i64 k1, .int .i64 n1, .string s1, .slice a1 m1 c1, .int .i64 p1] 24)).alloc (.cells #[.int .i64 0, .int .i64 0] 47)))
    have HA := HA.out.keep x3 id
    have HB := HB.out.keep x3 id
    have hr := hr.still x3
    have hTr := hTr.still x3
    have HF2 := Lib.hid (HF1.out.trans x3 fun _ _ h => h)
    generalize (w1.alloc (.cells #[.int .i64 k1, .int .i64 n1, .string s1, .slice a1 m1 c1, .int .i64 p1] 24)).alloc (.cells #[.int .i64 0, .int .i64 0] 47) = W3 at *
    obtain ⟨f0, f1⟩ := cells2 x2
    obtain ⟨y0, y1, y2, y3, y4⟩ := cells5 x1
    obtain ⟨e0, e1, e2, e3, e4⟩ := cells5 HA
    obtain ⟨ef0, ef1, ef2, ef3, ef4⟩ := free5 HA
    obtain ⟨g0, g1⟩ := cells2 HB
    have gf0 := HB.free 0
    have gf1 := HB.free 1
    obtain ⟨r0, r1, r2⟩ := cells3 hr.rd
    have HT := Lib.hid ((keepL hTr (foot2' (foot5' (Foot.refl (fun k => k < W1.heap.size) W3) (show w.heap.size < W1.heap.size by omega) (.int .i64 k1) (.int .i64 n1) (.string s1) (.slice a1 m1 c1) (.int .i64 p1)) (show w.heap.size + 1 < W1.heap.size by omega) (.int .i64 0) (.int .i64 0)).drew).weak (P' := fun k => w.heap.size ≤ k) (fun k _ hk => by omega))
    clear x1 x2 x3 x4 HA HB hf hr hTr
    go_region
    go_wp2_with fail
    refine bodyPost_ret (v := .tuple #[.agg #[.int .i64 k1, .int .i64 n1, .string s1, .slice a1 m1 c1, .int .i64 p1], .int .i64 j, .agg #[.int .i64 0, .int .i64 0]]) (by simp [results, Tryd.results19, go_sem, *]) rfl ⟨?_, (foot2 (foot5 HF2.out (Nat.le_refl _) _ _ _ _ _) (by omega) _ _).drew⟩
    rw [hq]
    exact ⟨_, j, rfl, HT.out, hl, hj⟩
end Go.Proofs.YtdibkgjldmepcaaDoor.Xp
