/- One token of the program's own. -/
import Derived.Test.YtdibkgjldmepcaaDoorLexB
namespace Go.Proofs.YtdibkgjldmepcaaDoor.Lex
open Go.RowKit Mem
set_option linter.unusedVariables false

theorem clone_c (s : ByteArray) (w : World) (hs : s.size ≤ 281474976710656) : Calls Tryd.prog 50 #[.string s] w fun e w' => e = .returned (.string s) ∧ Foot (fun _ => False) w w' := by
  have hx : ∀ W : World, Calls Tryd.prog 65 #[.string s] W fun e w' => e = .returned (.string s) ∧ Foot (fun _ => False) W w' := fun W =>
    (Any.stringslite_Clone Tryd.layClone s W hs).mono fun e w' ⟨h1, h2⟩ => ⟨h1, Foot.ofBelow h2 fun k hk hb => absurd hb (by omega)⟩
  go_enter Tryd.func50, Tryd.ntmps50
  go_wp2_with (go_at_call 65; refine (hx _).mono ?_; rintro e w' ⟨rfl, hf⟩; have HF := Lib.hid hf; clear hf)
  go_ret
  exact ⟨rfl, HF.out⟩

def strV (l : Bytes) : Value := .string ⟨l.toArray⟩
def tokAgg (t : Tok) : Value := .agg #[.int .i64 t.kind, .int .i64 t.at_, .int .i64 t.en, strV t.text, .int .i64 t.n]
def noTok : Value := .agg #[.int .i64 0, .int .i64 0, .int .i64 0, .string ⟨#[]⟩, .int .i64 0]
def tokRes (i : Nat) (l : Bytes) : Value × Int :=
  match tokN l with
  | .ok t => (tokAgg ⟨t.kind, i, i + t.len, l.take t.len, t.n⟩, 0)
  | .error e => (noTok, e)

/-- A piece of a text, as a law of the slice operation. -/
theorem piece (s : ByteArray) (i k : Nat) (h : i + k ≤ s.size) : ∃ q : ByteArray, bs q = ((bs s).drop i).take k ∧ q.size = k ∧
    ∀ (W : World) (j : Int), j = ((i + k : Nat) : Int) → (Instr.slice 9 (.string s) (some (.int .i64 i)) (some (.int .i64 j)) none).run Tryd.prog W = .ok (.string q) W := by
  refine ⟨s.extract i (i + k), by rw [bs_extract, List.drop_take]; congr 1; omega, by rw [ByteArray.size_extract]; omega, fun W j hj => ?_⟩
  subst hj
  have h := run_slice_string (P := Tryd.prog) (w := W) 9 s .i64 .i64 (i : Int) ((i + k : Nat) : Int) Tryd.underlying9 (by omega) (by omega) (by omega)
  rwa [Int.toNat_natCast, Int.toNat_natCast] at h
theorem q_str {q : ByteArray} {l : Bytes} (h : bs q = l) : Value.string q = strV l := by rw [bs_inj h]; rfl

theorem cells5 {w : World} {g : Nat} {t : TypeId} {a b c d e : Value} (h : At w g t #[a, b, c, d, e]) :
    w.cell? ⟨g, 0, none⟩ = some a ∧ w.cell? ⟨g, 1, none⟩ = some b ∧ w.cell? ⟨g, 2, none⟩ = some c ∧ w.cell? ⟨g, 3, none⟩ = some d ∧ w.cell? ⟨g, 4, none⟩ = some e := ⟨h.cell 0, h.cell 1, h.cell 2, h.cell 3, h.cell 4⟩
theorem free5 {w : World} {g : Nat} {t : TypeId} {cs : Array Value} (h : At w g t cs) :
    w.frozen? ⟨g, 0, none⟩ = false ∧ w.frozen? ⟨g, 1, none⟩ = false ∧ w.frozen? ⟨g, 2, none⟩ = false ∧ w.frozen? ⟨g, 3, none⟩ = false ∧ w.frozen? ⟨g, 4, none⟩ = false := ⟨h.free 0, h.free 1, h.free 2, h.free 3, h.free 4⟩

/-- Two blocks that the call made, behind a call that only makes memory. -/
theorem two {w w' : World} {A B : Array Value} {t t' : TypeId} (hf : Foot (fun _ => False) ((w.alloc (.cells A t)).alloc (.cells B t')) w') :
    At w' w.heap.size t A ∧ At w' (w.heap.size + 1) t' B ∧ Foot (fun _ => False) w w' ∧ w.heap.size + 2 ≤ w'.heap.size := by
  have h1 := (At.new w t A).alloc (.cells B t')
  have h2 := At.new (w.alloc (.cells A t)) t' B
  rw [show (w.alloc (.cells A t)).heap.size = w.heap.size + 1 by simp] at h2
  refine ⟨h1.keep hf id, h2.keep hf id, (((Foot.refl _ w).alloc _).alloc _).trans hf fun _ _ h => h, ?_⟩
  have := hf.size
  simp at this
  omega

theorem span_all (p : UInt8 → Bool) : ∀ (l : Bytes), ∀ b ∈ l.take (span p l), p b = true
  | [], b, h => by simp at h
  | c :: l, b, h => by
    unfold span at h
    by_cases hc : p c = true
    · rw [if_pos hc, List.take_succ_cons] at h
      rcases List.mem_cons.1 h with rfl | h
      · exact hc
      · exact span_all p l b h
    · rw [if_neg hc] at h; simp at h
theorem tok_dig {i : Nat} {l : Bytes} {b : UInt8} {r : Bytes} (hd : l = b :: r) (h1 : dig b = true) :
    tokRes i l = if (numV (l.take (span dig l))).2 = 0 then (tokAgg ⟨2, i, i + span dig l, l.take (span dig l), (numV (l.take (span dig l))).1⟩, 0) else (noTok, (numV (l.take (span dig l))).2) := by
  have hpos : 1 ≤ span dig l := by rw [hd]; unfold span; rw [if_pos h1]; omega
  have hle := span_le dig l
  have hlen : (l.take (span dig l)).length = span dig l := by rw [List.length_take]; omega
  have hhead : (l.take (span dig l)).head?.map (·.toNat) = some b.toNat := by
    rw [show span dig l = (span dig l - 1) + 1 by omega, hd, List.take_succ_cons]; rfl
  unfold tokRes
  have htok : tokN l = if 1 < span dig l ∧ b.toNat = 48 then .error eTok else match valN (l.take (span dig l)) with | some n => .ok ⟨2, span dig l, n⟩ | none => .error eRange := by
    rw [hd]; unfold tokN; simp only; rw [if_pos h1]; rfl
  rw [htok]
  unfold numV
  rw [hlen, hhead]
  simp only [Option.some.injEq]
  by_cases h2 : 1 < span dig l ∧ b.toNat = 48
  · simp only [if_pos h2]
    rw [if_neg (by decide)]; rfl
  · simp only [if_neg h2]
    cases valN (l.take (span dig l)) with
    | none => simp only; rw [if_neg (by decide)]; rfl
    | some n => simp only; rw [if_pos trivial]

set_option maxHeartbeats 1000000 in
theorem token_c (s : ByteArray) (i : Nat) (w : World) (hi : i < s.size) (hs : s.size ≤ 281474976710656) (hv : Vars w) :
    Calls Tryd.prog 34 #[.string s, .int .i64 i] w fun e w' => e = .returned (.tuple #[(tokRes i ((bs s).drop i)).1, .int .i64 (tokRes i ((bs s).drop i)).2]) ∧ Foot (fun _ => False) w w' := by
  have hd := bs_drop hi
  have hk := fun W => kind_b s[i] W
  have b8 := and_digit s[i]
  have b4 := and_word s[i]
  have hl : ((bs s).drop i).length = s.size - i := by rw [List.length_drop, bs_len]
  have hv' := Lib.hid hv
  by_cases h1 : dig s[i] = true
  · rw [if_pos h1] at b8
    have hr := fun W => run_c s i 8 dig W (by omega) hs and_digit (by decide)
    have hsp := span_le dig ((bs s).drop i)
    have htok : tokRes i ((bs s).drop i) = if (numV (((bs s).drop i).take (span dig ((bs s).drop i)))).2 = 0 then (tokAgg ⟨2, i, i + span dig ((bs s).drop i), ((bs s).drop i).take (span dig ((bs s).drop i)), (numV (((bs s).drop i).take (span dig ((bs s).drop i)))).1⟩, 0)
        else (noTok, (numV (((bs s).drop i).take (span dig ((bs s).drop i)))).2) := tok_dig hd h1
    have hpos : 1 ≤ span dig ((bs s).drop i) := by rw [hd]; unfold span; rw [if_pos h1]; omega
    have hall := span_all dig ((bs s).drop i)
    rw [hl] at hsp
    generalize hkk : span dig ((bs s).drop i) = k at *
    obtain ⟨q, hq1, hq2, hq⟩ := piece s i k (by omega)
    have hq := fun W => hq W ((i : Int) + k) (by rw [Int.natCast_add])
    have hc := fun W => clone_c q W (by omega)
    have hx := fun W hW => value_c q W (by omega) hW (by intro h; have h' : (bs q).length = 0 := by { rw [h]; rfl }; rw [bs_len, hq2] at h'; omega) (by rw [hq1]; exact hall)
    rw [hq1] at hx
    simp only [Int.natCast_add] at hr
    rw [htok]
    clear htok hall
    generalize numV (((bs s).drop i).take k) = z at *
    obtain ⟨n, er⟩ := z
    simp only at hx ⊢
    by_cases h3 : er = 0
    · subst h3
      rw [if_pos rfl]
      unfold tokAgg
      simp only
      rw [← q_str hq1]
      clear hd hv hl h1 hkk hq1
      go_enter Tryd.func34, Tryd.ntmps34
      go_wp2_with (first | (go_at_call 45; refine (hk _).mono ?_; rintro e w' ⟨rfl, rfl⟩) | (go_at_call 47; refine (hr _).mono ?_; rintro e w' ⟨rfl, rfl⟩))
      refine (hx _ (hv'.out.keep (((Foot.refl _ w).alloc _).alloc _))).mono ?_
      rintro e w1 ⟨rfl, hf⟩
      obtain ⟨ha, hb, hF, hz⟩ := two hf
      obtain ⟨c0, c1, c2, c3, c4⟩ := cells5 ha
      obtain ⟨f0, f1, f2, f3, f4⟩ := free5 ha
      obtain ⟨d0, d1, d2, d3, d4⟩ := cells5 hb
      obtain ⟨g0, g1, g2, g3, g4⟩ := free5 hb
      have HF := Lib.hid hF
      have HA := Lib.hid ha
      have HB := Lib.hid hb
      clear hf ha hb hF
      go_wp2_with fail
      refine (hc _).mono ?_
      rintro e w2 ⟨rfl, hf⟩
      have ha := (HA.out.setOther (p := ⟨w.heap.size + 1, 4, none⟩) (by simp only; omega) (.int .i64 n)).keep hf id
      have hb := (HB.out.set 4 (.int .i64 n)).keep hf id
      have hF := (Foot.setCell (p := ⟨w.heap.size + 1, 4, none⟩) HF.out (fun h => absurd h (by simp only; omega)) (.int .i64 n)).trans hf fun _ _ h => h
      have hz2 := hf.size
      rw [show (w1.setCell ⟨w.heap.size + 1, 4, none⟩ (.int .i64 n)).heap.size = w1.heap.size by simp [World.setCell]] at hz2
      clear c0 c1 c2 c3 c4 f0 f1 f2 f3 f4 d0 d1 d2 d3 d4 g0 g1 g2 g3 g4 hf HA HB HF
      obtain ⟨c0, c1, c2, c3, c4⟩ := cells5 ha
      obtain ⟨f0, f1, f2, f3, f4⟩ := free5 ha
      have hb : At w2 (w.heap.size + 1) 72 #[.int .i64 2, .int .i64 i, .int .i64 ((i : Int) + k), .string ⟨#[]⟩, .int .i64 n] := hb
      obtain ⟨d0, d1, d2, d3, d4⟩ := cells5 hb
      obtain ⟨g0, g1, g2, g3, g4⟩ := free5 hb
      have HF := Lib.hid hF
      clear ha hb hF
      go_wp2_with fail
      refine bodyPost_ret (v := .tuple #[.agg #[.int .i64 2, .int .i64 i, .int .i64 ((i + k : Nat) : Int), .string q, .int .i64 n], .int .i64 0]) (by simp [results, Tryd.results34, go_sem, *]) rfl ⟨rfl, ?_⟩
      refine Foot.setCell (Foot.setCell (Foot.setCell (Foot.setCell (Foot.setCell (Foot.setCell HF.out ?_ _) ?_ _) ?_ _) ?_ _) ?_ _) ?_ _ <;> (intro h; exact absurd h (by simp only; omega))
    · rw [if_neg h3]
      unfold noTok
      clear hd hv hl h1 hkk hq1
      have h5 : (er != 0) = true := by simpa using h3
      have h6 : (er == 0) = false := by simpa using h3
      go_enter Tryd.func34, Tryd.ntmps34
      go_wp2_with (first | (go_at_call 45; refine (hk _).mono ?_; rintro e w' ⟨rfl, rfl⟩) | (go_at_call 47; refine (hr _).mono ?_; rintro e w' ⟨rfl, rfl⟩))
      refine (hx _ (hv'.out.keep (((Foot.refl _ w).alloc _).alloc _))).mono ?_
      rintro e w1 ⟨rfl, hf⟩
      obtain ⟨ha, hb, hF, hz⟩ := two hf
      obtain ⟨c0, c1, c2, c3, c4⟩ := cells5 ha
      obtain ⟨f0, f1, f2, f3, f4⟩ := free5 ha
      obtain ⟨d0, d1, d2, d3, d4⟩ := cells5 hb
      obtain ⟨g0, g1, g2, g3, g4⟩ := free5 hb
      have HF := Lib.hid hF
      clear hf ha hb hF
      go_wp2_with fail
      refine bodyPost_ret (v := .tuple #[.agg #[.int .i64 0, .int .i64 0, .int .i64 0, .string ⟨#[]⟩, .int .i64 0], .int .i64 er]) (by simp [results, Tryd.results34, go_sem, *]) rfl ⟨rfl, ?_⟩
      refine Foot.setCell (Foot.setCell (Foot.setCell (Foot.setCell (Foot.setCell (Foot.setCell HF.out ?_ _) ?_ _) ?_ _) ?_ _) ?_ _) ?_ _ <;> (intro h; exact absurd h (by simp only; omega))
  · rw [if_neg h1] at b8
    by_cases h2 : letr s[i] = true
    · rw [if_pos (show word s[i] = true by unfold word; rw [h2]; rfl)] at b4
      have hr := fun W => run_c s i 4 word W (by omega) hs and_word (by decide)
      have hsp := span_le word ((bs s).drop i)
      have htok : tokN ((bs s).drop i) = if 24 < span word ((bs s).drop i) then .error eLong else .ok ⟨1, span word ((bs s).drop i), 0⟩ := by
        rw [hd]; unfold tokN; simp only; rw [if_neg h1, if_pos h2]
      rw [hl] at hsp
      generalize hkk : span word ((bs s).drop i) = k at *
      obtain ⟨q, hq1, hq2, hq⟩ := piece s i k (by omega)
      have hq := fun W => hq W ((i : Int) + k) (by rw [Int.natCast_add])
      have hc := fun W => clone_c q W (by omega)
      simp only [Int.natCast_add] at hr
      by_cases h3 : 24 < k
      · have hres : tokRes i ((bs s).drop i) = (noTok, 13) := by unfold tokRes; rw [htok, if_pos h3]; rfl
        rw [hres]
        unfold noTok
        clear hres htok hd hv hl h1 h2 hkk
        go_enter Tryd.func34, Tryd.ntmps34
        go_wp2_with (first | (go_at_call 45; refine (hk _).mono ?_; rintro e w' ⟨rfl, rfl⟩) | (go_at_call 47; refine (hr _).mono ?_; rintro e w' ⟨rfl, rfl⟩))
        refine bodyPost_ret (v := .tuple #[.agg #[.int .i64 0, .int .i64 0, .int .i64 0, .string ⟨#[]⟩, .int .i64 0], .int .i64 13]) (by simp [results, Tryd.results34, go_sem, *]) rfl ⟨rfl, ((Foot.refl _ w).alloc _).alloc _⟩
      · have hres : tokRes i ((bs s).drop i) = (tokAgg ⟨1, i, i + k, ((bs s).drop i).take k, 0⟩, 0) := by unfold tokRes; rw [htok, if_neg h3]
        rw [hres]
        unfold tokAgg
        simp only
        rw [← q_str hq1]
        clear hres htok hd hv hl h1 h2 hkk hq1
        go_enter Tryd.func34, Tryd.ntmps34
        go_wp2_with (first | (go_at_call 45; refine (hk _).mono ?_; rintro e w' ⟨rfl, rfl⟩) | (go_at_call 47; refine (hr _).mono ?_; rintro e w' ⟨rfl, rfl⟩))
        refine (hc _).mono ?_
        rintro e w' ⟨rfl, hf⟩
        obtain ⟨ha, hb, hF, hz⟩ := two hf
        obtain ⟨c0, c1, c2, c3, c4⟩ := cells5 ha
        obtain ⟨f0, f1, f2, f3, f4⟩ := free5 ha
        obtain ⟨d0, d1, d2, d3, d4⟩ := cells5 hb
        obtain ⟨g0, g1, g2, g3, g4⟩ := free5 hb
        have HF := Lib.hid hF
        clear hf ha hb hF
        go_wp2_with fail
        refine bodyPost_ret (v := .tuple #[.agg #[.int .i64 1, .int .i64 i, .int .i64 ((i + k : Nat) : Int), .string q, .int .i64 0], .int .i64 0]) (by simp [results, Tryd.results34, go_sem, *]) rfl ⟨rfl, ?_⟩
        refine Foot.setCell (Foot.setCell (Foot.setCell (Foot.setCell (Foot.setCell (Foot.setCell HF.out ?_ _) ?_ _) ?_ _) ?_ _) ?_ _) ?_ _ <;> (intro h; exact absurd h (by simp only; omega))
    · rw [if_neg (show ¬ word s[i] = true by unfold word; rw [Bool.or_eq_true]; exact fun h => h.elim h2 h1)] at b4
      have hr := fun W => signEnd_c s i W hi hs
      have hsp := signLen_le ((bs s).drop i)
      have htok : tokN ((bs s).drop i) = if signLen ((bs s).drop i) = 0 then .error eByte else .ok ⟨3, signLen ((bs s).drop i), 0⟩ := by
        rw [hd]; unfold tokN; simp only; rw [if_neg h1, if_neg h2]
      rw [hl] at hsp
      generalize hkk : signLen ((bs s).drop i) = k at *
      obtain ⟨q, hq1, hq2, hq⟩ := piece s i k (by omega)
      have hq := fun W => hq W ((i : Int) + k) (by rw [Int.natCast_add])
      have hc := fun W => clone_c q W (by omega)
      simp only [Int.natCast_add] at hr
      by_cases h3 : k = 0
      · have hres : tokRes i ((bs s).drop i) = (noTok, 10) := by unfold tokRes; rw [htok, if_pos h3]; rfl
        rw [hres]
        unfold noTok
        subst h3
        simp only [Int.natCast_zero, Int.add_zero] at hr hq
        clear hres htok hd hv hl h1 h2 hkk
        go_enter Tryd.func34, Tryd.ntmps34
        go_wp2_with (first | (go_at_call 45; refine (hk _).mono ?_; rintro e w' ⟨rfl, rfl⟩) | (go_at_call 49; refine (hr _).mono ?_; rintro e w' ⟨rfl, rfl⟩))
        refine bodyPost_ret (v := .tuple #[.agg #[.int .i64 0, .int .i64 0, .int .i64 0, .string ⟨#[]⟩, .int .i64 0], .int .i64 10]) (by simp [results, Tryd.results34, go_sem, *]) rfl ⟨rfl, ((Foot.refl _ w).alloc _).alloc _⟩
      · have hres : tokRes i ((bs s).drop i) = (tokAgg ⟨3, i, i + k, ((bs s).drop i).take k, 0⟩, 0) := by unfold tokRes; rw [htok, if_neg h3]
        rw [hres]
        unfold tokAgg
        simp only
        rw [← q_str hq1]
        have h5 : ((i : Int) + k == i) = false := by rw [beq_eq_false_iff_ne]; omega
        clear hres htok hd hv hl h1 h2 hkk hq1
        go_enter Tryd.func34, Tryd.ntmps34
        go_wp2_with (first | (go_at_call 45; refine (hk _).mono ?_; rintro e w' ⟨rfl, rfl⟩) | (go_at_call 49; refine (hr _).mono ?_; rintro e w' ⟨rfl, rfl⟩))
        refine (hc _).mono ?_
        rintro e w' ⟨rfl, hf⟩
        obtain ⟨ha, hb, hF, hz⟩ := two hf
        obtain ⟨c0, c1, c2, c3, c4⟩ := cells5 ha
        obtain ⟨f0, f1, f2, f3, f4⟩ := free5 ha
        obtain ⟨d0, d1, d2, d3, d4⟩ := cells5 hb
        obtain ⟨g0, g1, g2, g3, g4⟩ := free5 hb
        have HF := Lib.hid hF
        clear hf ha hb hF
        go_wp2_with fail
        refine bodyPost_ret (v := .tuple #[.agg #[.int .i64 3, .int .i64 i, .int .i64 ((i + k : Nat) : Int), .string q, .int .i64 0], .int .i64 0]) (by simp [results, Tryd.results34, go_sem, *]) rfl ⟨rfl, ?_⟩
        refine Foot.setCell (Foot.setCell (Foot.setCell (Foot.setCell (Foot.setCell (Foot.setCell HF.out ?_ _) ?_ _) ?_ _) ?_ _) ?_ _) ?_ _ <;> (intro h; exact absurd h (by simp only; omega))

end Go.Proofs.YtdibkgjldmepcaaDoor.Lex
