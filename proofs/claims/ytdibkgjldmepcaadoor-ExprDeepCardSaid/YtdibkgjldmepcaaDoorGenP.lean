/- Expressions printed (cotillionref7.Print, kid). -/
import Derived.Test.YtdibkgjldmepcaaDoorGenT
namespace Go.Proofs.YtdibkgjldmepcaaDoor.Gen
open Go.RowKit Mem Lex
set_option linter.unusedVariables false

/-- What is known of an expression that is printed: whatever world comes behind W0, its text comes back. -/
def Prints (W0 : World) (v : Value) (t : Bytes) : Prop := ∀ W, Foot (fun _ => False) W0 W → Calls Tryd.prog 14 #[v] W fun e w' => e = .returned (.string (mk t)) ∧ Foot (fun _ => False) W w'

set_option maxHeartbeats 1000000 in
theorem kid_c (W0 : World) (u0 u1 u2 u3 u4 : Value) (k asks : Int) (t : Bytes) (hk : 1 ≤ k ∧ k ≤ 19) (h0 : u0 = .int .i64 k) (h1 : ∃ n, u1 = .int .i64 n) (h2 : ∃ s, u2 = .string s) (h3 : ∃ a m c, u3 = .slice a m c) (h4 : ∃ n, u4 = .int .i64 n)
    (hP : Prints W0 (.agg #[u0, u1, u2, u3, u4]) t) (hl : t.length ≤ 1000000000) (W : World) (hf : Foot (fun _ => False) W0 W) :
    Calls Tryd.prog 29 #[.agg #[u0, u1, u2, u3, u4], .int .i64 asks] W fun e w' => e = .returned (.string (mk (wrapT (lev k) asks t))) ∧ Foot (fun _ => False) W w' := by
  subst h0
  obtain ⟨n1, rfl⟩ := h1
  obtain ⟨s2, rfl⟩ := h2
  obtain ⟨a3, m3, c3, rfl⟩ := h3
  obtain ⟨n4, rfl⟩ := h4
  have LV := fun W => level_c k W hk.1 hk.2
  have HF := Lib.hid hf
  have HA : Hid (Foot (fun _ => False) W0 (W.alloc (.cells #[.int .i64 k, .int .i64 n1, .string s2, .slice a3 m3 c3, .int .i64 n4] 24))) := Lib.hid (hf.alloc _)
  have HP := Lib.hid hP
  clear hP hf
  generalize lev k = l at *
  by_cases hlt : l < asks
  · have hw : wrapT l asks t = [40] ++ t ++ [41] := by unfold wrapT; rw [if_pos hlt]
    have HW := Lib.hid (show mk (wrapT l asks t) = ⟨#[40]⟩ ++ mk t ++ ⟨#[41]⟩ by
      rw [hw]; exact (eq_mk (by rw [bs_append, bs_append]; rfl)).symm)
    have hz1 : ¬ 9223372036854775807 < 1 + (mk t).size := by rw [mk_size]; omega
    have hz2 : ¬ 9223372036854775807 < 1 + (mk t).size + 1 := by rw [mk_size]; omega
    clear hw
    go_enter Tryd.func29, Tryd.ntmps29
    go_wp2_with (first | (go_at_call 26; refine (LV _).mono ?_; rintro e w' ⟨rfl, rfl⟩))
    refine (HP.out _ HA.out).mono ?_
    rintro e w2 ⟨rfl, hf2⟩
    have HF2 := Lib.hid (((Foot.refl (fun _ => False) W).alloc _).trans hf2 fun _ _ h => h)
    clear hf2
    go_wp2_with fail
    go_ret
    rw [HW.out]
    exact ⟨rfl, HF2.out⟩
  · have HW := Lib.hid (show wrapT l asks t = t by unfold wrapT; rw [if_neg hlt])
    go_enter Tryd.func29, Tryd.ntmps29
    go_wp2_with (first | (go_at_call 26; refine (LV _).mono ?_; rintro e w' ⟨rfl, rfl⟩))
    refine (HP.out _ HA.out).mono ?_
    rintro e w2 ⟨rfl, hf2⟩
    have HF2 := Lib.hid (((Foot.refl (fun _ => False) W).alloc _).trans hf2 fun _ _ h => h)
    clear hf2
    go_wp2_with fail
    go_ret
    rw [HW.out]
    exact ⟨rfl, HF2.out⟩

theorem prints_num (n : Nat) (h : n ≤ 9223372036854775807) (W0 : World) (a : Option Addr) (m c : Nat) : Prints W0 (.agg #[.int .i64 1, .int .i64 n, .string (mk []), .slice a m c, .int .i64 0]) (dgs n) := by
  intro W hf
  have LV := fun W => level_c 1 W (by omega) (by omega)
  have DC := fun W => decF_c n W (by omega) (by omega)
  rw [show decS (n : Int) = mk (dgs n) by unfold decS decT mk; rw [if_neg (by omega)]; rfl] at DC
  clear hf
  go_enter Tryd.func14, Tryd.ntmps14
  go_wp2_with (first | (go_at_call 26; refine (LV _).mono ?_; rintro e w' ⟨rfl, rfl⟩))
  refine (DC _).mono ?_
  rintro e w2 ⟨rfl, hf2⟩
  have HF2 := Lib.hid (((Foot.refl (fun _ => False) W).alloc _).trans hf2 fun _ _ h => h)
  clear hf2
  go_wp2_with fail
  go_ret
  exact ⟨rfl, HF2.out⟩
theorem prints_var (s : Bytes) (W0 : World) (a : Option Addr) (m c : Nat) : Prints W0 (.agg #[.int .i64 2, .int .i64 0, .string (mk s), .slice a m c, .int .i64 0]) s := by
  intro W hf
  have LV := fun W => level_c 2 W (by omega) (by omega)
  clear hf
  go_enter Tryd.func14, Tryd.ntmps14
  go_wp2_with (first | (go_at_call 26; refine (LV _).mono ?_; rintro e w' ⟨rfl, rfl⟩))
  go_ret
  exact ⟨rfl, (Foot.refl (fun _ => False) W).alloc _⟩
theorem prints_arg (W0 : World) (a : Option Addr) (m c : Nat) : Prints W0 (.agg #[.int .i64 3, .int .i64 0, .string (mk []), .slice a m c, .int .i64 0]) [36] := by
  intro W hf
  have LV := fun W => level_c 3 W (by omega) (by omega)
  clear hf
  go_enter Tryd.func14, Tryd.ntmps14
  go_wp2_with (first | (go_at_call 26; refine (LV _).mono ?_; rintro e w' ⟨rfl, rfl⟩))
  go_ret
  exact ⟨rfl, (Foot.refl (fun _ => False) W).alloc _⟩
theorem prints_in (s : Bytes) (hl : s.length ≤ 24) (W0 : World) (a : Option Addr) (m c : Nat) : Prints W0 (.agg #[.int .i64 4, .int .i64 0, .string (mk s), .slice a m c, .int .i64 0]) ([105, 110, 40] ++ s ++ [41]) := by
  intro W hf
  have LV := fun W => level_c 4 W (by omega) (by omega)
  have hz1 : ¬ 9223372036854775807 < 3 + (mk s).size := by rw [mk_size]; omega
  have hz2 : ¬ 9223372036854775807 < 3 + (mk s).size + 1 := by rw [mk_size]; omega
  have HW := Lib.hid (show mk ([105, 110, 40] ++ s ++ [41]) = ⟨#[105, 110, 40]⟩ ++ mk s ++ ⟨#[41]⟩ from (eq_mk (by rw [bs_append, bs_append]; rfl)).symm)
  generalize [105, 110, 40] ++ s ++ [41] = T at HW ⊢
  clear hf
  go_enter Tryd.func14, Tryd.ntmps14
  go_wp2_with (first | (go_at_call 26; refine (LV _).mono ?_; rintro e w' ⟨rfl, rfl⟩))
  go_ret
  rw [HW.out]
  exact ⟨rfl, (Foot.refl (fun _ => False) W).alloc _⟩
set_option maxHeartbeats 1000000 in
theorem prints_un (k k1 : Nat) (hk : k = 5 ∨ k = 6) (hk1 : 1 ≤ k1 ∧ k1 ≤ 19) (t : Bytes) (ht : t.length ≤ 1000000000) (W0 : World) (g off c : Nat) (n1 : Int) (s2 : ByteArray) (a3 : Option Addr) (m3 c3 : Nat) (n4 : Int) (hc : 1 ≤ c)
    (e0 : W0.cell? ⟨g, off, none⟩ = some (.int .i64 k1)) (e1 : W0.cell? ⟨g, off + 1, none⟩ = some (.int .i64 n1)) (e2 : W0.cell? ⟨g, off + 2, none⟩ = some (.string s2)) (e3 : W0.cell? ⟨g, off + 3, none⟩ = some (.slice a3 m3 c3)) (e4 : W0.cell? ⟨g, off + 4, none⟩ = some (.int .i64 n4))
    (hP : Prints W0 (.agg #[.int .i64 k1, .int .i64 n1, .string s2, .slice a3 m3 c3, .int .i64 n4]) t) :
    Prints W0 (.agg #[.int .i64 k, .int .i64 0, .string (mk []), .slice (some ⟨g, off, none⟩) 1 c, .int .i64 0]) (opT k ++ wrapT (lev k1) 6 t) := by
  intro W hf
  have LV := fun W => level_c k W (by omega) (by omega)
  have TX := fun W => text_c k W (by omega)
  have KD := fun W hW => kid_c W0 _ _ _ _ _ k1 6 t (by omega) rfl ⟨n1, rfl⟩ ⟨s2, rfl⟩ ⟨a3, m3, c3, rfl⟩ ⟨n4, rfl⟩ hP ht W hW
  have hw := wrap_len (lev k1) 6 t
  have ho := op_len k
  generalize wrapT (lev k1) 6 t = q at *
  have HW := Lib.hid (show mk (opT k ++ q) = opS k ++ mk q from (eq_mk (by rw [bs_append]; rfl)).symm)
  have hz1 : ¬ 9223372036854775807 < (opS k).size + (mk q).size := by
    rw [mk_size, show (opS k).size = (opT k).length from mk_size _]
    omega
  generalize opT k = o at *
  generalize opS k = os at *
  have d0 := hold hf e0
  have d1 := hold hf e1
  have d2 := hold hf e2
  have d3 := hold hf e3
  have d4 := hold hf e4
  have hg : g < W.heap.size := World.block_lt_of_cell? W _ d0
  have hE := hf.alloc (.cells #[.int .i64 k, .int .i64 0, .string (mk []), .slice (some ⟨g, off, none⟩) 1 c, .int .i64 0] 24)
  have HE : Hid (Foot (fun _ => False) W0 _) := Lib.hid hE
  have HG := Lib.hid ((Foot.refl (fun _ => False) W).alloc (.cells #[.int .i64 k, .int .i64 0, .string (mk []), .slice (some ⟨g, off, none⟩) 1 c, .int .i64 0] 24))
  have hb0 := At.new W 24 #[.int .i64 k, .int .i64 0, .string (mk []), .slice (some ⟨g, off, none⟩) 1 c, .int .i64 0]
  have hk5 : ((k : Int) == 1) = false := by rw [beq_eq_false_iff_ne]; omega
  have hk6 : ((k : Int) == 2) = false := by rw [beq_eq_false_iff_ne]; omega
  have hk7 : ((k : Int) == 3) = false := by rw [beq_eq_false_iff_ne]; omega
  have hk8 : ((k : Int) == 4) = false := by rw [beq_eq_false_iff_ne]; omega
  clear hP hE hw ho hk1 ht
  rcases hk with hk | hk
  · have hk9 : ((k : Int) == 5) = true := by rw [hk]; rfl
    clear hk
    go_enter Tryd.func14, Tryd.ntmps14
    go_wp2_with (first | (go_at_call 26; refine (LV _).mono ?_; rintro e w' ⟨rfl, rfl⟩))
    have p0 := hb0.cell 0
    have p3 := hb0.cell 3
    have b0 := hold ((Foot.refl (fun _ => False) W).alloc (.cells #[.int .i64 k, .int .i64 0, .string (mk []), .slice (some ⟨g, off, none⟩) 1 c, .int .i64 0] 24)) d0
    have b1 := hold ((Foot.refl (fun _ => False) W).alloc (.cells #[.int .i64 k, .int .i64 0, .string (mk []), .slice (some ⟨g, off, none⟩) 1 c, .int .i64 0] 24)) d1
    have b2 := hold ((Foot.refl (fun _ => False) W).alloc (.cells #[.int .i64 k, .int .i64 0, .string (mk []), .slice (some ⟨g, off, none⟩) 1 c, .int .i64 0] 24)) d2
    have b3 := hold ((Foot.refl (fun _ => False) W).alloc (.cells #[.int .i64 k, .int .i64 0, .string (mk []), .slice (some ⟨g, off, none⟩) 1 c, .int .i64 0] 24)) d3
    have b4 := hold ((Foot.refl (fun _ => False) W).alloc (.cells #[.int .i64 k, .int .i64 0, .string (mk []), .slice (some ⟨g, off, none⟩) 1 c, .int .i64 0] 24)) d4
    clear d0 d1 d2 d3 d4 e0 e1 e2 e3 e4 hb0
    generalize W.alloc (.cells #[.int .i64 k, .int .i64 0, .string (mk []), .slice (some ⟨g, off, none⟩) 1 c, .int .i64 0] 24) = W1 at *
    have p0 : W1.cell? ⟨W.heap.size, 0, none⟩ = some (.int .i64 k) := p0
    have p3 : W1.cell? ⟨W.heap.size, 3, none⟩ = some (.slice (some ⟨g, off, none⟩) 1 c) := p3
    have HR : Hid (Foot (fun _ => False) W1 W1.drew) := Lib.hid ((Foot.refl (fun _ => False) W1).drew)
    have KEEP : ∀ w' : World, Hid (Foot (fun _ => False) W1 w') → (w'.cell? ⟨W.heap.size, 0, none⟩ = some (.int .i64 k) ∧ w'.cell? ⟨W.heap.size, 3, none⟩ = some (.slice (some ⟨g, off, none⟩) 1 c) ∧ w'.cell? ⟨g, off, none⟩ = some (.int .i64 k1) ∧ w'.cell? ⟨g, off + 1, none⟩ = some (.int .i64 n1) ∧
        w'.cell? ⟨g, off + 2, none⟩ = some (.string s2) ∧ w'.cell? ⟨g, off + 3, none⟩ = some (.slice a3 m3 c3) ∧ w'.cell? ⟨g, off + 4, none⟩ = some (.int .i64 n4) ∧ Hid (Foot (fun _ => False) W1 w')) := fun w' h => ⟨hold h.out p0, hold h.out p3, hold h.out b0, hold h.out b1, hold h.out b2, hold h.out b3, hold h.out b4, h⟩
    go_region_held3 (fun w' => w'.cell? ⟨W.heap.size, 0, none⟩ = some (.int .i64 k) ∧ w'.cell? ⟨W.heap.size, 3, none⟩ = some (.slice (some ⟨g, off, none⟩) 1 c) ∧ w'.cell? ⟨g, off, none⟩ = some (.int .i64 k1) ∧ w'.cell? ⟨g, off + 1, none⟩ = some (.int .i64 n1) ∧
        w'.cell? ⟨g, off + 2, none⟩ = some (.string s2) ∧ w'.cell? ⟨g, off + 3, none⟩ = some (.slice a3 m3 c3) ∧ w'.cell? ⟨g, off + 4, none⟩ = some (.int .i64 n4) ∧ Hid (Foot (fun _ => False) W1 w'))
      (exact KEEP _ (by assumption))
      (first
        | (go_at_call 28; (with_reducible refine (TX _).mono ?_); rintro e wt ⟨rfl, hFt⟩; have Et := holdF hFt (by assumption : Hid (Foot (fun _ => False) W1 _)))
        | (go_at_call 29; (with_reducible refine (KD _ (HE.out.trans (Hid.out (by assumption : Hid (Foot (fun _ => False) W1 _))) fun _ _ h => h)).mono ?_); rintro e wk ⟨rfl, hFk⟩; have Ek := holdF hFk (by assumption : Hid (Foot (fun _ => False) W1 _))))
    go_wp2_with fail
    go_ret
    rw [HW.out]
    exact ⟨rfl, HG.out.trans Ek.out fun _ _ h => h⟩
  · have hk9 : ((k : Int) == 5) = false := by rw [hk]; rfl
    have hk10 : ((k : Int) == 6) = true := by rw [hk]; rfl
    clear hk
    go_enter Tryd.func14, Tryd.ntmps14
    go_wp2_with (first | (go_at_call 26; refine (LV _).mono ?_; rintro e w' ⟨rfl, rfl⟩))
    have p0 := hb0.cell 0
    have p3 := hb0.cell 3
    have b0 := hold ((Foot.refl (fun _ => False) W).alloc (.cells #[.int .i64 k, .int .i64 0, .string (mk []), .slice (some ⟨g, off, none⟩) 1 c, .int .i64 0] 24)) d0
    have b1 := hold ((Foot.refl (fun _ => False) W).alloc (.cells #[.int .i64 k, .int .i64 0, .string (mk []), .slice (some ⟨g, off, none⟩) 1 c, .int .i64 0] 24)) d1
    have b2 := hold ((Foot.refl (fun _ => False) W).alloc (.cells #[.int .i64 k, .int .i64 0, .string (mk []), .slice (some ⟨g, off, none⟩) 1 c, .int .i64 0] 24)) d2
    have b3 := hold ((Foot.refl (fun _ => False) W).alloc (.cells #[.int .i64 k, .int .i64 0, .string (mk []), .slice (some ⟨g, off, none⟩) 1 c, .int .i64 0] 24)) d3
    have b4 := hold ((Foot.refl (fun _ => False) W).alloc (.cells #[.int .i64 k, .int .i64 0, .string (mk []), .slice (some ⟨g, off, none⟩) 1 c, .int .i64 0] 24)) d4
    clear d0 d1 d2 d3 d4 e0 e1 e2 e3 e4 hb0
    generalize W.alloc (.cells #[.int .i64 k, .int .i64 0, .string (mk []), .slice (some ⟨g, off, none⟩) 1 c, .int .i64 0] 24) = W1 at *
    have p0 : W1.cell? ⟨W.heap.size, 0, none⟩ = some (.int .i64 k) := p0
    have p3 : W1.cell? ⟨W.heap.size, 3, none⟩ = some (.slice (some ⟨g, off, none⟩) 1 c) := p3
    have HR : Hid (Foot (fun _ => False) W1 W1.drew) := Lib.hid ((Foot.refl (fun _ => False) W1).drew)
    have KEEP : ∀ w' : World, Hid (Foot (fun _ => False) W1 w') → (w'.cell? ⟨W.heap.size, 0, none⟩ = some (.int .i64 k) ∧ w'.cell? ⟨W.heap.size, 3, none⟩ = some (.slice (some ⟨g, off, none⟩) 1 c) ∧ w'.cell? ⟨g, off, none⟩ = some (.int .i64 k1) ∧ w'.cell? ⟨g, off + 1, none⟩ = some (.int .i64 n1) ∧
        w'.cell? ⟨g, off + 2, none⟩ = some (.string s2) ∧ w'.cell? ⟨g, off + 3, none⟩ = some (.slice a3 m3 c3) ∧ w'.cell? ⟨g, off + 4, none⟩ = some (.int .i64 n4) ∧ Hid (Foot (fun _ => False) W1 w')) := fun w' h => ⟨hold h.out p0, hold h.out p3, hold h.out b0, hold h.out b1, hold h.out b2, hold h.out b3, hold h.out b4, h⟩
    go_region_held3 (fun w' => w'.cell? ⟨W.heap.size, 0, none⟩ = some (.int .i64 k) ∧ w'.cell? ⟨W.heap.size, 3, none⟩ = some (.slice (some ⟨g, off, none⟩) 1 c) ∧ w'.cell? ⟨g, off, none⟩ = some (.int .i64 k1) ∧ w'.cell? ⟨g, off + 1, none⟩ = some (.int .i64 n1) ∧
        w'.cell? ⟨g, off + 2, none⟩ = some (.string s2) ∧ w'.cell? ⟨g, off + 3, none⟩ = some (.slice a3 m3 c3) ∧ w'.cell? ⟨g, off + 4, none⟩ = some (.int .i64 n4) ∧ Hid (Foot (fun _ => False) W1 w'))
      (exact KEEP _ (by assumption))
      (first
        | (go_at_call 28; (with_reducible refine (TX _).mono ?_); rintro e wt ⟨rfl, hFt⟩; have Et := holdF hFt (by assumption : Hid (Foot (fun _ => False) W1 _)))
        | (go_at_call 29; (with_reducible refine (KD _ (HE.out.trans (Hid.out (by assumption : Hid (Foot (fun _ => False) W1 _))) fun _ _ h => h)).mono ?_); rintro e wk ⟨rfl, hFk⟩; have Ek := holdF hFk (by assumption : Hid (Foot (fun _ => False) W1 _))))
    go_wp2_with fail
    go_ret
    rw [HW.out]
    exact ⟨rfl, HG.out.trans Ek.out fun _ _ h => h⟩

set_option maxHeartbeats 2000000 in
/-- An expression of two parts. -/
theorem prints_bin (k k1 k2 : Nat) (hk : 7 ≤ k ∧ k ≤ 19) (hk1 : 1 ≤ k1 ∧ k1 ≤ 19) (hk2 : 1 ≤ k2 ∧ k2 ≤ 19) (t1 t2 : Bytes) (ht1 : t1.length ≤ 1000000000) (ht2 : t2.length ≤ 1000000000) (W0 : World) (g off c : Nat)
    (n1 : Int) (s1 : ByteArray) (a1 : Option Addr) (m1 c1 : Nat) (r1 : Int) (n2 : Int) (s2 : ByteArray) (a2 : Option Addr) (m2 c2 : Nat) (r2 : Int) (hc : 2 ≤ c)
    (e0 : W0.cell? ⟨g, off, none⟩ = some (.int .i64 k1))
    (e1 : W0.cell? ⟨g, off + 1, none⟩ = some (.int .i64 n1))
    (e2 : W0.cell? ⟨g, off + 2, none⟩ = some (.string s1))
    (e3 : W0.cell? ⟨g, off + 3, none⟩ = some (.slice a1 m1 c1))
    (e4 : W0.cell? ⟨g, off + 4, none⟩ = some (.int .i64 r1))
    (e5 : W0.cell? ⟨g, off + 5, none⟩ = some (.int .i64 k2))
    (e6 : W0.cell? ⟨g, off + 6, none⟩ = some (.int .i64 n2))
    (e7 : W0.cell? ⟨g, off + 7, none⟩ = some (.string s2))
    (e8 : W0.cell? ⟨g, off + 8, none⟩ = some (.slice a2 m2 c2))
    (e9 : W0.cell? ⟨g, off + 9, none⟩ = some (.int .i64 r2))
    (hP1 : Prints W0 (.agg #[.int .i64 k1, .int .i64 n1, .string s1, .slice a1 m1 c1, .int .i64 r1]) t1) (hP2 : Prints W0 (.agg #[.int .i64 k2, .int .i64 n2, .string s2, .slice a2 m2 c2, .int .i64 r2]) t2) :
    Prints W0 (.agg #[.int .i64 k, .int .i64 0, .string (mk []), .slice (some ⟨g, off, none⟩) 2 c, .int .i64 0]) (wrapT (lev k1) (leftA k) t1 ++ [32] ++ opT k ++ [32] ++ wrapT (lev k2) (lev k + 1) t2) := by
  intro W hf
  have LV := fun W => level_c k W (by omega) (by omega)
  have TX := fun W => text_c k W (by omega)
  have KD1 := fun W hW => kid_c W0 _ _ _ _ _ k1 (leftA k) t1 (by omega) rfl ⟨n1, rfl⟩ ⟨s1, rfl⟩ ⟨a1, m1, c1, rfl⟩ ⟨r1, rfl⟩ hP1 ht1 W hW
  have KD2 := fun W hW => kid_c W0 _ _ _ _ _ k2 (lev k + 1) t2 (by omega) rfl ⟨n2, rfl⟩ ⟨s2, rfl⟩ ⟨a2, m2, c2, rfl⟩ ⟨r2, rfl⟩ hP2 ht2 W hW
  have hw1 := wrap_len (lev k1) (leftA k) t1
  have hw2 := wrap_len (lev k2) (lev k + 1) t2
  have ho := op_len k
  have hlv : 1 ≤ lev k ∧ lev k ≤ 7 := by unfold lev; repeat' split
                                         all_goals omega
  generalize wrapT (lev k1) (leftA k) t1 = q1 at *
  generalize wrapT (lev k2) (lev k + 1) t2 = q2 at *
  have HW := Lib.hid (show mk (q1 ++ [32] ++ opT k ++ [32] ++ q2) = mk q1 ++ ⟨#[32]⟩ ++ opS k ++ ⟨#[32]⟩ ++ mk q2 from (eq_mk (by rw [bs_append, bs_append, bs_append, bs_append]; rfl)).symm)
  generalize q1 ++ [32] ++ opT k ++ [32] ++ q2 = T at HW ⊢
  have hso : (opS k).size ≤ 2 := by rw [show (opS k).size = (opT k).length from mk_size _]; exact ho
  have hs1 : (mk q1).size ≤ 1000000002 := by rw [mk_size]; omega
  have hs2 : (mk q2).size ≤ 1000000002 := by rw [mk_size]; omega
  have hz1 : ¬ 9223372036854775807 < (mk q1).size + 1 := by omega
  have hz2 : ¬ 9223372036854775807 < (mk q1).size + 1 + (opS k).size := by omega
  have hz3 : ¬ 9223372036854775807 < (mk q1).size + 1 + (opS k).size + 1 := by omega
  have hz4 : ¬ 9223372036854775807 < (mk q1).size + 1 + (opS k).size + 1 + (mk q2).size := by omega
  have hleft : leftA k = if lev k = 3 then 4 else lev k := rfl
  generalize leftA k = la at *
  generalize lev k = l at *
  have hwl : IntKind.i64.wrap (l + 1) = l + 1 := by rw [IntKind.wrap_i64]; omega
  generalize opS k = os at *
  clear hso hs1 hs2
  have d0 := hold hf e0
  have d1 := hold hf e1
  have d2 := hold hf e2
  have d3 := hold hf e3
  have d4 := hold hf e4
  have d5 := hold hf e5
  have d6 := hold hf e6
  have d7 := hold hf e7
  have d8 := hold hf e8
  have d9 := hold hf e9
  have hg : g < W.heap.size := World.block_lt_of_cell? W _ d0
  have HE : Hid (Foot (fun _ => False) W0 _) := Lib.hid (hf.alloc (.cells #[.int .i64 k, .int .i64 0, .string (mk []), .slice (some ⟨g, off, none⟩) 2 c, .int .i64 0] 24))
  have HG := Lib.hid ((Foot.refl (fun _ => False) W).alloc (.cells #[.int .i64 k, .int .i64 0, .string (mk []), .slice (some ⟨g, off, none⟩) 2 c, .int .i64 0] 24))
  have hb0 := At.new W 24 #[.int .i64 k, .int .i64 0, .string (mk []), .slice (some ⟨g, off, none⟩) 2 c, .int .i64 0]
  have j1 : ((k : Int) == 1) = false := by rw [beq_eq_false_iff_ne]; omega
  have j2 : ((k : Int) == 2) = false := by rw [beq_eq_false_iff_ne]; omega
  have j3 : ((k : Int) == 3) = false := by rw [beq_eq_false_iff_ne]; omega
  have j4 : ((k : Int) == 4) = false := by rw [beq_eq_false_iff_ne]; omega
  have j5 : ((k : Int) == 5) = false := by rw [beq_eq_false_iff_ne]; omega
  have j6 : ((k : Int) == 6) = false := by rw [beq_eq_false_iff_ne]; omega
  clear hP1 hP2 hw1 hw2 ho hk1 hk2 ht1 ht2 hk
  by_cases hl3 : l = 3
  · have j7 : (l == 3) = true := by rw [hl3]; rfl
    obtain rfl : la = 4 := by rw [hleft, if_pos hl3]
    clear hl3 hleft
    go_enter Tryd.func14, Tryd.ntmps14
    go_wp2_with (first | (go_at_call 26; refine (LV _).mono ?_; rintro e w' ⟨rfl, rfl⟩))
    have p0 := hb0.cell 0
    have p3 := hb0.cell 3
    have b0 := hold ((Foot.refl (fun _ => False) W).alloc (.cells #[.int .i64 k, .int .i64 0, .string (mk []), .slice (some ⟨g, off, none⟩) 2 c, .int .i64 0] 24)) d0
    have b1 := hold ((Foot.refl (fun _ => False) W).alloc (.cells #[.int .i64 k, .int .i64 0, .string (mk []), .slice (some ⟨g, off, none⟩) 2 c, .int .i64 0] 24)) d1
    have b2 := hold ((Foot.refl (fun _ => False) W).alloc (.cells #[.int .i64 k, .int .i64 0, .string (mk []), .slice (some ⟨g, off, none⟩) 2 c, .int .i64 0] 24)) d2
    have b3 := hold ((Foot.refl (fun _ => False) W).alloc (.cells #[.int .i64 k, .int .i64 0, .string (mk []), .slice (some ⟨g, off, none⟩) 2 c, .int .i64 0] 24)) d3
    have b4 := hold ((Foot.refl (fun _ => False) W).alloc (.cells #[.int .i64 k, .int .i64 0, .string (mk []), .slice (some ⟨g, off, none⟩) 2 c, .int .i64 0] 24)) d4
    have b5 := hold ((Foot.refl (fun _ => False) W).alloc (.cells #[.int .i64 k, .int .i64 0, .string (mk []), .slice (some ⟨g, off, none⟩) 2 c, .int .i64 0] 24)) d5
    have b6 := hold ((Foot.refl (fun _ => False) W).alloc (.cells #[.int .i64 k, .int .i64 0, .string (mk []), .slice (some ⟨g, off, none⟩) 2 c, .int .i64 0] 24)) d6
    have b7 := hold ((Foot.refl (fun _ => False) W).alloc (.cells #[.int .i64 k, .int .i64 0, .string (mk []), .slice (some ⟨g, off, none⟩) 2 c, .int .i64 0] 24)) d7
    have b8 := hold ((Foot.refl (fun _ => False) W).alloc (.cells #[.int .i64 k, .int .i64 0, .string (mk []), .slice (some ⟨g, off, none⟩) 2 c, .int .i64 0] 24)) d8
    have b9 := hold ((Foot.refl (fun _ => False) W).alloc (.cells #[.int .i64 k, .int .i64 0, .string (mk []), .slice (some ⟨g, off, none⟩) 2 c, .int .i64 0] 24)) d9
    clear hb0 d0 d1 d2 d3 d4 d5 d6 d7 d8 d9 e0 e1 e2 e3 e4 e5 e6 e7 e8 e9
    generalize W.alloc (.cells #[.int .i64 k, .int .i64 0, .string (mk []), .slice (some ⟨g, off, none⟩) 2 c, .int .i64 0] 24) = W1 at *
    have p0 : W1.cell? ⟨W.heap.size, 0, none⟩ = some (.int .i64 k) := p0
    have p3 : W1.cell? ⟨W.heap.size, 3, none⟩ = some (.slice (some ⟨g, off, none⟩) 2 c) := p3
    have HR : Hid (Foot (fun _ => False) W1 W1.drew) := Lib.hid ((Foot.refl (fun _ => False) W1).drew)
    have KEEP : ∀ w' : World, Hid (Foot (fun _ => False) W1 w') → (w'.cell? ⟨W.heap.size, 0, none⟩ = some (.int .i64 k) ∧ w'.cell? ⟨W.heap.size, 3, none⟩ = some (.slice (some ⟨g, off, none⟩) 2 c) ∧ w'.cell? ⟨g, off, none⟩ = some (.int .i64 k1) ∧ w'.cell? ⟨g, off + 1, none⟩ = some (.int .i64 n1) ∧ w'.cell? ⟨g, off + 2, none⟩ = some (.string s1) ∧ w'.cell? ⟨g, off + 3, none⟩ = some (.slice a1 m1 c1) ∧ w'.cell? ⟨g, off + 4, none⟩ = some (.int .i64 r1) ∧ w'.cell? ⟨g, off + 5, none⟩ = some (.int .i64 k2) ∧ w'.cell? ⟨g, off + 6, none⟩ = some (.int .i64 n2) ∧ w'.cell? ⟨g, off + 7, none⟩ = some (.string s2) ∧ w'.cell? ⟨g, off + 8, none⟩ = some (.slice a2 m2 c2) ∧ w'.cell? ⟨g, off + 9, none⟩ = some (.int .i64 r2) ∧ Hid (Foot (fun _ => False) W1 w')) := fun w' h => ⟨hold h.out p0, hold h.out p3, hold h.out b0, hold h.out b1, hold h.out b2, hold h.out b3, hold h.out b4, hold h.out b5, hold h.out b6, hold h.out b7, hold h.out b8, hold h.out b9, h⟩
    go_region_held3 (fun w' => w'.cell? ⟨W.heap.size, 0, none⟩ = some (.int .i64 k) ∧ w'.cell? ⟨W.heap.size, 3, none⟩ = some (.slice (some ⟨g, off, none⟩) 2 c) ∧ w'.cell? ⟨g, off, none⟩ = some (.int .i64 k1) ∧ w'.cell? ⟨g, off + 1, none⟩ = some (.int .i64 n1) ∧ w'.cell? ⟨g, off + 2, none⟩ = some (.string s1) ∧ w'.cell? ⟨g, off + 3, none⟩ = some (.slice a1 m1 c1) ∧ w'.cell? ⟨g, off + 4, none⟩ = some (.int .i64 r1) ∧ w'.cell? ⟨g, off + 5, none⟩ = some (.int .i64 k2) ∧ w'.cell? ⟨g, off + 6, none⟩ = some (.int .i64 n2) ∧ w'.cell? ⟨g, off + 7, none⟩ = some (.string s2) ∧ w'.cell? ⟨g, off + 8, none⟩ = some (.slice a2 m2 c2) ∧ w'.cell? ⟨g, off + 9, none⟩ = some (.int .i64 r2) ∧ Hid (Foot (fun _ => False) W1 w'))
      (exact KEEP _ (by assumption))
      (first
        | (go_at_call 28; (with_reducible refine (TX _).mono ?_); rintro e wt ⟨rfl, hFt⟩; have Et := holdF hFt (by assumption : Hid (Foot (fun _ => False) W1 _)))
        | (go_at_call 29; (with_reducible refine (KD1 _ (HE.out.trans (Hid.out (by assumption : Hid (Foot (fun _ => False) W1 _))) fun _ _ h => h)).mono ?_); rintro e wk ⟨rfl, hFk⟩; have Ek := holdF hFk (by assumption : Hid (Foot (fun _ => False) W1 _)))
        | (go_at_call 29; (with_reducible refine (KD2 _ (HE.out.trans (Hid.out (by assumption : Hid (Foot (fun _ => False) W1 _))) fun _ _ h => h)).mono ?_); rintro e wl ⟨rfl, hFl⟩; have El := holdF hFl (by assumption : Hid (Foot (fun _ => False) W1 _))))
    go_wp2_with fail
    go_ret
    rw [HW.out]
    exact ⟨rfl, HG.out.trans El.out fun _ _ h => h⟩
  · have j7 : (l == 3) = false := by rw [beq_eq_false_iff_ne]; exact hl3
    obtain rfl : la = l := by rw [hleft, if_neg hl3]
    clear hl3 hleft
    go_enter Tryd.func14, Tryd.ntmps14
    go_wp2_with (first | (go_at_call 26; refine (LV _).mono ?_; rintro e w' ⟨rfl, rfl⟩))
    have p0 := hb0.cell 0
    have p3 := hb0.cell 3
    have b0 := hold ((Foot.refl (fun _ => False) W).alloc (.cells #[.int .i64 k, .int .i64 0, .string (mk []), .slice (some ⟨g, off, none⟩) 2 c, .int .i64 0] 24)) d0
    have b1 := hold ((Foot.refl (fun _ => False) W).alloc (.cells #[.int .i64 k, .int .i64 0, .string (mk []), .slice (some ⟨g, off, none⟩) 2 c, .int .i64 0] 24)) d1
    have b2 := hold ((Foot.refl (fun _ => False) W).alloc (.cells #[.int .i64 k, .int .i64 0, .string (mk []), .slice (some ⟨g, off, none⟩) 2 c, .int .i64 0] 24)) d2
    have b3 := hold ((Foot.refl (fun _ => False) W).alloc (.cells #[.int .i64 k, .int .i64 0, .string (mk []), .slice (some ⟨g, off, none⟩) 2 c, .int .i64 0] 24)) d3
    have b4 := hold ((Foot.refl (fun _ => False) W).alloc (.cells #[.int .i64 k, .int .i64 0, .string (mk []), .slice (some ⟨g, off, none⟩) 2 c, .int .i64 0] 24)) d4
    have b5 := hold ((Foot.refl (fun _ => False) W).alloc (.cells #[.int .i64 k, .int .i64 0, .string (mk []), .slice (some ⟨g, off, none⟩) 2 c, .int .i64 0] 24)) d5
    have b6 := hold ((Foot.refl (fun _ => False) W).alloc (.cells #[.int .i64 k, .int .i64 0, .string (mk []), .slice (some ⟨g, off, none⟩) 2 c, .int .i64 0] 24)) d6
    have b7 := hold ((Foot.refl (fun _ => False) W).alloc (.cells #[.int .i64 k, .int .i64 0, .string (mk []), .slice (some ⟨g, off, none⟩) 2 c, .int .i64 0] 24)) d7
    have b8 := hold ((Foot.refl (fun _ => False) W).alloc (.cells #[.int .i64 k, .int .i64 0, .string (mk []), .slice (some ⟨g, off, none⟩) 2 c, .int .i64 0] 24)) d8
    have b9 := hold ((Foot.refl (fun _ => False) W).alloc (.cells #[.int .i64 k, .int .i64 0, .string (mk []), .slice (some ⟨g, off, none⟩) 2 c, .int .i64 0] 24)) d9
    clear hb0 d0 d1 d2 d3 d4 d5 d6 d7 d8 d9 e0 e1 e2 e3 e4 e5 e6 e7 e8 e9
    generalize W.alloc (.cells #[.int .i64 k, .int .i64 0, .string (mk []), .slice (some ⟨g, off, none⟩) 2 c, .int .i64 0] 24) = W1 at *
    have p0 : W1.cell? ⟨W.heap.size, 0, none⟩ = some (.int .i64 k) := p0
    have p3 : W1.cell? ⟨W.heap.size, 3, none⟩ = some (.slice (some ⟨g, off, none⟩) 2 c) := p3
    have HR : Hid (Foot (fun _ => False) W1 W1.drew) := Lib.hid ((Foot.refl (fun _ => False) W1).drew)
    have KEEP : ∀ w' : World, Hid (Foot (fun _ => False) W1 w') → (w'.cell? ⟨W.heap.size, 0, none⟩ = some (.int .i64 k) ∧ w'.cell? ⟨W.heap.size, 3, none⟩ = some (.slice (some ⟨g, off, none⟩) 2 c) ∧ w'.cell? ⟨g, off, none⟩ = some (.int .i64 k1) ∧ w'.cell? ⟨g, off + 1, none⟩ = some (.int .i64 n1) ∧ w'.cell? ⟨g, off + 2, none⟩ = some (.string s1) ∧ w'.cell? ⟨g, off + 3, none⟩ = some (.slice a1 m1 c1) ∧ w'.cell? ⟨g, off + 4, none⟩ = some (.int .i64 r1) ∧ w'.cell? ⟨g, off + 5, none⟩ = some (.int .i64 k2) ∧ w'.cell? ⟨g, off + 6, none⟩ = some (.int .i64 n2) ∧ w'.cell? ⟨g, off + 7, none⟩ = some (.string s2) ∧ w'.cell? ⟨g, off + 8, none⟩ = some (.slice a2 m2 c2) ∧ w'.cell? ⟨g, off + 9, none⟩ = some (.int .i64 r2) ∧ Hid (Foot (fun _ => False) W1 w')) := fun w' h => ⟨hold h.out p0, hold h.out p3, hold h.out b0, hold h.out b1, hold h.out b2, hold h.out b3, hold h.out b4, hold h.out b5, hold h.out b6, hold h.out b7, hold h.out b8, hold h.out b9, h⟩
    go_region_held3 (fun w' => w'.cell? ⟨W.heap.size, 0, none⟩ = some (.int .i64 k) ∧ w'.cell? ⟨W.heap.size, 3, none⟩ = some (.slice (some ⟨g, off, none⟩) 2 c) ∧ w'.cell? ⟨g, off, none⟩ = some (.int .i64 k1) ∧ w'.cell? ⟨g, off + 1, none⟩ = some (.int .i64 n1) ∧ w'.cell? ⟨g, off + 2, none⟩ = some (.string s1) ∧ w'.cell? ⟨g, off + 3, none⟩ = some (.slice a1 m1 c1) ∧ w'.cell? ⟨g, off + 4, none⟩ = some (.int .i64 r1) ∧ w'.cell? ⟨g, off + 5, none⟩ = some (.int .i64 k2) ∧ w'.cell? ⟨g, off + 6, none⟩ = some (.int .i64 n2) ∧ w'.cell? ⟨g, off + 7, none⟩ = some (.string s2) ∧ w'.cell? ⟨g, off + 8, none⟩ = some (.slice a2 m2 c2) ∧ w'.cell? ⟨g, off + 9, none⟩ = some (.int .i64 r2) ∧ Hid (Foot (fun _ => False) W1 w'))
      (exact KEEP _ (by assumption))
      (first
        | (go_at_call 28; (with_reducible refine (TX _).mono ?_); rintro e wt ⟨rfl, hFt⟩; have Et := holdF hFt (by assumption : Hid (Foot (fun _ => False) W1 _)))
        | (go_at_call 29; (with_reducible refine (KD1 _ (HE.out.trans (Hid.out (by assumption : Hid (Foot (fun _ => False) W1 _))) fun _ _ h => h)).mono ?_); rintro e wk ⟨rfl, hFk⟩; have Ek := holdF hFk (by assumption : Hid (Foot (fun _ => False) W1 _)))
        | (go_at_call 29; (with_reducible refine (KD2 _ (HE.out.trans (Hid.out (by assumption : Hid (Foot (fun _ => False) W1 _))) fun _ _ h => h)).mono ?_); rintro e wl ⟨rfl, hFl⟩; have El := holdF hFl (by assumption : Hid (Foot (fun _ => False) W1 _))))
    go_wp2_with fail
    go_ret
    rw [HW.out]
    exact ⟨rfl, HG.out.trans El.out fun _ _ h => h⟩
end Go.Proofs.YtdibkgjldmepcaaDoor.Gen
