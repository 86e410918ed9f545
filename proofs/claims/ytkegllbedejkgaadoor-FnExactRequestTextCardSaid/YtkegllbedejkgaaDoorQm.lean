/- RequestText of the model, given what its parts say. -/
import Derived.Test.YtkegllbedejkgaaDoorQi
namespace Go.Proofs.YtkegllbedejkgaaDoor.Ix
open Go.ChangeShapes Go.WideShapes Go.ChangeAt Go.RowKit
attribute [local go_sem ↓] Go.wp_at_zero Go.wp_at_succ
/-- the first k parts, as they are joined -/
def jn (D : List (List UInt8)) (k : Nat) : List UInt8 := Lib.join (kept (D.take k)) [44]
theorem kept_snoc (D : List (List UInt8)) (x : List UInt8) : kept (D ++ [x]) = if x.isEmpty then kept D else kept D ++ [x] := by
  unfold kept
  rw [List.filter_append]
  cases h : x.isEmpty <;> simp [h]
theorem kept_ne (D : List (List UInt8)) : ∀ x, x ∈ kept D → x.isEmpty = false := fun x hx => by
  have := (List.mem_filter.1 hx).2
  simpa using this
theorem join_emp (D : List (List UInt8)) (h : ∀ x, x ∈ D → x.isEmpty = false) : (Lib.join D [44]).isEmpty = D.isEmpty := by
  cases D with
  | nil => rfl
  | cons x r =>
    have h1 := h x (by simp)
    rw [Lib.join_cons]
    cases x with
    | nil => simp at h1
    | cons c y => rfl
theorem jn_take (D : List (List UInt8)) (k : Nat) (h : k < D.length) : D.take (k + 1) = D.take k ++ [D.getD k []] := by
  rw [List.take_add_one]
  simp [List.getD_eq_getElem?_getD, h]
theorem jn_no (D : List (List UInt8)) (k : Nat) (h : k < D.length) (hx : (D.getD k []).isEmpty = true) : jn D (k + 1) = jn D k ++ D.getD k [] := by
  unfold jn
  rw [jn_take D k h, kept_snoc, if_pos hx]
  have : D.getD k [] = [] := by simpa using hx
  rw [this, List.append_nil]
theorem jn_first (D : List (List UInt8)) (k : Nat) (h : k < D.length) (hx : (D.getD k []).isEmpty = false) (h0 : (jn D k).isEmpty = true) : jn D (k + 1) = jn D k ++ D.getD k [] := by
  have e0 : jn D k = [] := by simpa using h0
  unfold jn at h0 e0 ⊢
  rw [join_emp _ (kept_ne _)] at h0
  have e1 : kept (D.take k) = [] := by simpa using h0
  rw [jn_take D k h, kept_snoc, hx, e1]
  simp [Lib.join_one, Lib.join_nil]
theorem jn_more (D : List (List UInt8)) (k : Nat) (h : k < D.length) (hx : (D.getD k []).isEmpty = false) (h0 : (jn D k).isEmpty = false) : jn D (k + 1) = jn D k ++ [44] ++ D.getD k [] := by
  unfold jn at h0 ⊢
  rw [join_emp _ (kept_ne _)] at h0
  have e1 : kept (D.take k) ≠ [] := by intro e; rw [e] at h0; cases h0
  rw [jn_take D k h, kept_snoc, hx]
  show Lib.join (kept (D.take k) ++ [D.getD k []]) [44] = _
  rw [join_snoc, if_neg e1]
theorem jn_len (D : List (List UInt8)) (h : ∀ x, x ∈ D → x.length ≤ 1000) (h4 : D.length ≤ 4) (k : Nat) : (jn D k).length ≤ 4004 := by
  have h1 : (kept (D.take k)).length ≤ 4 := Nat.le_trans (List.length_filter_le _ _) (by rw [List.length_take]; omega)
  have := join_le (kept (D.take k)) fun x hx => h x (List.mem_of_mem_take (List.mem_filter.1 hx).1)
  unfold jn
  omega
theorem cat3 (x y : List UInt8) : (⟨x.toArray⟩ : ByteArray) ++ ⟨y.toArray⟩ = ⟨(x ++ y).toArray⟩ := Dec.cat x y

set_option maxRecDepth 4000 in
set_option maxHeartbeats 2000000 in
theorem sreq_yes (pa ta sa la : Option Addr) (np pc nt tc ns sc nl lc : Nat) (P Ti S Lv : List UInt8) (f : Int → ByteArray) (Tm : List Int) (DS DL : List ByteArray) (w : World) (hn : nt = Tm.length) (hn40 : nt ≤ 40)
    (RT : Lists.Reads w (.slice ta nt tc) Tm)
    (C0 : Hid (∀ W, Below w.heap.size w W → Calls Tryd.prog 11 #[.agg #[.slice pa np pc, .slice ta nt tc, .slice sa ns sc, .slice la nl lc]] W fun e w' => e = .returned (.bool true) ∧ Below W.heap.size W w'))
    (CS : ∀ i, i < nt → ∀ w, Calls Tryd.prog 12 #[.int .i64 (Tm.getD i 0)] w fun e w' => e = .returned (.string (f (Tm.getD i 0))) ∧ Below w.heap.size w w')
    (HP : Hid (∀ W, Below w.heap.size w W → Calls Tryd.prog 13 #[.string ⟨#[112, 97, 114, 97, 109]⟩, .slice pa np pc] W fun e w' => e = .returned (.string ⟨P.toArray⟩) ∧ w' = W))
    (HT : Hid (∀ W v, Reads W v (Tm.map f) → Calls Tryd.prog 13 #[.string ⟨#[116, 105, 109, 101]⟩, v] W fun e w' => e = .returned (.string ⟨Ti.toArray⟩) ∧ w' = W))
    (HD : Hid (∀ W, Below w.heap.size w W → Calls Tryd.prog 14 #[.slice sa ns sc] W fun e w' => (∃ v', e = .returned v' ∧ Reads w' v' DS) ∧ Below W.heap.size W w'))
    (HS : Hid (∀ W v, Reads W v DS → Calls Tryd.prog 13 #[.string ⟨#[115, 116, 101, 112]⟩, v] W fun e w' => e = .returned (.string ⟨S.toArray⟩) ∧ w' = W))
    (HE : Hid (∀ W, Below w.heap.size w W → Calls Tryd.prog 14 #[.slice la nl lc] W fun e w' => (∃ v', e = .returned v' ∧ Reads w' v' DL) ∧ Below W.heap.size W w'))
    (HL : Hid (∀ W v, Reads W v DL → Calls Tryd.prog 13 #[.string ⟨#[108, 101, 118, 101, 108]⟩, v] W fun e w' => e = .returned (.string ⟨Lv.toArray⟩) ∧ w' = W))
    (hl : Hid (∀ x, x ∈ [P, Ti, S, Lv] → x.length ≤ 1000)) :
    Calls Tryd.prog 5 #[.agg #[.slice pa np pc, .slice ta nt tc, .slice sa ns sc, .slice la nl lc]] w fun e w' => e = .returned (.string ⟨(Lib.join (kept [P, Ti, S, Lv]) [44]).toArray⟩) ∧ Below w.heap.size w w' := by
  have B0 : Below w.heap.size w (w.alloc (Obj.cells #[.slice pa np pc, .slice ta nt tc, .slice sa ns sc, .slice la nl lc] 28)) := (Below.refl _ _).alloc (Nat.le_refl _) _
  obtain ⟨D, hD⟩ : ∃ D, D = [P, Ti, S, Lv] := ⟨_, rfl⟩
  have HDD : Hid (D = [P, Ti, S, Lv]) := hD
  have EJ : Hid (jn D 4 = Lib.join (kept [P, Ti, S, Lv]) [44]) := (by show _ = _; rw [hD]; rfl)
  rw [← EJ.out]
  have HC : Hid (∀ wr, Below w.heap.size w wr → ∀ i, i < nt → ∃ b o, ta = some ⟨b, o, none⟩ ∧ wr.cell? ⟨b, o + i, none⟩ = some (.int .i64 (Tm.getD i 0))) := ireads_cells RT hn
  have HT0 : Hid (∀ k, k < nt → (Tm.take (k + 1)).map f = (Tm.take k).map f ++ [f (Tm.getD k 0)]) := fun k hk => taken f Tm k (by omega)
  have CC : Hid (∀ i, i < nt → ∀ w, Calls Tryd.prog 12 #[.int .i64 (Tm.getD i 0)] w fun e w' => e = .returned (.string (f (Tm.getD i 0))) ∧ Below w.heap.size w w') := CS
  have HEQ : Hid ((Tm.take nt).map f = Tm.map f) := (by show _ = _; rw [hn, List.take_length])
  have HM : Hid (nt = (Tm.map f).length) := (by show _ = _; rw [List.length_map]; exact hn)
  have HJ : Hid (∀ k, (jn D k).length ≤ 4004) := (by rw [hD]; exact fun k => jn_len _ hl.out (by simp) k)
  obtain ⟨i0, hi, hz0, hz1, hz2⟩ := info_parts Tryd.info9
  clear RT hn CS hD
  go_enter Tryd.func5, Tryd.ntmps5
  go_wp2_with fail
  refine (C0.out _ B0).mono ?_
  rintro e w1 ⟨rfl, hb⟩
  have hz : w.heap.size < (w.alloc (Obj.cells #[.slice pa np pc, .slice ta nt tc, .slice sa ns sc, .slice la nl lc] 28)).heap.size := by simp
  obtain ⟨k0, k1, k2, k3, k4⟩ := keep4 (g := w.heap.size) (v0 := .slice pa np pc) (v1 := .slice ta nt tc) (v2 := .slice sa ns sc) (v3 := .slice la nl lc) hb hz (by simp [go_sem]) (by simp [go_sem]) (by simp [go_sem]) (by simp [go_sem])
  have B1 : Below w.heap.size w w1 := B0.trans (hb.mono B0.size)
  have HK : Hid (∀ wr, Below (w.heap.size + 1) w1 wr → wr.cell? ⟨w.heap.size, 0, none⟩ = some (.slice pa np pc) ∧ wr.cell? ⟨w.heap.size, 1, none⟩ = some (.slice ta nt tc) ∧ wr.cell? ⟨w.heap.size, 2, none⟩ = some (.slice sa ns sc) ∧ wr.cell? ⟨w.heap.size, 3, none⟩ = some (.slice la nl lc)) := fun wr hb => ⟨(hb.cell (p := ⟨w.heap.size, 0, none⟩) (Nat.lt_succ_self _)).trans k0, (hb.cell (p := ⟨w.heap.size, 1, none⟩) (Nat.lt_succ_self _)).trans k1, (hb.cell (p := ⟨w.heap.size, 2, none⟩) (Nat.lt_succ_self _)).trans k2, (hb.cell (p := ⟨w.heap.size, 3, none⟩) (Nat.lt_succ_self _)).trans k3⟩
  have HB1 : Hid (Below w.heap.size w w1 ∧ w.heap.size + 1 ≤ w1.heap.size) := ⟨B1, k4⟩
  have R0 : Hid ((w1.alloc (Obj.cells #[] 9)).ownsRow (w.heap.size + 1) 9 1 (.slice (some ⟨w1.heap.size, 0, none⟩) 0 0) 0 (strs [])) := World.ownsRow_lit w1 #[] 0 k4 (Nat.zero_le _) rfl
  have BW0 : Hid (Below (w.heap.size + 1) w1 (w1.alloc (Obj.cells #[] 9))) := (Below.refl _ _).alloc k4 _
  clear hb hz B0 C0 k0 k1 k2 k3 k4 B1
  go_wp2_with fail
  go_loopw [3, 4] (fun u i wr => ∃ (k : Nat) (W : List ByteArray), k ≤ nt ∧ i = .int .i64 k ∧ Hid (W = (Tm.take k).map f) ∧ W.length = k ∧ Hid (wr.ownsRow (w.heap.size + 1) 9 1 u k (strs W)) ∧ Hid (Below (w.heap.size + 1) w1 wr)) (fun _ i _ => nt - (intOf i).toNat)
  case atStart => exact ⟨0, [], Nat.zero_le _, rfl, by show _ = _; simp, rfl, R0, BW0⟩
  case round =>
    clear R0 BW0
    obtain ⟨k, W, hk, rfl, hW, hWl, R, BB⟩ := hrel
    obtain ⟨v, hv⟩ : ∃ v, v = u3 := ⟨_, rfl⟩
    subst hv
    obtain ⟨sb, sd, hv⟩ : ∃ a c, v = .slice a k c := by
      have := sreads_row (L := W) (by rw [hWl]; exact R.out)
      obtain ⟨a, c, e⟩ := this.form
      rw [hWl] at e
      exact ⟨a, c, e⟩
    subst hv
    have BS : Hid (Below w.heap.size w wr) := HB1.out.1.trans (BB.out.mono (Nat.le_succ _))
    obtain ⟨k0, k1, k2, k3⟩ := HK.out wr BB.out
    by_cases hlt : k < nt
    · have i2 : (k : Int) < (nt : Int) := by omega
      have i1 : (0 : Int) ≤ (k : Int) := by omega
      obtain ⟨b, o, rfl, q0⟩ := HC.out wr BS.out k hlt
      have C1 : Hid (∀ w, Calls Tryd.prog 12 #[.int .i64 (Tm.getD k 0)] w fun e w' => e = .returned (.string (f (Tm.getD k 0))) ∧ Below w.heap.size w w') := CC.out k hlt
      have HT1 : Hid ((Tm.take (k + 1)).map f = (Tm.take k).map f ++ [f (Tm.getD k 0)]) := HT0.out k hlt
      generalize f (Tm.getD k 0) = y at *
      generalize Tm.getD k 0 = x at *
      go_wp2_with fail
      refine (C1.out _).mono ?_
      rintro e w2 ⟨rfl, hb⟩
      have z1 := BB.out.size
      have z0 := HB1.out.2
      have B2 : Hid (Below (w.heap.size + 1) w1 w2) := BB.out.trans (hb.mono (by omega))
      have R2 : Hid (w2.ownsRow (w.heap.size + 1) 9 1 (.slice sb k sd) k (strs W)) := En.row_below R.out hb
      have z2 := B2.out.size
      clear hb R BB C1 BS k0 k1 k2 k3
      go_wp2_with (at_builtin; refine wpList_append_own _ rfl _ _ 22 rfl (w.heap.size + 1) 9 i0 (.string ⟨#[]⟩) 1 16 Tryd.underlying22 hi hz0 hz1 hz2 rfl (by decide) _ _ _ rfl (R2.out.alloc _) ⟨w2.heap.size, 0, none⟩ 1 1 [.string y] rfl rfl (lit_cell w2 y) (by intro u hu; simp at hu; subst hu; rfl) (by unfold maxLen; omega) (by omega) (by simp; omega) ?_)
      · intro v' w3 hown hgrow _
        have R3 : Hid (w3.ownsRow (w.heap.size + 1) 9 1 v' (k + 1) (strs (W ++ [y]))) := (by show World.ownsRow _ _ _ _ _ _ _; rw [strs, List.map_append]; exact hown)
        have B3 : Hid (Below (w.heap.size + 1) w1 w3) := (B2.out.alloc (by omega) _).grown hgrow (by simp; omega) (fun b hb => (R2.out.lt b hb).1)
        have W3 : Hid (W ++ [y] = (Tm.take (k + 1)).map f) := (by show _ = _; rw [HT1.out, hW.out])
        clear hown hgrow R2 B2 hW HT1
        go_wp2_with fail
        go_roundw
        case rel => exact ⟨k + 1, W ++ [y], by omega, by go_num, W3, by simp [hWl], R3, B3⟩
        case measure => simp [intOf]; omega
    · have hkn : k = nt := by omega
      subst hkn
      have jj : ¬ (k : Int) < (k : Int) := by omega
      have RR : Reads wr (.slice sb k sd) (Tm.map f) := (by
        rw [← HEQ.out, ← hW.out]
        exact sreads_row (by rw [hWl]; exact R.out))
      obtain ⟨U, hU⟩ : ∃ U : World → Prop, U = fun W => Below w.heap.size w W ∧ Reads W (.slice sb k sd) (Tm.map f) := ⟨_, rfl⟩
      have HU : Hid (∀ a b, U a → Below a.heap.size a b → U b) := (by
        subst hU
        exact fun a b h hb => ⟨h.1.trans (hb.mono h.1.size), h.2.on hb⟩)
      have HP : Hid (∀ W, U W → Calls Tryd.prog 13 #[.string ⟨#[112, 97, 114, 97, 109]⟩, .slice pa np pc] W fun e w' => e = .returned (.string ⟨P.toArray⟩) ∧ w' = W) := fun W h => HP.out W (by rw [hU] at h; exact h.1)
      have HT2 : Hid (∀ W, U W → Calls Tryd.prog 13 #[.string ⟨#[116, 105, 109, 101]⟩, .slice sb k sd] W fun e w' => e = .returned (.string ⟨Ti.toArray⟩) ∧ w' = W) := fun W h => HT.out W _ (by rw [hU] at h; exact h.2)
      have HD : Hid (∀ W, U W → Calls Tryd.prog 14 #[.slice sa ns sc] W fun e w' => (∃ v', e = .returned v' ∧ Reads w' v' DS) ∧ Below W.heap.size W w') := fun W h => HD.out W (by rw [hU] at h; exact h.1)
      have HE : Hid (∀ W, U W → Calls Tryd.prog 14 #[.slice la nl lc] W fun e w' => (∃ v', e = .returned v' ∧ Reads w' v' DL) ∧ Below W.heap.size W w') := fun W h => HE.out W (by rw [hU] at h; exact h.1)
      have k4 : w.heap.size < wr.heap.size := (by have := BB.out.size; have := HB1.out.2; omega)
      have hUr : U wr.drew := (by rw [hU]; exact ⟨BS.out.drew, RR.on (Below.refl _ _).drew⟩)
      clear HC HT0 CC HEQ HM HK hW R RR BB hU
      go_upto_region 8 with fail
      go_cut [5] (fun s wx => ∃ b wq, s = .slice (some ⟨b, 0, none⟩) 4 4 ∧ wq = wx ∧ Hid (Below w.heap.size w wx ∧ Sort.Holds enB wx b 0 [P, Ti, S, Lv].toArray))
      case first =>
        go_region_held3 (fun w' => w'.cell? ⟨w.heap.size, 0, none⟩ = some (.slice pa np pc) ∧ w'.cell? ⟨w.heap.size, 1, none⟩ = some (.slice ta k tc) ∧ w'.cell? ⟨w.heap.size, 2, none⟩ = some (.slice sa ns sc) ∧ w'.cell? ⟨w.heap.size, 3, none⟩ = some (.slice la nl lc))
          (go_keep)
          (first
          | (go_at_call_of 13 (Value.string ⟨#[112, 97, 114, 97, 109]⟩); refine (HP.out _ (by assumption)).mono ?_; rintro e x ⟨rfl, hx⟩; subst x)
          | (go_at_call_of 13 (Value.string ⟨#[116, 105, 109, 101]⟩); refine (HT2.out _ (by assumption)).mono ?_; rintro e x ⟨rfl, hx⟩; subst x)
          | (go_at_call_of 14 (Value.slice sa ns sc); refine (HD.out _ (by assumption)).mono ?_; rintro e w5 ⟨⟨v5, rfl, r5⟩, hb5⟩; (have tk5 : U w5 := HU.out _ _ (by assumption) hb5); (have tt := keep4 (g := w.heap.size) (v0 := .slice pa np pc) (v1 := .slice ta k tc) (v2 := .slice sa ns sc) (v3 := .slice la nl lc) hb5 (by first | assumption | (simp; done) | omega | (simp; omega)) (by go_simp) (by go_simp) (by go_simp) (by go_simp)); obtain ⟨a50, a51, a52, a53, a54⟩ := tt)
          | (go_at_call_of 13 (Value.string ⟨#[115, 116, 101, 112]⟩); refine (HS.out _ v5 (by first | assumption | exact Reads.on (by assumption) (by assumption))).mono ?_; rintro e x ⟨rfl, hx⟩; subst x)
          | (go_at_call_of 14 (Value.slice la nl lc); refine (HE.out _ (by assumption)).mono ?_; rintro e w6 ⟨⟨v6, rfl, r6⟩, hb6⟩; (have tk6 : U w6 := HU.out _ _ (by assumption) hb6); (have tt := keep4 (g := w.heap.size) (v0 := .slice pa np pc) (v1 := .slice ta k tc) (v2 := .slice sa ns sc) (v3 := .slice la nl lc) hb6 (by first | assumption | (simp; done) | omega | (simp; omega)) (by go_simp) (by go_simp) (by go_simp) (by go_simp)); obtain ⟨a60, a61, a62, a63, a64⟩ := tt)
          | (go_at_call_of 13 (Value.string ⟨#[108, 101, 118, 101, 108]⟩); refine (HL.out _ v6 (by first | assumption | exact Reads.on (by assumption) (by assumption))).mono ?_; rintro e x ⟨rfl, hx⟩; subst x))
        have B5 : Below w.heap.size w w5 := BS.out.drew.trans (hb5.mono (by have := BS.out.size; simpa using this))
        have z5 := B5.size
        have B6 : Below w.heap.size w w6 := B5.trans (hb6.mono z5)
        have z6 := B6.size
        go_wp2_with fail
        go_meet
        exact ⟨_, _, rfl, rfl, B6.alloc z6 _, four w6 P Ti S Lv⟩
      case rest =>
        obtain ⟨b, wq, rfl, hwq, HH⟩ := hcut
        subst hwq
        have HG : Hid (∀ i, i < 4 → wq.cell? ⟨b, i, none⟩ = some (.string ⟨(D.getD i []).toArray⟩) ∧ (D.getD i []).length ≤ 1000) := (by
          show ∀ i, _ → _
          intro i hi
          rw [HDD.out]
          have h1 := (HH.out.2 i (by simpa using hi)).1
          rw [Nat.zero_add] at h1
          rcases (by omega : i = 0 ∨ i = 1 ∨ i = 2 ∨ i = 3) with rfl | rfl | rfl | rfl
          all_goals exact ⟨h1, hl.out _ (by simp)⟩)
        have BX : Hid (Below w.heap.size w wq) := HH.out.1
        have N1 : Hid (∀ k, k < 4 → (D.getD k []).isEmpty = true → jn D (k + 1) = jn D k ++ D.getD k []) := (by rw [HDD.out]; exact fun k hk => jn_no _ k (by simpa using hk))
        have N2 : Hid (∀ k, k < 4 → (D.getD k []).isEmpty = false → (jn D k).isEmpty = true → jn D (k + 1) = jn D k ++ D.getD k []) := (by rw [HDD.out]; exact fun k hk => jn_first _ k (by simpa using hk))
        have N3 : Hid (∀ k, k < 4 → (D.getD k []).isEmpty = false → (jn D k).isEmpty = false → jn D (k + 1) = jn D k ++ [44] ++ D.getD k []) := (by rw [HDD.out]; exact fun k hk => jn_more _ k (by simpa using hk))
        have J0 : Hid (jn D 0 = []) := (by rw [HDD.out]; rfl)
        clear HH hl EJ HDD
        go_wp2_with fail
        go_loopw [6, 7] (fun s i wy => ∃ k : Nat, k ≤ 4 ∧ i = .int .i64 k ∧ s = .string ⟨(jn D k).toArray⟩ ∧ wy = wq) (fun _ i _ => 4 - (intOf i).toNat)
        case atStart => exact ⟨0, Nat.zero_le _, rfl, by rw [J0.out], rfl⟩
        case round =>
          obtain ⟨m, hm, rfl, rfl, hwy⟩ := hrel
          subst hwy
          by_cases hlt : m < 4
          · have m1 : (m : Int) < 4 := by omega
            have m0 : (0 : Int) ≤ (m : Int) := by omega
            obtain ⟨q0, lx⟩ := HG.out m hlt
            have lA := HJ.out m
            have M1 : Hid ((D.getD m []).isEmpty = true → jn D (m + 1) = jn D m ++ D.getD m []) := N1.out m hlt
            have M2 : Hid ((D.getD m []).isEmpty = false → (jn D m).isEmpty = true → jn D (m + 1) = jn D m ++ D.getD m []) := N2.out m hlt
            have M3 : Hid ((D.getD m []).isEmpty = false → (jn D m).isEmpty = false → jn D (m + 1) = jn D m ++ [44] ++ D.getD m []) := N3.out m hlt
            generalize D.getD m [] = x at *
            generalize jn D m = A at *
            have s1 : ¬ 9223372036854775807 < A.length + 1 := by omega
            have s2 : ¬ 9223372036854775807 < A.length + x.length := by omega
            cases ex : x.isEmpty
            · cases eA : A.isEmpty
              · have NE : Hid (jn D (m + 1) = A ++ [44] ++ x) := M3.out ex eA
                have c1 : (⟨A.toArray⟩ : ByteArray) ++ ⟨#[44]⟩ = ⟨(A ++ [44]).toArray⟩ := cat3 A [44]
                have s3 : ¬ 9223372036854775807 < (A ++ [44]).length + x.length := by simp; omega
                clear M1 M2 M3
                generalize hA : A ++ [44] = A1 at *
                have c2 : (⟨A1.toArray⟩ : ByteArray) ++ ⟨x.toArray⟩ = ⟨(A1 ++ x).toArray⟩ := cat3 A1 x
                go_wp2_with fail
                go_roundw
                case rel => exact ⟨m + 1, by omega, by go_num, by rw [NE.out], trivial⟩
                case measure => simp [intOf]; omega
              · have NE : Hid (jn D (m + 1) = A ++ x) := M2.out ex eA
                have c2 : (⟨A.toArray⟩ : ByteArray) ++ ⟨x.toArray⟩ = ⟨(A ++ x).toArray⟩ := cat3 A x
                clear M1 M2 M3
                go_wp2_with fail
                go_roundw
                case rel => exact ⟨m + 1, by omega, by go_num, by rw [NE.out], trivial⟩
                case measure => simp [intOf]; omega
            · have NE : Hid (jn D (m + 1) = A ++ x) := M1.out ex
              have c2 : (⟨A.toArray⟩ : ByteArray) ++ ⟨x.toArray⟩ = ⟨(A ++ x).toArray⟩ := cat3 A x
              clear M1 M2 M3
              go_wp2_with fail
              go_roundw
              case rel => exact ⟨m + 1, by omega, by go_num, by rw [NE.out], trivial⟩
              case measure => simp [intOf]; omega
          · have hm4 : m = 4 := by omega
            subst hm4
            go_wp2_with fail
            go_ret
            exact ⟨rfl, BX.out⟩
end Go.Proofs.YtkegllbedejkgaaDoor.Ix
