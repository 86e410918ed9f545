/- listText of the program, of words and of numbers. -/
import Derived.Test.YtkegllbedejkgaaDoorQd
import Derived.Test.YtkegllbedejkgaaDoorStampL
namespace Go.Proofs.YtkegllbedejkgaaDoor.Ix
open Go.ChangeShapes Go.WideShapes Go.ChangeAt Go.RowKit
open Lists (ints)
open Stamp (Tb Tb.keep)
theorem sreads_cells {w : World} {a : Option Addr} {cap n : Nat} {L : List ByteArray} (h : Reads w (.slice a n cap) L) (hn : n = L.length) : ∀ wr, Below w.heap.size w wr → ∀ i, i < n → ∃ b o, a = some ⟨b, o, none⟩ ∧ wr.cell? ⟨b, o + i, none⟩ = some (.string (L.getD i ⟨#[]⟩)) := by
  intro wr hb i hi
  have h' := h.on hb
  subst hn
  rcases h' with ⟨rfl, _⟩ | ⟨b, o, c, e, _, _, x, y⟩
  · simp at hi
  · simp at e; exact ⟨b, o, e.1, y i hi⟩

set_option maxRecDepth 4000 in
set_option maxHeartbeats 1000000 in
theorem ilistT_any (wd : List UInt8) (f : Int → ByteArray) (v : Value) (L : List Int) (w : World) (hT : Tb w) (h : Lists.Reads w v L) (hw : wd.length ≤ 10) (hl : L.length ≤ 40)
    (hs : ∀ i, i < (L.map f).length → ((L.map f).getD i ⟨#[]⟩).size ≤ 20)
    (C : ∀ i, i < L.length → ∀ w, Tb w → Calls Tryd.prog 21 #[.int .i64 (L.getD i 0)] w fun e w' => e = .returned (.string (f (L.getD i 0))) ∧ Below w.heap.size w w') :
    Calls Tryd.prog 20 #[.string ⟨wd.toArray⟩, v, .func (.func 21) #[] #[]] w fun e w' => e = .returned (.string ⟨(part wd (L.map f)).toArray⟩) ∧ Below w.heap.size w w' := by
  obtain ⟨a, cap, rfl⟩ := h.form
  obtain ⟨n, hn⟩ : ∃ n, n = L.length := ⟨_, rfl⟩
  have HN : Hid (n = L.length) := hn
  rw [← hn] at h hl C
  have HC : Hid (∀ wr, Below w.heap.size w wr → ∀ i, i < n → ∃ b o, a = some ⟨b, o, none⟩ ∧ wr.cell? ⟨b, o + i, none⟩ = some (.int .i64 (L.getD i 0))) := ireads_cells h hn
  have CC : Hid (∀ i, i < n → ∀ w, Tb w → Calls Tryd.prog 21 #[.int .i64 (L.getD i 0)] w fun e w' => e = .returned (.string (f (L.getD i 0))) ∧ Below w.heap.size w w') := C
  have HT : Hid (∀ wr, Below w.heap.size w wr → Tb wr) := fun wr hb => Tb.keep w wr hT hb
  have HG : Hid (∀ i, i < n → (L.map f).getD i ⟨#[]⟩ = f (L.getD i 0)) := fun i hi => (by
    have h1 : i < L.length := by omega
    simp [List.getD_eq_getElem?_getD, h1])
  have HA : Hid ((acc wd (L.map f) (L.map f).length).length ≤ 1000) := (by
    show _ ≤ _
    have := acc_len wd (L.map f) hs (L.map f).length (Nat.le_refl _)
    rw [List.length_map] at this ⊢
    omega)
  have HF : Hid (n = (L.map f).length) := (by show _ = _; rw [List.length_map]; exact hn)
  rw [← hn]
  clear h hn C hs hT
  generalize L.map f = G at *
  obtain ⟨i0, hi, hz0, hz1, hz2⟩ := info_parts Tryd.info9
  have FZ : Hid ((madeCells (Value.string ⟨#[]⟩).cells (n * 1)).toList = strs (fill G 0)) := (by show _ = _; rw [HF.out]; exact fill_zero G)
  by_cases h0 : n = 0
  · have eL : G = [] := List.eq_nil_of_length_eq_zero (by rw [← HF.out]; exact h0)
    subst h0
    clear HF HN HA
    go_enter Tryd.func20, Tryd.ntmps20
    go_wp2_with fail
    go_ret
    exact ⟨by rw [part, if_pos eL]; rfl, Below.refl _ _⟩
  · have j0 : ¬ (n : Int) = 0 := by omega
    have EP : Hid (part wd G = acc wd G G.length) := (by
      show _ = _
      rw [part, if_neg]
      intro e
      rw [e] at HF
      exact h0 HF.out)
    go_enter Tryd.func20, Tryd.ntmps20
    go_wp2_with (at_make; refine wpList_make_full _ rfl _ _ 22 rfl w.heap.size 9 i0 (.string ⟨#[]⟩) 1 Tryd.underlying22 hi hz0 hz1 .i64 .i64 (n : Int) (n : Int) n rfl rfl rfl rfl (by rw [hz2]; omega) (by unfold maxLen; omega) (Nat.le_refl _) ?_; intro w4 hown hgrow)
    rw [FZ.out] at hown
    have R0 : Hid (w4.ownsRow w.heap.size 9 1 (.slice (some ⟨w.heap.size, 0, none⟩) n n) n (strs (fill G 0))) := hown
    have B0 : Hid (Below w.heap.size w w4) := (Below.refl _ _).grown hgrow (Nat.le_refl _) (fun k hk => by cases hk)
    have Z0 : Hid (w.heap.size < w4.heap.size) := (R0.out.lt _ rfl).2
    clear hown hgrow
    go_wp2_with fail
    go_loopw [18] (fun q wr => ∃ j : Nat, j ≤ n ∧ q = .int .i64 j ∧ Hid (wr.ownsRow w.heap.size 9 1 (.slice (some ⟨w.heap.size, 0, none⟩) n n) n (strs (fill G j))) ∧ Hid (Below w.heap.size w wr)) (fun q _ => n - (intOf q).toNat)
    case atStart => exact ⟨0, Nat.zero_le _, rfl, R0, B0⟩
    case round =>
      clear R0 B0 Z0
      obtain ⟨j, hj, rfl, R, BB⟩ := hrel
      by_cases hlt : j < n
      · have hlt' : j < G.length := by rw [← HF.out]; exact hlt
        obtain ⟨b, o, rfl, q0⟩ := HC.out wr BB.out j hlt
        have i0 : (0 : Int) ≤ (j : Int) := by omega
        have i1 : (j : Int) < (n : Int) := by omega
        have C1 : Hid (∀ w, Tb w → Calls Tryd.prog 21 #[.int .i64 (L.getD j 0)] w fun e w' => e = .returned (.string (f (L.getD j 0))) ∧ Below w.heap.size w w') := CC.out j hlt
        have G1 : Hid (G.getD j ⟨#[]⟩ = f (L.getD j 0)) := HG.out j hlt
        generalize f (L.getD j 0) = y at *
        generalize L.getD j 0 = x at *
        go_wp2_with fail
        refine (C1.out _ (HT.out _ BB.out)).mono ?_
        rintro e w2 ⟨rfl, hb⟩
        have B2 : Hid (Below w.heap.size w w2) := BB.out.trans (hb.mono BB.out.size)
        have R2 : Hid (w2.ownsRow w.heap.size 9 1 (.slice (some ⟨w.heap.size, 0, none⟩) n n) n (strs (fill G j))) := En.row_below R.out hb
        have q1 : ∃ z, w2.cell? ⟨w.heap.size, j, none⟩ = some (.string z) := by
          have := R2.out.cellAt j (by omega)
          rw [this]
          have hl : j < (fill G j).length := by rw [fill_len]; exact hlt'
          exact ⟨(fill G j)[j], by simp [strs, List.getElem?_map, List.getElem?_eq_getElem hl]⟩
        obtain ⟨z, q1⟩ := q1
        have q2 : w2.frozen? ⟨w.heap.size, j, none⟩ = false := R2.out.frozenAt j
        have R' : Hid ((w2.setCell ⟨w.heap.size, j, none⟩ (.string y)).ownsRow w.heap.size 9 1 (.slice (some ⟨w.heap.size, 0, none⟩) n n) n (strs (fill G (j + 1)))) := by
          show World.ownsRow _ _ _ _ _ _ _
          rw [← fill_set, ← strs_set, G1.out]
          exact (R2.out.stored j _).1
        have B' : Hid (Below w.heap.size w (w2.setCell ⟨w.heap.size, j, none⟩ (.string y))) := B2.out.setCell (p := ⟨w.heap.size, j, none⟩) (Nat.le_refl _) _
        clear hb R BB R2 B2 C1 G1
        go_wp2_with fail
        go_roundw
        case rel => exact ⟨j + 1, by omega, by go_num, R', B'⟩
        case measure => simp [intOf]; omega
      · have hjn : j = n := by omega
        subst hjn
        have RE : Hid (wr.ownsRow w.heap.size 9 1 (.slice (some ⟨w.heap.size, 0, none⟩) j j) j (strs G)) := (by
          have := R.out
          rw [HF.out, fill_all] at this
          rw [HF.out]
          exact this)
        have JN : Hid (Calls Tryd.prog 25 #[.slice (some ⟨w.heap.size, 0, none⟩) j j, .string ⟨#[47]⟩] wr fun e w' => e = .returned (.string ⟨(Lib.join (tx G) [47]).toArray⟩) ∧ Below wr.heap.size wr w') := (by
          have hA := HA.out
          have := Tryd.strings_Join w.heap.size 0 j G ⟨#[47]⟩ wr (fun i x hx => by
            have h1 : i < j * 1 := (by rw [List.getElem?_eq_some_iff] at hx; obtain ⟨h1, _⟩ := hx; rw [Nat.mul_one, HF.out]; exact h1)
            have := RE.out.cellAt i h1
            rw [Nat.zero_add, this, strs, List.getElem?_map, hx]; rfl) (RE.out.lt _ rfl).2 (by rw [← HF.out]; omega) (by rw [← HF.out]; exact Nat.le_refl _) (by
              unfold acc at hA
              rw [List.take_length] at hA
              simp only [List.length_append, List.length_cons] at hA
              show (Lib.join (tx G) [47]).length ≤ _
              omega)
          rw [← HF.out] at this
          exact this)
        have EA : Hid ([wd, [61], Lib.join (tx G) [47]].flatten = part wd G) := (by show _ = _; rw [EP.out, acc, List.take_length]; simp)
        have LA : Hid ([wd, [61], Lib.join (tx G) [47]].flatten.length ≤ 1000) := (by show _ ≤ _; rw [EA.out, EP.out]; exact HA.out)
        generalize Lib.join (tx G) [47] = J at *
        clear R RE
        go_wp2_with fail
        refine JN.out.mono ?_
        rintro e w2 ⟨rfl, hb⟩
        have B2 : Hid (Below w.heap.size w w2) := BB.out.trans (hb.mono BB.out.size)
        clear hb BB JN
        go_wp2_with fail
        refine (Dec.joined_any Stamp.lib w2.heap.size 3 3 [wd, [61], J] _ rfl ?_ (by simp) (by simp) (by simp) LA.out).mono ?_
        · intro i x hx
          match i, hx with
          | 0, hx => simp at hx; subst hx; simp [go_sem]
          | 1, hx => simp at hx; subst hx; simp [go_sem]
          | 2, hx => simp at hx; subst hx; simp [go_sem]
        · rintro e w3 ⟨rfl, hb⟩
          have B3 : Hid (Below w.heap.size w w3) := (B2.out.alloc B2.out.size _).trans (hb.mono (by have := B2.out.size; simp; omega))
          rw [EA.out]
          go_wp2_with fail
          go_ret
          exact ⟨rfl, B3.out⟩

set_option maxRecDepth 4000 in
set_option maxHeartbeats 1000000 in
theorem ilistS_any (wd : List UInt8) (f : ByteArray → ByteArray) (v : Value) (L : List ByteArray) (w : World) (hT : Tb w) (h : Reads w v L) (hw : wd.length ≤ 10) (hl : L.length ≤ 40)
    (hs : ∀ i, i < (L.map f).length → ((L.map f).getD i ⟨#[]⟩).size ≤ 20)
    (C : ∀ i, i < L.length → ∀ w, Tb w → Calls Tryd.prog 19 #[.string (L.getD i ⟨#[]⟩)] w fun e w' => e = .returned (.string (f (L.getD i ⟨#[]⟩))) ∧ Below w.heap.size w w') :
    Calls Tryd.prog 18 #[.string ⟨wd.toArray⟩, v, .func (.func 19) #[] #[]] w fun e w' => e = .returned (.string ⟨(part wd (L.map f)).toArray⟩) ∧ Below w.heap.size w w' := by
  obtain ⟨a, cap, rfl⟩ := h.form
  obtain ⟨n, hn⟩ : ∃ n, n = L.length := ⟨_, rfl⟩
  have HN : Hid (n = L.length) := hn
  rw [← hn] at h hl C
  have HC : Hid (∀ wr, Below w.heap.size w wr → ∀ i, i < n → ∃ b o, a = some ⟨b, o, none⟩ ∧ wr.cell? ⟨b, o + i, none⟩ = some (.string (L.getD i ⟨#[]⟩))) := sreads_cells h hn
  have CC : Hid (∀ i, i < n → ∀ w, Tb w → Calls Tryd.prog 19 #[.string (L.getD i ⟨#[]⟩)] w fun e w' => e = .returned (.string (f (L.getD i ⟨#[]⟩))) ∧ Below w.heap.size w w') := C
  have HT : Hid (∀ wr, Below w.heap.size w wr → Tb wr) := fun wr hb => Tb.keep w wr hT hb
  have HG : Hid (∀ i, i < n → (L.map f).getD i ⟨#[]⟩ = f (L.getD i ⟨#[]⟩)) := fun i hi => (by
    have h1 : i < L.length := by omega
    simp [List.getD_eq_getElem?_getD, h1])
  have HA : Hid ((acc wd (L.map f) (L.map f).length).length ≤ 1000) := (by
    show _ ≤ _
    have := acc_len wd (L.map f) hs (L.map f).length (Nat.le_refl _)
    rw [List.length_map] at this ⊢
    omega)
  have HF : Hid (n = (L.map f).length) := (by show _ = _; rw [List.length_map]; exact hn)
  rw [← hn]
  clear h hn C hs hT
  generalize L.map f = G at *
  obtain ⟨i0, hi, hz0, hz1, hz2⟩ := info_parts Tryd.info9
  have FZ : Hid ((madeCells (Value.string ⟨#[]⟩).cells (n * 1)).toList = strs (fill G 0)) := (by show _ = _; rw [HF.out]; exact fill_zero G)
  by_cases h0 : n = 0
  · have eL : G = [] := List.eq_nil_of_length_eq_zero (by rw [← HF.out]; exact h0)
    subst h0
    clear HF HN HA
    go_enter Tryd.func18, Tryd.ntmps18
    go_wp2_with fail
    go_ret
    exact ⟨by rw [part, if_pos eL]; rfl, Below.refl _ _⟩
  · have j0 : ¬ (n : Int) = 0 := by omega
    have EP : Hid (part wd G = acc wd G G.length) := (by
      show _ = _
      rw [part, if_neg]
      intro e
      rw [e] at HF
      exact h0 HF.out)
    go_enter Tryd.func18, Tryd.ntmps18
    go_wp2_with (at_make; refine wpList_make_full _ rfl _ _ 22 rfl w.heap.size 9 i0 (.string ⟨#[]⟩) 1 Tryd.underlying22 hi hz0 hz1 .i64 .i64 (n : Int) (n : Int) n rfl rfl rfl rfl (by rw [hz2]; omega) (by unfold maxLen; omega) (Nat.le_refl _) ?_; intro w4 hown hgrow)
    rw [FZ.out] at hown
    have R0 : Hid (w4.ownsRow w.heap.size 9 1 (.slice (some ⟨w.heap.size, 0, none⟩) n n) n (strs (fill G 0))) := hown
    have B0 : Hid (Below w.heap.size w w4) := (Below.refl _ _).grown hgrow (Nat.le_refl _) (fun k hk => by cases hk)
    have Z0 : Hid (w.heap.size < w4.heap.size) := (R0.out.lt _ rfl).2
    clear hown hgrow
    go_wp2_with fail
    go_loopw [18] (fun q wr => ∃ j : Nat, j ≤ n ∧ q = .int .i64 j ∧ Hid (wr.ownsRow w.heap.size 9 1 (.slice (some ⟨w.heap.size, 0, none⟩) n n) n (strs (fill G j))) ∧ Hid (Below w.heap.size w wr)) (fun q _ => n - (intOf q).toNat)
    case atStart => exact ⟨0, Nat.zero_le _, rfl, R0, B0⟩
    case round =>
      clear R0 B0 Z0
      obtain ⟨j, hj, rfl, R, BB⟩ := hrel
      by_cases hlt : j < n
      · have hlt' : j < G.length := by rw [← HF.out]; exact hlt
        obtain ⟨b, o, rfl, q0⟩ := HC.out wr BB.out j hlt
        have i0 : (0 : Int) ≤ (j : Int) := by omega
        have i1 : (j : Int) < (n : Int) := by omega
        have C1 : Hid (∀ w, Tb w → Calls Tryd.prog 19 #[.string (L.getD j ⟨#[]⟩)] w fun e w' => e = .returned (.string (f (L.getD j ⟨#[]⟩))) ∧ Below w.heap.size w w') := CC.out j hlt
        have G1 : Hid (G.getD j ⟨#[]⟩ = f (L.getD j ⟨#[]⟩)) := HG.out j hlt
        generalize f (L.getD j ⟨#[]⟩) = y at *
        generalize L.getD j ⟨#[]⟩ = x at *
        go_wp2_with fail
        refine (C1.out _ (HT.out _ BB.out)).mono ?_
        rintro e w2 ⟨rfl, hb⟩
        have B2 : Hid (Below w.heap.size w w2) := BB.out.trans (hb.mono BB.out.size)
        have R2 : Hid (w2.ownsRow w.heap.size 9 1 (.slice (some ⟨w.heap.size, 0, none⟩) n n) n (strs (fill G j))) := En.row_below R.out hb
        have q1 : ∃ z, w2.cell? ⟨w.heap.size, j, none⟩ = some (.string z) := by
          have := R2.out.cellAt j (by omega)
          rw [this]
          have hl : j < (fill G j).length := by rw [fill_len]; exact hlt'
          exact ⟨(fill G j)[j], by simp [strs, List.getElem?_map, List.getElem?_eq_getElem hl]⟩
        obtain ⟨z, q1⟩ := q1
        have q2 : w2.frozen? ⟨w.heap.size, j, none⟩ = false := R2.out.frozenAt j
        have R' : Hid ((w2.setCell ⟨w.heap.size, j, none⟩ (.string y)).ownsRow w.heap.size 9 1 (.slice (some ⟨w.heap.size, 0, none⟩) n n) n (strs (fill G (j + 1)))) := by
          show World.ownsRow _ _ _ _ _ _ _
          rw [← fill_set, ← strs_set, G1.out]
          exact (R2.out.stored j _).1
        have B' : Hid (Below w.heap.size w (w2.setCell ⟨w.heap.size, j, none⟩ (.string y))) := B2.out.setCell (p := ⟨w.heap.size, j, none⟩) (Nat.le_refl _) _
        clear hb R BB R2 B2 C1 G1
        go_wp2_with fail
        go_roundw
        case rel => exact ⟨j + 1, by omega, by go_num, R', B'⟩
        case measure => simp [intOf]; omega
      · have hjn : j = n := by omega
        subst hjn
        have RE : Hid (wr.ownsRow w.heap.size 9 1 (.slice (some ⟨w.heap.size, 0, none⟩) j j) j (strs G)) := (by
          have := R.out
          rw [HF.out, fill_all] at this
          rw [HF.out]
          exact this)
        have JN : Hid (Calls Tryd.prog 25 #[.slice (some ⟨w.heap.size, 0, none⟩) j j, .string ⟨#[47]⟩] wr fun e w' => e = .returned (.string ⟨(Lib.join (tx G) [47]).toArray⟩) ∧ Below wr.heap.size wr w') := (by
          have hA := HA.out
          have := Tryd.strings_Join w.heap.size 0 j G ⟨#[47]⟩ wr (fun i x hx => by
            have h1 : i < j * 1 := (by rw [List.getElem?_eq_some_iff] at hx; obtain ⟨h1, _⟩ := hx; rw [Nat.mul_one, HF.out]; exact h1)
            have := RE.out.cellAt i h1
            rw [Nat.zero_add, this, strs, List.getElem?_map, hx]; rfl) (RE.out.lt _ rfl).2 (by rw [← HF.out]; omega) (by rw [← HF.out]; exact Nat.le_refl _) (by
              unfold acc at hA
              rw [List.take_length] at hA
              simp only [List.length_append, List.length_cons] at hA
              show (Lib.join (tx G) [47]).length ≤ _
              omega)
          rw [← HF.out] at this
          exact this)
        have EA : Hid ([wd, [61], Lib.join (tx G) [47]].flatten = part wd G) := (by show _ = _; rw [EP.out, acc, List.take_length]; simp)
        have LA : Hid ([wd, [61], Lib.join (tx G) [47]].flatten.length ≤ 1000) := (by show _ ≤ _; rw [EA.out, EP.out]; exact HA.out)
        generalize Lib.join (tx G) [47] = J at *
        clear R RE
        go_wp2_with fail
        refine JN.out.mono ?_
        rintro e w2 ⟨rfl, hb⟩
        have B2 : Hid (Below w.heap.size w w2) := BB.out.trans (hb.mono BB.out.size)
        clear hb BB JN
        go_wp2_with fail
        refine (Dec.joined_any Stamp.lib w2.heap.size 3 3 [wd, [61], J] _ rfl ?_ (by simp) (by simp) (by simp) LA.out).mono ?_
        · intro i x hx
          match i, hx with
          | 0, hx => simp at hx; subst hx; simp [go_sem]
          | 1, hx => simp at hx; subst hx; simp [go_sem]
          | 2, hx => simp at hx; subst hx; simp [go_sem]
        · rintro e w3 ⟨rfl, hb⟩
          have B3 : Hid (Below w.heap.size w w3) := (B2.out.alloc B2.out.size _).trans (hb.mono (by have := B2.out.size; simp; omega))
          rw [EA.out]
          go_wp2_with fail
          go_ret
          exact ⟨rfl, B3.out⟩

set_option maxRecDepth 4000 in
set_option maxHeartbeats 1000000 in
theorem ilistN_any (wd : List UInt8) (f : Int → ByteArray) (v : Value) (L : List Int) (w : World) (hT : Tb w) (h : Lists.Reads w v L) (hw : wd.length ≤ 10) (hl : L.length ≤ 40)
    (hs : ∀ i, i < (L.map f).length → ((L.map f).getD i ⟨#[]⟩).size ≤ 20)
    (C : ∀ i, i < L.length → ∀ w, Tb w → Calls Tryd.prog 22 #[.int .i64 (L.getD i 0)] w fun e w' => e = .returned (.string (f (L.getD i 0))) ∧ Below w.heap.size w w') :
    Calls Tryd.prog 20 #[.string ⟨wd.toArray⟩, v, .func (.func 22) #[] #[]] w fun e w' => e = .returned (.string ⟨(part wd (L.map f)).toArray⟩) ∧ Below w.heap.size w w' := by
  obtain ⟨a, cap, rfl⟩ := h.form
  obtain ⟨n, hn⟩ : ∃ n, n = L.length := ⟨_, rfl⟩
  have HN : Hid (n = L.length) := hn
  rw [← hn] at h hl C
  have HC : Hid (∀ wr, Below w.heap.size w wr → ∀ i, i < n → ∃ b o, a = some ⟨b, o, none⟩ ∧ wr.cell? ⟨b, o + i, none⟩ = some (.int .i64 (L.getD i 0))) := ireads_cells h hn
  have CC : Hid (∀ i, i < n → ∀ w, Tb w → Calls Tryd.prog 22 #[.int .i64 (L.getD i 0)] w fun e w' => e = .returned (.string (f (L.getD i 0))) ∧ Below w.heap.size w w') := C
  have HT : Hid (∀ wr, Below w.heap.size w wr → Tb wr) := fun wr hb => Tb.keep w wr hT hb
  have HG : Hid (∀ i, i < n → (L.map f).getD i ⟨#[]⟩ = f (L.getD i 0)) := fun i hi => (by
    have h1 : i < L.length := by omega
    simp [List.getD_eq_getElem?_getD, h1])
  have HA : Hid ((acc wd (L.map f) (L.map f).length).length ≤ 1000) := (by
    show _ ≤ _
    have := acc_len wd (L.map f) hs (L.map f).length (Nat.le_refl _)
    rw [List.length_map] at this ⊢
    omega)
  have HF : Hid (n = (L.map f).length) := (by show _ = _; rw [List.length_map]; exact hn)
  rw [← hn]
  clear h hn C hs hT
  generalize L.map f = G at *
  obtain ⟨i0, hi, hz0, hz1, hz2⟩ := info_parts Tryd.info9
  have FZ : Hid ((madeCells (Value.string ⟨#[]⟩).cells (n * 1)).toList = strs (fill G 0)) := (by show _ = _; rw [HF.out]; exact fill_zero G)
  by_cases h0 : n = 0
  · have eL : G = [] := List.eq_nil_of_length_eq_zero (by rw [← HF.out]; exact h0)
    subst h0
    clear HF HN HA
    go_enter Tryd.func20, Tryd.ntmps20
    go_wp2_with fail
    go_ret
    exact ⟨by rw [part, if_pos eL]; rfl, Below.refl _ _⟩
  · have j0 : ¬ (n : Int) = 0 := by omega
    have EP : Hid (part wd G = acc wd G G.length) := (by
      show _ = _
      rw [part, if_neg]
      intro e
      rw [e] at HF
      exact h0 HF.out)
    go_enter Tryd.func20, Tryd.ntmps20
    go_wp2_with (at_make; refine wpList_make_full _ rfl _ _ 22 rfl w.heap.size 9 i0 (.string ⟨#[]⟩) 1 Tryd.underlying22 hi hz0 hz1 .i64 .i64 (n : Int) (n : Int) n rfl rfl rfl rfl (by rw [hz2]; omega) (by unfold maxLen; omega) (Nat.le_refl _) ?_; intro w4 hown hgrow)
    rw [FZ.out] at hown
    have R0 : Hid (w4.ownsRow w.heap.size 9 1 (.slice (some ⟨w.heap.size, 0, none⟩) n n) n (strs (fill G 0))) := hown
    have B0 : Hid (Below w.heap.size w w4) := (Below.refl _ _).grown hgrow (Nat.le_refl _) (fun k hk => by cases hk)
    have Z0 : Hid (w.heap.size < w4.heap.size) := (R0.out.lt _ rfl).2
    clear hown hgrow
    go_wp2_with fail
    go_loopw [18] (fun q wr => ∃ j : Nat, j ≤ n ∧ q = .int .i64 j ∧ Hid (wr.ownsRow w.heap.size 9 1 (.slice (some ⟨w.heap.size, 0, none⟩) n n) n (strs (fill G j))) ∧ Hid (Below w.heap.size w wr)) (fun q _ => n - (intOf q).toNat)
    case atStart => exact ⟨0, Nat.zero_le _, rfl, R0, B0⟩
    case round =>
      clear R0 B0 Z0
      obtain ⟨j, hj, rfl, R, BB⟩ := hrel
      by_cases hlt : j < n
      · have hlt' : j < G.length := by rw [← HF.out]; exact hlt
        obtain ⟨b, o, rfl, q0⟩ := HC.out wr BB.out j hlt
        have i0 : (0 : Int) ≤ (j : Int) := by omega
        have i1 : (j : Int) < (n : Int) := by omega
        have C1 : Hid (∀ w, Tb w → Calls Tryd.prog 22 #[.int .i64 (L.getD j 0)] w fun e w' => e = .returned (.string (f (L.getD j 0))) ∧ Below w.heap.size w w') := CC.out j hlt
        have G1 : Hid (G.getD j ⟨#[]⟩ = f (L.getD j 0)) := HG.out j hlt
        generalize f (L.getD j 0) = y at *
        generalize L.getD j 0 = x at *
        go_wp2_with fail
        refine (C1.out _ (HT.out _ BB.out)).mono ?_
        rintro e w2 ⟨rfl, hb⟩
        have B2 : Hid (Below w.heap.size w w2) := BB.out.trans (hb.mono BB.out.size)
        have R2 : Hid (w2.ownsRow w.heap.size 9 1 (.slice (some ⟨w.heap.size, 0, none⟩) n n) n (strs (fill G j))) := En.row_below R.out hb
        have q1 : ∃ z, w2.cell? ⟨w.heap.size, j, none⟩ = some (.string z) := by
          have := R2.out.cellAt j (by omega)
          rw [this]
          have hl : j < (fill G j).length := by rw [fill_len]; exact hlt'
          exact ⟨(fill G j)[j], by simp [strs, List.getElem?_map, List.getElem?_eq_getElem hl]⟩
        obtain ⟨z, q1⟩ := q1
        have q2 : w2.frozen? ⟨w.heap.size, j, none⟩ = false := R2.out.frozenAt j
        have R' : Hid ((w2.setCell ⟨w.heap.size, j, none⟩ (.string y)).ownsRow w.heap.size 9 1 (.slice (some ⟨w.heap.size, 0, none⟩) n n) n (strs (fill G (j + 1)))) := by
          show World.ownsRow _ _ _ _ _ _ _
          rw [← fill_set, ← strs_set, G1.out]
          exact (R2.out.stored j _).1
        have B' : Hid (Below w.heap.size w (w2.setCell ⟨w.heap.size, j, none⟩ (.string y))) := B2.out.setCell (p := ⟨w.heap.size, j, none⟩) (Nat.le_refl _) _
        clear hb R BB R2 B2 C1 G1
        go_wp2_with fail
        go_roundw
        case rel => exact ⟨j + 1, by omega, by go_num, R', B'⟩
        case measure => simp [intOf]; omega
      · have hjn : j = n := by omega
        subst hjn
        have RE : Hid (wr.ownsRow w.heap.size 9 1 (.slice (some ⟨w.heap.size, 0, none⟩) j j) j (strs G)) := (by
          have := R.out
          rw [HF.out, fill_all] at this
          rw [HF.out]
          exact this)
        have JN : Hid (Calls Tryd.prog 25 #[.slice (some ⟨w.heap.size, 0, none⟩) j j, .string ⟨#[47]⟩] wr fun e w' => e = .returned (.string ⟨(Lib.join (tx G) [47]).toArray⟩) ∧ Below wr.heap.size wr w') := (by
          have hA := HA.out
          have := Tryd.strings_Join w.heap.size 0 j G ⟨#[47]⟩ wr (fun i x hx => by
            have h1 : i < j * 1 := (by rw [List.getElem?_eq_some_iff] at hx; obtain ⟨h1, _⟩ := hx; rw [Nat.mul_one, HF.out]; exact h1)
            have := RE.out.cellAt i h1
            rw [Nat.zero_add, this, strs, List.getElem?_map, hx]; rfl) (RE.out.lt _ rfl).2 (by rw [← HF.out]; omega) (by rw [← HF.out]; exact Nat.le_refl _) (by
              unfold acc at hA
              rw [List.take_length] at hA
              simp only [List.length_append, List.length_cons] at hA
              show (Lib.join (tx G) [47]).length ≤ _
              omega)
          rw [← HF.out] at this
          exact this)
        have EA : Hid ([wd, [61], Lib.join (tx G) [47]].flatten = part wd G) := (by show _ = _; rw [EP.out, acc, List.take_length]; simp)
        have LA : Hid ([wd, [61], Lib.join (tx G) [47]].flatten.length ≤ 1000) := (by show _ ≤ _; rw [EA.out, EP.out]; exact HA.out)
        generalize Lib.join (tx G) [47] = J at *
        clear R RE
        go_wp2_with fail
        refine JN.out.mono ?_
        rintro e w2 ⟨rfl, hb⟩
        have B2 : Hid (Below w.heap.size w w2) := BB.out.trans (hb.mono BB.out.size)
        clear hb BB JN
        go_wp2_with fail
        refine (Dec.joined_any Stamp.lib w2.heap.size 3 3 [wd, [61], J] _ rfl ?_ (by simp) (by simp) (by simp) LA.out).mono ?_
        · intro i x hx
          match i, hx with
          | 0, hx => simp at hx; subst hx; simp [go_sem]
          | 1, hx => simp at hx; subst hx; simp [go_sem]
          | 2, hx => simp at hx; subst hx; simp [go_sem]
        · rintro e w3 ⟨rfl, hb⟩
          have B3 : Hid (Below w.heap.size w w3) := (B2.out.alloc B2.out.size _).trans (hb.mono (by have := B2.out.size; simp; omega))
          rw [EA.out]
          go_wp2_with fail
          go_ret
          exact ⟨rfl, B3.out⟩
end Go.Proofs.YtkegllbedejkgaaDoor.Ix
