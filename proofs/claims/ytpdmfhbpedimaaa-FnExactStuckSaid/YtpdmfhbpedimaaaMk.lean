/- Stuck: the model. -/
import Derived.Test.YtpdmfhbpedimaaaIk
import Derived.Test.YtpdmfhbpedimaaaMt
import Derived.BigQuiet
namespace Go.Proofs.Ytpdmfhbpedimaaa.Ty
open Go.ChangeShapes Go.WideShapes Go.ChangeAt Go.RowKit
open Go.Proofs.Ytpdmfhbpedimaaa.Lists Go.Proofs.Ytpdmfhbpedimaaa.Tm Go.Proofs.Ytpdmfhbpedimaaa.Rk Go.Proofs.Ytpdmfhbpedimaaa.Ru Go.Proofs.Ytpdmfhbpedimaaa.Al

theorem any_next (f : Nat → Bool) (j : Nat) : (List.range (j + 1)).any f = ((List.range j).any f || f j) := by rw [List.range_succ, List.any_append]; simp
theorem any_mem (L : List Int) (z : Int) : (List.range L.length).any (fun j => L.getD j 0 == z) = decide (z ∈ L) := by
  rw [Bool.eq_iff_iff, List.any_eq_true, decide_eq_true_eq]
  constructor
  · rintro ⟨j, hj, he⟩
    rw [List.mem_range] at hj
    have e : L.getD j 0 = z := by simpa using he
    rw [Tm.getD_get L j 0 hj] at e
    rw [← e]
    exact List.getElem_mem hj
  · intro hz
    obtain ⟨j, hj, e⟩ := List.getElem_of_mem hz
    exact ⟨j, List.mem_range.2 hj, by rw [Tm.getD_get L j 0 hj, e]; simp⟩
theorem sl_up {R : Tk.Ls} {J : Jb.Ls} : ∀ k z, z ∈ sl R J k → 1 ≤ z ∧ z ≤ (k : Int)
  | 0, z, h => by simp [sl] at h
  | k + 1, z, h => by
    unfold sl at h
    split at h
    · rw [List.mem_append] at h
      rcases h with h | h
      · have := sl_up k z h; omega
      · simp at h; omega
    · have := sl_up k z h; omega
theorem sl_mem {R : Tk.Ls} {J : Jb.Ls} : ∀ k i, i < k → (decide (((i : Int) + 1) ∈ sl R J k) = fl R J k i)
  | 0, i, h => by omega
  | k + 1, i, h => by
    by_cases e : i = k
    · subst e
      rw [fl_at]
      cases hb : (hw J i == 3 || bst R (fl R J i) i)
      · rw [sl_no hb, decide_eq_false_iff_not]
        intro q
        have := sl_up i _ q
        omega
      · rw [sl_yes hb, decide_eq_true_eq, List.mem_append]
        exact .inr (by simp)
    · rw [fl_off e, ← sl_mem k i (by omega)]
      cases hb : (hw J k == 3 || bst R (fl R J k) k)
      · rw [sl_no hb]
      · rw [sl_yes hb, Bool.eq_iff_iff, decide_eq_true_eq, decide_eq_true_eq, List.mem_append]
        constructor
        · rintro (q | q)
          · exact q
          · simp at q; omega
        · exact .inl
def hm (R : Tk.Ls) (J : Jb.Ls) (k m : Nat) (j : Nat) : Bool := (sl R J k).getD j 0 == (Tk.cl R k).getD m 0
def ha (R : Tk.Ls) (J : Jb.Ls) (k : Nat) (m : Nat) : Bool := (List.range (sl R J k).length).any (hm R J k m)
theorem ha_bst {R : Tk.Ls} {X : List Int} {J : Jb.Ls} (F : Fit R X) {k : Nat} (hk : k < R.length) : (List.range (Tk.cl R k).length).any (ha R J k) = bst R (fl R J k) k := by
  unfold bst
  have : ∀ m, m ∈ List.range (Tk.cl R k).length → ha R J k m = fl R J k ((Tk.cl R k).getD m 0 - 1).toNat := fun m hm' => by
    rw [List.mem_range] at hm'
    have h1 := F.aft k hk m hm'
    unfold ha hm
    rw [any_mem, ← sl_mem k _ (by omega), show ((((Tk.cl R k).getD m 0 - 1).toNat : Nat) : Int) + 1 = (Tk.cl R k).getD m 0 by omega]
  rw [Bool.eq_iff_iff, List.any_eq_true, List.any_eq_true]
  constructor
  · rintro ⟨m, h1, h2⟩
    exact ⟨m, h1, by rw [← this m h1]; exact h2⟩
  · rintro ⟨m, h1, h2⟩
    exact ⟨m, h1, by rw [this m h1]; exact h2⟩

set_option maxHeartbeats 4000000 in
set_option maxRecDepth 20000 in
theorem sstuck_no (R : Tk.Ls) (X : List Int) (now : Int) (J : Jb.Ls) (vr vx vj : Value) (w : World) (hh : RR w vr vx vj R X J) (hk : okR R X now J = false) :
    Calls Try.prog 24 #[rv vr vx now vj] w fun e w' => e = .returned (.slice (some ⟨w.heap.size + 1, 0, none⟩) 0 0) ∧ Below w.heap.size w w' := by
  obtain ⟨ar, cr, er⟩ := hh.1.form
  obtain ⟨ax, cx, ex⟩ := hh.2.1.form
  obtain ⟨aj, cj, ej⟩ := hh.2.2.form
  obtain ⟨w0, hw0⟩ : ∃ w0, w0 = w.alloc (.cells #[vr, vx, .int .i64 now, vj] 35) := ⟨_, rfl⟩
  have HW0 : Hid (w0 = w.alloc (.cells #[vr, vx, .int .i64 now, vj] 35)) := hw0
  have B0 : Hid (Below w.heap.size w w0) := (by show Below _ _ _; rw [hw0]; exact (Below.refl _ _).alloc (Nat.le_refl _) _)
  have A0 : Hid (Bl w0 w.heap.size 35 #[vr, vx, .int .i64 now, vj]) := (by show Bl _ _ _ _; rw [hw0]; exact Bl.new w 35 _)
  have Z0 : Hid (w0.heap.size = w.heap.size + 1) := (by show _ = _; rw [hw0]; simp)
  have C1 : Hid (∀ W, Below w.heap.size w W → Calls Try.prog 28 #[rv vr vx now vj] W fun e w' => e = .returned (.bool false) ∧ Below W.heap.size W w') := fun W hb => (by rw [← hk]; exact sok_any R X now J vr vx vj W (hh.on hb))
  obtain ⟨wz, hwz⟩ : ∃ y, y = w0.alloc (.cells #[] 2) := ⟨_, rfl⟩
  have HWZ : Hid (wz = w0.alloc (.cells #[] 2)) := hwz
  have bz : Below w0.heap.size w0 wz := by rw [hwz]; exact (Below.refl _ _).alloc (Nat.le_refl _) _
  have BZ : Hid (Below w.heap.size w wz) := B0.out.trans (bz.mono B0.out.size)
  have AZ : Hid (Bl wz w.heap.size 35 #[vr, vx, .int .i64 now, vj]) := A0.out.on bz
  have RZ : Hid (wz.ownsRow (w.heap.size + 1) 2 1 (.slice (some ⟨w.heap.size + 1, 0, none⟩) 0 0) 0 []) := (by have q := Cp.empty_row (W := w0) 2 1; rw [← hwz, Z0.out] at q; exact q)
  clear bz hwz
  have y0 : w0.cell? ⟨w.heap.size, 0, none⟩ = some vr := (A0.out.cell 0).trans rfl
  have y1 : w0.cell? ⟨w.heap.size, 1, none⟩ = some vx := (A0.out.cell 1).trans rfl
  have y2 : w0.cell? ⟨w.heap.size, 2, none⟩ = some (.int .i64 now) := (A0.out.cell 2).trans rfl
  have y3 : w0.cell? ⟨w.heap.size, 3, none⟩ = some vj := (A0.out.cell 3).trans rfl
  subst er ex ej
  generalize R.length = n at *
  generalize X.length = m at *
  generalize J.length = k at *
  clear hh hw0 hk
  go_enter Try.func24, Try.ntmps24
  go_wp2_with fail
  rw [← HW0.out, ← HWZ.out]
  refine (C1.out wz BZ.out).mono ?_
  rintro e w1 ⟨rfl, b⟩
  have B1 : Hid (Below w.heap.size w w1) := BZ.out.trans (b.mono BZ.out.size)
  clear y0 y1 y2 y3 b HW0 A0 HWZ BZ AZ RZ
  go_wp2_with fail
  go_ret
  exact ⟨rfl, B1.out⟩

set_option maxHeartbeats 4000000 in
set_option maxRecDepth 20000 in
theorem sstuck_yes (R : Tk.Ls) (X : List Int) (now : Int) (J : Jb.Ls) (vr vx vj : Value) (w : World) (hh : RR w vr vx vj R X J) (hk : okR R X now J = true) :
    Calls Try.prog 24 #[rv vr vx now vj] w fun e w' => ∃ la lc, e = .returned (.slice la (sl R J R.length).length lc) ∧ Lists.Reads w' (.slice la (sl R J R.length).length lc) (sl R J R.length) ∧ Below w.heap.size w w' := by
  obtain ⟨ar, cr, er⟩ := hh.1.form
  obtain ⟨ax, cx, ex⟩ := hh.2.1.form
  obtain ⟨aj, cj, ej⟩ := hh.2.2.form
  obtain ⟨w0, hw0⟩ : ∃ w0, w0 = w.alloc (.cells #[vr, vx, .int .i64 now, vj] 35) := ⟨_, rfl⟩
  have HW0 : Hid (w0 = w.alloc (.cells #[vr, vx, .int .i64 now, vj] 35)) := hw0
  have B0 : Hid (Below w.heap.size w w0) := (by show Below _ _ _; rw [hw0]; exact (Below.refl _ _).alloc (Nat.le_refl _) _)
  have A0 : Hid (Bl w0 w.heap.size 35 #[vr, vx, .int .i64 now, vj]) := (by show Bl _ _ _ _; rw [hw0]; exact Bl.new w 35 _)
  have Z0 : Hid (w0.heap.size = w.heap.size + 1) := (by show _ = _; rw [hw0]; simp)
  have C1 : Hid (∀ W, Below w.heap.size w W → Calls Try.prog 28 #[rv vr vx now vj] W fun e w' => e = .returned (.bool true) ∧ Below W.heap.size W w') := fun W hb => (by rw [← hk]; exact sok_any R X now J vr vx vj W (hh.on hb))
  obtain ⟨wz, hwz⟩ : ∃ y, y = w0.alloc (.cells #[] 2) := ⟨_, rfl⟩
  have HWZ : Hid (wz = w0.alloc (.cells #[] 2)) := hwz
  have bz : Below w0.heap.size w0 wz := by rw [hwz]; exact (Below.refl _ _).alloc (Nat.le_refl _) _
  have BZ : Hid (Below w.heap.size w wz) := B0.out.trans (bz.mono B0.out.size)
  have AZ : Hid (Bl wz w.heap.size 35 #[vr, vx, .int .i64 now, vj]) := A0.out.on bz
  have RZ : Hid (wz.ownsRow (w.heap.size + 1) 2 1 (.slice (some ⟨w.heap.size + 1, 0, none⟩) 0 0) 0 []) := (by have q := Cp.empty_row (W := w0) 2 1; rw [← hwz, Z0.out] at q; exact q)
  clear bz hwz
  have y0 : w0.cell? ⟨w.heap.size, 0, none⟩ = some vr := (A0.out.cell 0).trans rfl
  have y1 : w0.cell? ⟨w.heap.size, 1, none⟩ = some vx := (A0.out.cell 1).trans rfl
  have y2 : w0.cell? ⟨w.heap.size, 2, none⟩ = some (.int .i64 now) := (A0.out.cell 2).trans rfl
  have y3 : w0.cell? ⟨w.heap.size, 3, none⟩ = some vj := (A0.out.cell 3).trans rfl
  obtain ⟨o1, o2, o3⟩ := okR_parts hk
  have F := fit_of o1
  have HF : Hid (Fit R X) := F
  have n60 := F.r60
  have n1 := F.r1
  have HR : Hid (RR w vr vx vj R X J) := hh
  subst er ex ej
  obtain ⟨n, hn⟩ : ∃ n, R.length = n := ⟨_, rfl⟩
  obtain ⟨m, hm'⟩ : ∃ m, X.length = m := ⟨_, rfl⟩
  have HN : Hid (R.length = n) := hn
  have HJ : Hid (J.length = n) := o3.trans hn
  simp only [o3, hn, hm'] at y0 y1 y2 y3 HW0 n60 n1 HR AZ C1 ⊢
  clear hh hw0 hk o1 o2 o3 hn hm' F A0
  obtain ⟨br, or, KR0, hvr⟩ := tasks_at HR.out.1
  obtain ⟨rlt, rcap, hre⟩ := hvr (by rw [HN.out]; omega)
  rw [HN.out] at hre
  simp at hre
  obtain ⟨hre1, hre2⟩ := hre
  subst hre1
  obtain ⟨vb, vo, KJ0, hvj⟩ := jobs_at HR.out.2.2
  obtain ⟨vlt, vcap, hve⟩ := hvj (by rw [HJ.out]; omega)
  rw [HJ.out] at hve
  simp at hve
  obtain ⟨hve1, hve2⟩ := hve
  subst hve1
  have KR : Hid (∀ w', Below w.heap.size w w' → ∀ i, i < R.length → Tk.Cs w' br or R i) := KR0
  have KJ : Hid (∀ w', Below w.heap.size w w' → ∀ i, i < J.length → Jb.Cs w' vb vo J i) := KJ0
  clear KR0 KJ0 hvr hvj hre2 hve2 HR
  go_enter Try.func24, Try.ntmps24
  go_wp2_with fail
  rw [← HW0.out, ← HWZ.out]
  refine (C1.out wz BZ.out).mono ?_
  rintro e w1 ⟨rfl, b⟩
  have S1 : Hid (World.ownsRow w1 (w.heap.size + 1) 2 1 (.slice (some ⟨w.heap.size + 1, 0, none⟩) 0 0) (sl R J 0).length (ints (sl R J 0)) ∧ Below w.heap.size w w1 ∧ Bl w1 w.heap.size 35 #[.slice (some ⟨br, or, none⟩) n cr, .slice ax m cx, .int .i64 now, .slice (some ⟨vb, vo, none⟩) n cj]) := ⟨Tk1.row_on RZ.out b, BZ.out.trans (b.mono BZ.out.size), AZ.out.on b⟩
  have Z1 : Hid (w.heap.size + 1 ≤ w1.heap.size) := (by have := (AZ.out.on b).lt; show _ ≤ _; omega)
  clear y0 y1 y2 y3 b HW0 HWZ BZ AZ RZ C1
  obtain ⟨i0, hi, hz0, hz1, hz2⟩ := info_parts Lists.Try.info2
  go_upto_region 5 with fail
  go_loopw [4, 3] (fun c v wr => ∃ (k : Nat) (la : Option Addr) (lc : Nat), k ≤ n ∧ c = .int .i64 k ∧ v = (.slice la (sl R J k).length lc) ∧ Hid (World.ownsRow wr (w.heap.size + 1) 2 1 (.slice la (sl R J k).length lc) (sl R J k).length (ints (sl R J k)) ∧ Below w.heap.size w wr ∧ Bl wr w.heap.size 35 #[.slice (some ⟨br, or, none⟩) n cr, .slice ax m cx, .int .i64 now, .slice (some ⟨vb, vo, none⟩) n cj])) (fun c _ _ => n - (intOf c).toNat)
  case atStart => exact ⟨0, some ⟨w.heap.size + 1, 0, none⟩, 0, Nat.zero_le _, rfl, rfl, S1⟩
  case round =>
    clear S1
    obtain ⟨k, la, lc, hk, rfl, rfl, S⟩ := hrel
    obtain ⟨wo, hwo⟩ : ∃ y, y = wr := ⟨_, rfl⟩
    subst hwo
    have a0 : wo.cell? ⟨w.heap.size, 0, none⟩ = some (.slice (some ⟨br, or, none⟩) n cr) := (S.out.2.2.cell 0).trans rfl
    have a3 : wo.cell? ⟨w.heap.size, 3, none⟩ = some (.slice (some ⟨vb, vo, none⟩) n cj) := (S.out.2.2.cell 3).trans rfl
    by_cases hlt : k < n
    · have hkR : k < R.length := by rw [HN.out]; exact hlt
      have hkJ : k < J.length := by rw [HJ.out]; exact hlt
      obtain ⟨_, _, _, u, q0, qr⟩ := KR.out wo S.out.2.1 k hkR
      obtain ⟨j0, _⟩ := KJ.out wo S.out.2.1 k hkJ
      have j0' : wo.cell? ⟨vb, vo + k * 2, none⟩ = some (.int .i64 (hw J k)) := j0
      obtain ⟨ua, uc, hu⟩ := qr.form
      subst hu
      have QR : Hid (Lists.Reads wo (.slice ua (Tk.cl R k).length uc) (Tk.cl R k)) := qr
      have i0' : (0 : Int) ≤ (k : Int) := by omega
      have i1 : (k : Int) < (n : Int) := by omega
      have hl := sl_len R J k
      have ul60 := HF.out.len k hkR
      have BST : Hid ((List.range (Tk.cl R k).length).any (ha R J k) = bst R (fl R J k) k) := ha_bst HF.out hkR
      clear j0 qr
      obtain ⟨ul, hul⟩ : ∃ y, (Tk.cl R k).length = y := ⟨_, rfl⟩
      obtain ⟨sn, hsn⟩ : ∃ y, (sl R J k).length = y := ⟨_, rfl⟩
      have HUL : Hid ((Tk.cl R k).length = ul) := hul
      have HSN : Hid ((sl R J k).length = sn) := hsn
      obtain ⟨b3, hb3⟩ : ∃ y, (hw J k == 3) = y := ⟨_, rfl⟩
      have HB3 : Hid ((hw J k == 3) = b3) := hb3
      rw [hul] at q0 QR BST ul60
      rw [hsn] at S hl ⊢
      clear hul hsn
      go_upto_region 10 with fail
      try rw [hb3]
      clear hb3
      clear a0 a3 q0 j0'
      go_loopw [7, 5] (fun c v wi => ∃ (q : Nat), q ≤ ul ∧ c = .int .i64 q ∧ v = .bool (b3 || (List.range q).any (ha R J k)) ∧ Hid (Below wo.heap.size wo wi)) (fun c _ _ => ul - (intOf c).toNat)
      case atStart => exact ⟨0, Nat.zero_le _, rfl, by simp, Below.refl _ _⟩
      case round =>
        obtain ⟨q, hq, rfl, rfl, W2⟩ := hrel
        obtain ⟨w2, hw2⟩ : ∃ y, y = wr := ⟨_, rfl⟩
        subst hw2
        by_cases hql : q < ul
        · have q1 : (0 : Int) ≤ (q : Int) := by omega
          have q2 : (q : Int) < (ul : Int) := by omega
          obtain ⟨bq, hbq⟩ : ∃ y, (b3 || (List.range q).any (ha R J k)) = y := ⟨_, rfl⟩
          have HBQ : Hid ((b3 || (List.range q).any (ha R J k)) = bq) := hbq
          rw [hbq]
          clear hbq
          go_upto_region 13 with fail
          go_loopw [8, 5] (fun c v wj => ∃ (p : Nat), p ≤ sn ∧ c = .int .i64 p ∧ v = .bool (bq || (List.range p).any (hm R J k q)) ∧ Hid (Below wo.heap.size wo wj)) (fun c _ _ => sn - (intOf c).toNat)
          case atStart => exact ⟨0, Nat.zero_le _, rfl, by simp, W2⟩
          case round =>
            obtain ⟨p, hp, rfl, rfl, W3⟩ := hrel
            by_cases hpl : p < sn
            · have p1 : (0 : Int) ≤ (p : Int) := by omega
              have p2 : (p : Int) < (sn : Int) := by omega
              have RL : Lists.Reads wr (.slice la sn lc) (sl R J k) := (by have r := S.out.1; rw [← HSN.out] at r ⊢; exact (Lists.reads_row r).on W3.out)
              have RU : Lists.Reads wr (.slice ua ul uc) (Tk.cl R k) := QR.out.on W3.out
              obtain ⟨lb, lo, lx, hle, _, _, _, hlc⟩ : ∃ b o cap, Value.slice la sn lc = .slice (some ⟨b, o, none⟩) (sl R J k).length cap ∧ (sl R J k).length ≤ cap ∧ cap ≤ maxLen ∧ b < wr.heap.size ∧ ∀ i, i < (sl R J k).length → wr.cell? ⟨b, o + i, none⟩ = some (.int .i64 ((sl R J k).getD i 0)) := by
                rcases RL with ⟨h0, _⟩ | h0
                · have := HSN.out; rw [h0] at this; simp at this; omega
                · exact h0
              obtain ⟨ub, uo, ux, hue, _, _, _, huc⟩ : ∃ b o cap, Value.slice ua ul uc = .slice (some ⟨b, o, none⟩) (Tk.cl R k).length cap ∧ (Tk.cl R k).length ≤ cap ∧ cap ≤ maxLen ∧ b < wr.heap.size ∧ ∀ i, i < (Tk.cl R k).length → wr.cell? ⟨b, o + i, none⟩ = some (.int .i64 ((Tk.cl R k).getD i 0)) := by
                rcases RU with ⟨h0, _⟩ | h0
                · have := HUL.out; rw [h0] at this; simp at this; omega
                · exact h0
              simp at hle hue
              have hla := hle.1
              have hua := hue.1
              subst hla hua
              have e1 : wr.cell? ⟨lb, lo + p, none⟩ = some (.int .i64 ((sl R J k).getD p 0)) := hlc p (by rw [HSN.out]; exact hpl)
              have e2 : wr.cell? ⟨ub, uo + q, none⟩ = some (.int .i64 ((Tk.cl R k).getD q 0)) := huc q (by rw [HUL.out]; exact hql)
              clear hlc huc hle hue RL RU
              have AN : Hid ((bq || (List.range (p + 1)).any (hm R J k q)) = ((bq || (List.range p).any (hm R J k q)) || hm R J k q p)) := (by show _ = _; rw [any_next, Bool.or_assoc])
              have EH : Hid (hm R J k q p = ((sl R J k).getD p 0 == (Tk.cl R k).getD q 0)) := rfl
              obtain ⟨bp, hbp⟩ : ∃ y, (bq || (List.range p).any (hm R J k q)) = y := ⟨_, rfl⟩
              rw [hbp] at AN ⊢
              clear hbp
              obtain ⟨z1, hz1'⟩ : ∃ y, (sl R J k).getD p 0 = y := ⟨_, rfl⟩
              obtain ⟨z2, hz2'⟩ : ∃ y, (Tk.cl R k).getD q 0 = y := ⟨_, rfl⟩
              rw [hz1'] at e1 EH
              rw [hz2'] at e2 EH
              rw [EH.out] at AN
              clear hz1' hz2' EH
              cases bp
              · cases hzz : (z1 == z2)
                · rw [hzz] at AN
                  go_wp2_with fail
                  go_quiet (fail)
                  go_wp2_with fail
                  go_roundw
                  case rel => exact ⟨p + 1, by omega, by go_num, by rw [AN.out]; rfl, below_drewN W3.out _⟩
                  case measure => simp [intOf]; omega
                · rw [hzz] at AN
                  go_wp2_with fail
                  go_quiet (fail)
                  go_wp2_with fail
                  go_roundw
                  case rel => exact ⟨p + 1, by omega, by go_num, by rw [AN.out]; rfl, below_drewN W3.out _⟩
                  case measure => simp [intOf]; omega
              · rw [Bool.true_or] at AN
                go_wp2_with fail
                go_quiet (fail)
                go_wp2_with fail
                go_roundw
                case rel => exact ⟨p + 1, by omega, by go_num, by rw [AN.out], below_drewN W3.out _⟩
                case measure => simp [intOf]; omega
            · have ep : p = sn := by omega
              subst ep
              have p2 : ¬ (p : Int) < (p : Int) := by omega
              have AQ : Hid ((b3 || (List.range (q + 1)).any (ha R J k)) = (bq || (List.range p).any (hm R J k q))) := (by show _ = _; rw [any_next, ← Bool.or_assoc, HBQ.out, ha, HSN.out])
              go_wp2_with fail
              go_roundw
              case rel => exact ⟨q + 1, by omega, by go_num, by rw [AQ.out], W3⟩
              case measure => simp [intOf]; omega
        · have eq' : q = ul := by omega
          subst eq'
          have q2 : ¬ (q : Int) < (q : Int) := by omega
          have S2 : Hid (World.ownsRow w2 (w.heap.size + 1) 2 1 (.slice la sn lc) sn (ints (sl R J k)) ∧ Below w.heap.size w w2 ∧ Bl w2 w.heap.size 35 #[.slice (some ⟨br, or, none⟩) n cr, .slice ax m cx, .int .i64 now, .slice (some ⟨vb, vo, none⟩) n cj]) := ⟨Tk1.row_on S.out.1 W2.out, S.out.2.1.trans (W2.out.mono S.out.2.1.size), S.out.2.2.on W2.out⟩
          rw [BST.out]
          cases hb : (b3 || bst R (fl R J k) k)
          · have HL : Hid (sl R J (k + 1) = sl R J k) := sl_no (by rw [HB3.out]; exact hb)
            clear hb
            go_wp2_with fail
            go_roundw
            case rel => exact ⟨k + 1, la, lc, by omega, by go_num, by rw [HL.out, HSN.out], by have r := S2; rw [HL.out, HSN.out]; exact r⟩
            case measure => simp [intOf]; omega
          · have HL : Hid (sl R J (k + 1) = sl R J k ++ [(k : Int) + 1]) := sl_yes (by rw [HB3.out]; exact hb)
            clear hb S
            have OA : Hid ((w2.alloc (.cells #[.int .i64 ((k : Int) + 1)] 2)).ownsRow (w.heap.size + 1) 2 1 (.slice la sn lc) sn (ints (sl R J k))) := S2.out.1.alloc _
            have ZA : Hid (w.heap.size + 1 ≤ (w2.alloc (.cells #[.int .i64 ((k : Int) + 1)] 2)).heap.size) := (by have := S2.out.2.2.lt; show _ ≤ _; simp; omega)
            go_upto_region 17 with fail
            go_wp2_with (at_builtin; refine wpList_append_own _ rfl _ _ 23 rfl (w.heap.size + 1) 2 i0 (.int .i64 0) 1 8 Try.underlying23 hi hz0 hz1 hz2 rfl (by decide) _ _ _ rfl OA.out ⟨w2.heap.size, 0, none⟩ 1 1 [.int .i64 ((k : Int) + 1)] rfl rfl ?c1 ?c2 ?c3 ?c4 ZA.out ?_)
            case c2 => first | rfl | (intro u hu; simp at hu; subst hu; rfl)
            case c3 => first | omega | (unfold maxLen; omega)
            case c4 => omega
            intro v5 w5 hown hgrow hnil5
            obtain ⟨g5, c5, rfl, p1, p2, p3, p4⟩ := Cp.row_some hown (by first | exact hnil5 | (intro e; have := hnil5.1 e; simp at this))
            have SN : Hid (World.ownsRow w5 (w.heap.size + 1) 2 1 (.slice (some ⟨g5, 0, none⟩) (sn + 1) c5) (sl R J (k + 1)).length (ints (sl R J (k + 1))) ∧ Below w.heap.size w w5 ∧ Bl w5 w.heap.size 35 #[.slice (some ⟨br, or, none⟩) n cr, .slice ax m cx, .int .i64 now, .slice (some ⟨vb, vo, none⟩) n cj]) := (by
              obtain ⟨s1, s2, s3⟩ := S2.out
              have bA : Below w2.heap.size w2 (w2.alloc (.cells #[.int .i64 ((k : Int) + 1)] 2)) := (Below.refl _ _).alloc (Nat.le_refl _) _
              have kg := KB.of_grown (S := fun b => (Value.slice la sn lc).ownBlock = some b) hgrow (fun b hb => hb)
              refine ⟨?_, (s2.trans (bA.mono s2.size)).trans (kg.below (Nat.le_trans s2.size bA.size) (fun b hb => by have := (OA.out.lt b hb).1; omega)), (s3.on bA).kb kg (fun hb => (row_ty OA.out _ hb).ne (s3.on bA).ty (by decide) rfl)⟩
              rw [HL.out]
              simpa [ints, HSN.out] using hown)
            have HL2 : Hid ((sl R J (k + 1)).length = sn + 1) := (by show _ = _; rw [HL.out]; simp [HSN.out])
            clear hown hgrow hnil5 p1 p2 p3 p4 S2 OA ZA
            go_wp2_with fail
            go_roundw
            case rel => exact ⟨k + 1, some ⟨g5, 0, none⟩, c5, by omega, by go_num, by rw [HL2.out], by have r := SN; rw [HL2.out] at r ⊢; exact r⟩
            case measure => simp [intOf]; omega
    · have ek : k = n := by omega
      subst ek
      have i1 : ¬ (k : Int) < (k : Int) := by omega
      go_wp2_with fail
      go_ret
      exact ⟨la, lc, rfl, Lists.reads_row S.out.1, S.out.2.1⟩
end Go.Proofs.Ytpdmfhbpedimaaa.Ty
