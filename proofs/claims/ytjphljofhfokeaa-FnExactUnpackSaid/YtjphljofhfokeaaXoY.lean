/- What a Packed unpacks to, as the model tells it. -/
import Derived.Test.YtjphljofhfokeaaXoX
namespace Go.Proofs.Ytjphljofhfokeaa.Pkd
open Go.ChangeShapes Go.WideShapes Go.ChangeAt Go.RowKit
open Go.Proofs.Ytjphljofhfokeaa.Lists Go.Proofs.Ytjphljofhfokeaa.Flt Go.Proofs.Ytjphljofhfokeaa.Fls

theorem row_empty (w : World) (B : Nat) (hB : B ≤ w.heap.size) : (w.alloc (Obj.cells #[] 41)).ownsRow B 41 1 (.slice (some ⟨w.heap.size, 0, none⟩) 0 0) 0 [] := by
  refine ⟨rfl, .inr ⟨w.heap.size, 0, #[], rfl, hB, ?_, by simp⟩⟩
  unfold World.alloc
  exact Array.getElem?_push_size
theorem row_later {w w' : World} {base B n : Nat} {v : Value} {xs : List Value} (h : w.ownsRow base 41 1 v n xs) (hb : Below B w w') (hB : w.heap.size ≤ B) : w'.ownsRow base 41 1 v n xs := by
  refine h.kept (row := none) ⟨hb.os, hb.tape, hb.output, hb.size, fun k hk _ => hb.block k (by omega)⟩ ?_
  by_cases e : v.ownBlock = none
  · exact Or.inl e
  · exact Or.inr e

set_option maxHeartbeats 1000000 in
theorem sup_no (p : Pk) (tv cv : Value) (w : World) (hT : Bytes.Reads w tv p.th) (hC : Lists.Reads w cv p.cd) (hB : byts p.th) (l1 : p.th.length ≤ 1048576) (l2 : p.cd.length ≤ 1048576) (ho : okI p = false) :
    Calls Try.prog 14 #[pkv p tv cv] w fun e w' => ∃ v, e = .returned (.tuple #[v, .bool false]) ∧ w'.ownsRow w.heap.size 41 1 v 0 [] ∧ Below w.heap.size w w' := by
  have HP : Hid (∀ w', Below w.heap.size w w' → Calls Try.prog 32 #[pkv p tv cv] w' fun e w'' => e = .returned (.bool false) ∧ Below w'.heap.size w' w'') := fun w' hb => (by rw [← ho]; exact spok_any p tv cv w' (hT.on hb) (hC.on hb) hB l1 l2)
  have B0 : Below w.heap.size w (w.alloc (Obj.cells #[.int .i64 p.cnt, .int .i64 p.dec, .int .i64 p.ref, .int .i64 p.exp, .int .i64 p.bits, tv, cv] 26)) := (Below.refl _ _).alloc (Nat.le_refl _) _
  have R0 := row_empty (w.alloc (Obj.cells #[.int .i64 p.cnt, .int .i64 p.dec, .int .i64 p.ref, .int .i64 p.exp, .int .i64 p.bits, tv, cv] 26)) w.heap.size (by simp)
  have B1 : Hid (Below w.heap.size w ((w.alloc (Obj.cells #[.int .i64 p.cnt, .int .i64 p.dec, .int .i64 p.ref, .int .i64 p.exp, .int .i64 p.bits, tv, cv] 26)).alloc (Obj.cells #[] 41))) := B0.alloc (by simp) _
  rw [show (w.alloc (Obj.cells #[.int .i64 p.cnt, .int .i64 p.dec, .int .i64 p.ref, .int .i64 p.exp, .int .i64 p.bits, tv, cv] 26)).heap.size = w.heap.size + 1 by simp] at R0
  obtain ⟨w1, hw1⟩ : ∃ w1, w1 = (w.alloc (Obj.cells #[.int .i64 p.cnt, .int .i64 p.dec, .int .i64 p.ref, .int .i64 p.exp, .int .i64 p.bits, tv, cv] 26)).alloc (Obj.cells #[] 41) := ⟨_, rfl⟩
  rw [← hw1] at B1 R0
  have HW1 : Hid (w1 = (w.alloc (Obj.cells #[.int .i64 p.cnt, .int .i64 p.dec, .int .i64 p.ref, .int .i64 p.exp, .int .i64 p.bits, tv, cv] 26)).alloc (Obj.cells #[] 41)) := hw1
  have R1 : Hid (w1.ownsRow w.heap.size 41 1 (.slice (some ⟨w.heap.size + 1, 0, none⟩) 0 0) 0 []) := R0
  clear ho hT hC B0 hw1 R0
  unfold pkv at HP ⊢
  go_enter Try.func14, Try.ntmps14
  go_wp2_with fail
  rw [← HW1.out]
  refine (HP.out w1 B1.out).mono ?_
  rintro e w2 ⟨rfl, b2⟩
  have B2 : Hid (Below w.heap.size w w2) := B1.out.trans (b2.mono B1.out.size)
  have R2 : Hid (w2.ownsRow w.heap.size 41 1 (.slice (some ⟨w.heap.size + 1, 0, none⟩) 0 0) 0 []) := row_later R1.out b2 (Nat.le_refl _)
  clear b2 HW1 HP
  go_wp2_with fail
  go_ret2
  exact ⟨_, rfl, R2.out, B2.out⟩

set_option maxHeartbeats 1000000 in
theorem sup_empty (dec r : Int) (n b d : Nat) (T L : List Int) (tv cv : Value) (w : World) (hT : Bytes.Reads w tv T) (hC : Lists.Reads w cv L) (hB : byts T)
    (h2 : n ≤ 4096) (h3 : -3 ≤ dec) (h4 : dec ≤ 6) (h5 : 1 ≤ b) (h6 : b ≤ 24) (h7 : d ≤ 41) (h8 : -1099511627776 ≤ r) (h9 : r ≤ 1099511627776) (h0 : T.length = 0) (hth : thB (n : Int) T L.length = true) (hk : L.all (cok (mst b d)) = true) :
    Calls Try.prog 14 #[.agg #[.int .i64 (n : Int), .int .i64 dec, .int .i64 r, .int .i64 (d : Int), .int .i64 (b : Int), tv, cv]] w fun e w' => ∃ v, e = .returned (.tuple #[v, .bool true]) ∧ (∃ M : List Nat, w'.ownsRow w.heap.size 41 1 v M.length (flts M) ∧ M.map cn = (outs dec r d T L n).map cn) ∧ Below w.heap.size w w' := by
  obtain ⟨i0, hi, hz0, hz1, hz2⟩ := info_parts Try.info41
  obtain ⟨l2, l1⟩ := nc_le n T L.length hB hth (by omega)
  obtain ⟨w1, hw1⟩ : ∃ w1, w1 = (w.alloc (Obj.cells #[.int .i64 (n : Int), .int .i64 dec, .int .i64 r, .int .i64 (d : Int), .int .i64 (b : Int), tv, cv] 26)).alloc (Obj.cells #[] 41) := ⟨_, rfl⟩
  have B1 : Hid (Below w.heap.size w w1) := (by show Below _ _ _; rw [hw1]; exact ((Below.refl _ _).alloc (Nat.le_refl _) _).alloc (by simp) _)
  have z1 : w1.heap.size = w.heap.size + 2 := by rw [hw1]; simp
  have R1 : Hid (w1.ownsRow (w.heap.size + 1) 41 1 (.slice (some ⟨w.heap.size + 1, 0, none⟩) 0 0) 0 []) := (by
    have h := row_empty (w.alloc (Obj.cells #[.int .i64 (n : Int), .int .i64 dec, .int .i64 r, .int .i64 (d : Int), .int .i64 (b : Int), tv, cv] 26)) (w.heap.size + 1) (by simp)
    rw [← hw1, show (w.alloc (Obj.cells #[.int .i64 (n : Int), .int .i64 dec, .int .i64 r, .int .i64 (d : Int), .int .i64 (b : Int), tv, cv] 26)).heap.size = w.heap.size + 1 by simp] at h
    exact h)
  have ho : okI ⟨n, dec, r, d, b, T, L⟩ = true := by
    unfold okI heads inn
    simp only [Int.toNat_natCast]
    rw [hth, hk]
    simp [h3, h4, h8, h9]
    omega
  have HP : Hid (Calls Try.prog 32 #[.agg #[.int .i64 (n : Int), .int .i64 dec, .int .i64 r, .int .i64 (d : Int), .int .i64 (b : Int), tv, cv]] w1 fun e w' => e = .returned (.bool true) ∧ Below w1.heap.size w1 w') := (by show Calls _ _ _ _ _; rw [← ho]; exact spok_any ⟨n, dec, r, d, b, T, L⟩ tv cv w1 (hT.on B1.out) (hC.on B1.out) hB (by simp only; omega) (by simp only; omega))
  have k0 : w1.cell? ⟨w.heap.size, 0, none⟩ = some (.int .i64 (n : Int)) := by rw [hw1]; simp [go_sem]
  have k1 : w1.cell? ⟨w.heap.size, 1, none⟩ = some (.int .i64 dec) := by rw [hw1]; simp [go_sem]
  have k2 : w1.cell? ⟨w.heap.size, 2, none⟩ = some (.int .i64 r) := by rw [hw1]; simp [go_sem]
  have k3 : w1.cell? ⟨w.heap.size, 3, none⟩ = some (.int .i64 (d : Int)) := by rw [hw1]; simp [go_sem]
  have k4 : w1.cell? ⟨w.heap.size, 4, none⟩ = some (.int .i64 (b : Int)) := by rw [hw1]; simp [go_sem]
  have k5 : w1.cell? ⟨w.heap.size, 5, none⟩ = some (tv) := by rw [hw1]; simp [go_sem]
  have k6 : w1.cell? ⟨w.heap.size, 6, none⟩ = some (cv) := by rw [hw1]; simp [go_sem]
  have HW1 : Hid (w1 = (w.alloc (Obj.cells #[.int .i64 (n : Int), .int .i64 dec, .int .i64 r, .int .i64 (d : Int), .int .i64 (b : Int), tv, cv] 26)).alloc (Obj.cells #[] 41)) := hw1
  have HPL : Hid (∀ k, k < n → T.length = 0 ∨ k < T.length) := fun k hk => th_place n T L.length k hB hth (by omega)
  have HLT : Hid (∀ k, k < n → miss T k = false → nz T k < L.length) := fun k hk hm => nz_lt n T L.length k hB hth (by omega) hm
  have HWB : Hid (∀ i, i < L.length → (wh r d (L.getD i 0)).natAbs < 9007199254740992) := fun i hi => wh_bound b d r L h6 h8 h9 hk i hi
  have HPB : Hid (∀ i, i < L.length → 0 ≤ L.getD i 0 * 2 ^ d ∧ L.getD i 0 * 2 ^ d ≤ 4398046511104) := fun i hi => (by
    have me : L.getD i 0 ∈ L := (by simp [List.getD_eq_getElem?_getD, hi])
    rw [List.all_eq_true] at hk
    obtain ⟨p0, p1, _⟩ := pow_bound b d _ (hk _ me) h6
    exact ⟨p0, p1⟩)
  clear hw1 ho hth hk hB
  go_enter Try.func14, Try.ntmps14
  go_wp2_with fail
  rw [← HW1.out]
  refine HP.out.mono ?_
  rintro e w2 ⟨rfl, b2⟩
  have B2 : Hid (Below w.heap.size w w2) := B1.out.trans (b2.mono B1.out.size)
  have R2 : Hid (w2.ownsRow (w.heap.size + 1) 41 1 (.slice (some ⟨w.heap.size + 1, 0, none⟩) 0 0) 0 []) := row_later R1.out b2 (Nat.le_refl _)
  have z2 : w.heap.size + 2 ≤ w2.heap.size := by have := b2.size; omega
  have m0 : w2.cell? ⟨w.heap.size, 0, none⟩ = some (.int .i64 (n : Int)) := (b2.cell (p := ⟨w.heap.size, 0, none⟩) (by show w.heap.size < _; omega)).trans k0
  have m1 : w2.cell? ⟨w.heap.size, 1, none⟩ = some (.int .i64 dec) := (b2.cell (p := ⟨w.heap.size, 1, none⟩) (by show w.heap.size < _; omega)).trans k1
  have m2 : w2.cell? ⟨w.heap.size, 2, none⟩ = some (.int .i64 r) := (b2.cell (p := ⟨w.heap.size, 2, none⟩) (by show w.heap.size < _; omega)).trans k2
  have m3 : w2.cell? ⟨w.heap.size, 3, none⟩ = some (.int .i64 (d : Int)) := (b2.cell (p := ⟨w.heap.size, 3, none⟩) (by show w.heap.size < _; omega)).trans k3
  have m4 : w2.cell? ⟨w.heap.size, 4, none⟩ = some (.int .i64 (b : Int)) := (b2.cell (p := ⟨w.heap.size, 4, none⟩) (by show w.heap.size < _; omega)).trans k4
  have m5 : w2.cell? ⟨w.heap.size, 5, none⟩ = some (tv) := (b2.cell (p := ⟨w.heap.size, 5, none⟩) (by show w.heap.size < _; omega)).trans k5
  have m6 : w2.cell? ⟨w.heap.size, 6, none⟩ = some (cv) := (b2.cell (p := ⟨w.heap.size, 6, none⟩) (by show w.heap.size < _; omega)).trans k6
  clear b2 HW1 HP k0 k1 k2 k3 k4 k5 k6 B1 z1 R1
  go_wp2_with fail
  have RT := hT.on B2.out
  have RC := hC.on B2.out
  obtain ⟨y, cap, rfl⟩ := RT.form
  obtain ⟨x, capx, rfl⟩ := RC.form
  have hct : ∃ f : Nat → Nat × Nat, (0 < T.length → y = some ⟨(f 0).1, (f 0).2, none⟩ ∧ (f 0).1 < w.heap.size) ∧ ∀ i, i < T.length → w.cell? ⟨(f 0).1, (f 0).2 + i, none⟩ = some (.int .u8 (T.getD i 0)) := by
    rcases hT with ⟨h, _⟩ | ⟨b, o, cap, h1, h2, h3, h4, h5⟩
    · have : T.length = 0 := by rw [h]; rfl
      exact ⟨fun _ => (0, 0), fun hi => by omega, fun i hi => by omega⟩
    · refine ⟨fun _ => (b, o), fun _ => ?_, h5⟩
      simp at h1
      exact ⟨h1.1, h4⟩
  have hcx : ∃ g : Nat → Nat × Nat, (0 < L.length → x = some ⟨(g 0).1, (g 0).2, none⟩ ∧ (g 0).1 < w.heap.size) ∧ ∀ i, i < L.length → w.cell? ⟨(g 0).1, (g 0).2 + i, none⟩ = some (.int .i64 (L.getD i 0)) := by
    rcases hC with ⟨h, _⟩ | ⟨b, o, cap, h1, h2, h3, h4, h5⟩
    · have : L.length = 0 := by rw [h]; rfl
      exact ⟨fun _ => (0, 0), fun hi => by omega, fun i hi => by omega⟩
    · refine ⟨fun _ => (b, o), fun _ => ?_, h5⟩
      simp at h1
      exact ⟨h1.1, h4⟩
  obtain ⟨f, fx, fc⟩ := hct
  obtain ⟨g, gx, gc⟩ := hcx
  have FX : Hid (0 < T.length → y = some ⟨(f 0).1, (f 0).2, none⟩ ∧ (f 0).1 < w.heap.size) := fx
  have FC : Hid (∀ i, i < T.length → w.cell? ⟨(f 0).1, (f 0).2 + i, none⟩ = some (.int .u8 (T.getD i 0))) := fc
  have GX : Hid (0 < L.length → x = some ⟨(g 0).1, (g 0).2, none⟩ ∧ (g 0).1 < w.heap.size) := gx
  have GC : Hid (∀ i, i < L.length → w.cell? ⟨(g 0).1, (g 0).2 + i, none⟩ = some (.int .i64 (L.getD i 0))) := gc
  clear fx fc gx gc RT RC hT hC
  have H0 : Hid (T.length = 0) := h0
  rw [h0] at m5
  simp only [h0]
  clear h0
  go_loopw [4, 5, 6] (fun v t i wr => ∃ k : Nat, ∃ M : List Nat, k ≤ n ∧ i = .int .i64 k ∧ t = .int .i64 (nz T k : Nat) ∧ Hid (M.length = k) ∧ Hid (M.map cn = (outs dec r d T L k).map cn) ∧ Hid (wr.ownsRow (w.heap.size + 1) 41 1 v k (flts M)) ∧ Hid (Below (w.heap.size + 1) w2 wr)) (fun _ _ i _ => n - (intOf i).toNat)
  case atStart => exact ⟨0, [], Nat.zero_le _, rfl, by rw [nz_zero]; rfl, rfl, rfl, R2, Below.refl _ _⟩
  case round =>
    obtain ⟨k, M, hk, rfl, rfl, HM, HC, O, BB⟩ := hrel
    obtain ⟨sa, sc, rfl⟩ := row_form O.out
    have zr : w.heap.size + 2 ≤ wr.heap.size := by have := BB.out.size; omega
    have q0 : wr.cell? ⟨w.heap.size, 0, none⟩ = some (.int .i64 (n : Int)) := (BB.out.cell (p := ⟨w.heap.size, 0, none⟩) (by show w.heap.size < _; omega)).trans m0
    by_cases hlt : k < n
    · have i0' : (0 : Int) ≤ (k : Int) := by omega
      have i1 : (k : Int) < (n : Int) := by omega
      have q1 : wr.cell? ⟨w.heap.size, 1, none⟩ = some (.int .i64 dec) := (BB.out.cell (p := ⟨w.heap.size, 1, none⟩) (by show w.heap.size < _; omega)).trans m1
      have q2 : wr.cell? ⟨w.heap.size, 2, none⟩ = some (.int .i64 r) := (BB.out.cell (p := ⟨w.heap.size, 2, none⟩) (by show w.heap.size < _; omega)).trans m2
      have q3 : wr.cell? ⟨w.heap.size, 3, none⟩ = some (.int .i64 (d : Int)) := (BB.out.cell (p := ⟨w.heap.size, 3, none⟩) (by show w.heap.size < _; omega)).trans m3
      have q5 : wr.cell? ⟨w.heap.size, 5, none⟩ = some (.slice y 0 cap) := (BB.out.cell (p := ⟨w.heap.size, 5, none⟩) (by show w.heap.size < _; omega)).trans m5
      have q6 : wr.cell? ⟨w.heap.size, 6, none⟩ = some (.slice x L.length capx) := (BB.out.cell (p := ⟨w.heap.size, 6, none⟩) (by show w.heap.size < _; omega)).trans m6
      have HPL2 : Hid (T.length = 0 ∨ k < T.length) := HPL.out k hlt
      have BW : Hid (Below (w.heap.size + 1) w2 wr) := BB
      cases hm : miss T k
      · have hnl := HLT.out k hlt hm
        obtain ⟨hx, hg⟩ := GX.out (by omega)
        have qc : wr.cell? ⟨(g 0).1, (g 0).2 + nz T k, none⟩ = some (.int .i64 (L.getD (nz T k) 0)) := ((BB.out.cell (p := ⟨(g 0).1, (g 0).2 + nz T k, none⟩) (by show (g 0).1 < _; omega)).trans (B2.out.cell (p := ⟨(g 0).1, (g 0).2 + nz T k, none⟩) hg)).trans (GC.out _ hnl)
        have ee : el dec r d T L k = vl dec (wh r d (L.getD (nz T k) 0)) := by unfold el; rw [hm]; rfl
        have HZB := HWB.out _ hnl
        obtain ⟨p0, p1⟩ := HPB.out _ hnl
        have HNZ : Hid (nz T (k + 1) = nz T k + 1) := nz_yes T k HPL2.out hm
        have OS : Hid (outs dec r d T L (k + 1) = outs dec r d T L k ++ [vl dec (wh r d (L.getD (nz T k) 0))]) := (by show _ = _; rw [outs_succ, ee])
        have hwh : wh r d (L.getD (nz T k) 0) = r + L.getD (nz T k) 0 * 2 ^ d := rfl
        rw [hwh] at HZB OS
        clear ee hwh
        have hl4 : L.length ≤ 4096 := l2
        generalize L.getD (nz T k) 0 = c at *
        obtain ⟨yy, hyy⟩ : ∃ yy, yy = c * 2 ^ d := ⟨_, rfl⟩
        have e1 : wrap64 (c * 2 ^ d) = yy := by rw [← hyy]; exact IntWalk.wrap64_in _ (by omega)
        have e1' : IntKind.i64.wrap (c * 2 ^ d) = yy := by rw [← hyy]; exact IntWalk.i64_in _ (by omega)
        rw [← hyy] at p0 p1 HZB OS
        have HYY : Hid (yy = c * 2 ^ d) := hyy
        clear hyy
        obtain ⟨z, hz⟩ : ∃ z, z = r + yy := ⟨_, rfl⟩
        have e2 : wrap64 (r + yy) = z := by rw [hz]; exact IntWalk.wrap64_in _ (by omega)
        have e2' : IntKind.i64.wrap (r + yy) = z := by rw [hz]; exact IntWalk.i64_in _ (by omega)
        rw [← hz] at HZB OS
        clear hz
        have HZ2 : Hid (z.natAbs < 9007199254740992) := HZB
        clear HZB
        generalize nz T k = t at *
        have a0 : (0 : Int) ≤ (t : Int) := by omega
        have a1 : (t : Int) < (L.length : Int) := by omega
        subst hx
        go_wp2_with fail
        go_region
        by_cases hdn : dec < 0
        · obtain ⟨p, rfl⟩ : ∃ p : Nat, dec = -(p : Int) := ⟨(-dec).toNat, by omega⟩
          have p1' : 1 ≤ p := by omega
          have p2' : p ≤ 6 := by omega
          have ev : vl (-(p : Int)) z = opF .mul (fi z) (tenF p) := by unfold vl; rw [if_pos hdn, Int.neg_neg, Int.toNat_natCast]
          have hmu : ∀ w, (binOp .mul 41 (.float .f64 (floatOfInt .f64 z)) (.float .f64 (tenF p))).run Try.prog w = .ok (.float .f64 (vl (-(p : Int)) z)) w := fun w => by rw [ev]; exact run_float_arith w .mul 41 .f64 _ _ _ (mul_some z HZ2.out p p2')
          have HQ : Hid (1 ≤ p ∧ p ≤ 6) := ⟨p1', p2'⟩
          clear ev
          generalize vl (-(p : Int)) z = X at *
          have OD : Hid (wr.drew.ownsRow (w.heap.size + 1) 41 1 (.slice sa k sc) k (flts M)) := O.out
          go_wp2_with (first | (go_at_call 34; refine (ten_neg p HQ.out.2 HQ.out.1 _).mono ?_; rintro e w' ⟨rfl, hw⟩; subst hw) | (at_builtin; refine wpList_append_own_at _ rfl _ _ 22 rfl (w.heap.size + 1) 41 i0 (.float .f64 0) 1 8 Try.underlying22 hi hz0 hz1 hz2 rfl (by decide) _ _ _ rfl (OD.out.alloc _) ⟨wr.heap.size, 0, none⟩ 1 1 [.float .f64 X] rfl rfl (cell_one_new wr.drew _ _) ?c2 ?c3 ?c4 ?c5 ?_))
          case c2 => intro u hu; simp at hu; subst hu; rfl
          case c3 => unfold maxLen; omega
          case c4 => omega
          case c5 => simp; omega
          intro v' w6 hown hgrow hnil hat
          have O6 : Hid (w6.ownsRow (w.heap.size + 1) 41 1 v' (k + 1) (flts (M ++ [X]))) := (by show World.ownsRow _ _ _ _ _ _ _; rw [show flts (M ++ [X]) = flts M ++ [.float .f64 X] by simp [flts]]; exact hown)
          have B6 : Hid (Below (w.heap.size + 1) w2 w6) := ((below_drewN BW.out 1).alloc (by simp; omega) _).grown hgrow (by simp; omega) (fun b hb => (OD.out.lt b hb).1)
          clear hown hgrow hnil hat O BB
          go_wp2_with fail
          go_roundw
          case rel => exact ⟨k + 1, M ++ [X], by omega, by go_num, by rw [HNZ.out]; go_num, (by show _ = _; rw [List.length_append, HM.out]; rfl), (by show _ = _; rw [List.map_append, HC.out, OS.out, List.map_append]), O6, B6⟩
          case measure => simp [intOf]; omega
        · obtain ⟨p, rfl⟩ : ∃ p : Nat, dec = (p : Int) := ⟨dec.toNat, by omega⟩
          have p2' : p ≤ 6 := by omega
          have ev : vl (p : Int) z = opF .quo (fi z) (tenF p) := by unfold vl; rw [if_neg hdn, Int.toNat_natCast]
          have hmu : ∀ w, (binOp .quo 41 (.float .f64 (floatOfInt .f64 z)) (.float .f64 (tenF p))).run Try.prog w = .ok (.float .f64 (vl (p : Int) z)) w := fun w => by rw [ev]; exact run_float_arith w .quo 41 .f64 _ _ _ (quo_some z HZ2.out p p2')
          have HQ : Hid (p ≤ 6) := p2'
          clear ev
          generalize vl (p : Int) z = X at *
          have OD : Hid (wr.drew.ownsRow (w.heap.size + 1) 41 1 (.slice sa k sc) k (flts M)) := O.out
          go_wp2_with (first | (go_at_call 34; refine (ten_pos p HQ.out _).mono ?_; rintro e w' ⟨rfl, hw⟩; subst hw) | (at_builtin; refine wpList_append_own_at _ rfl _ _ 22 rfl (w.heap.size + 1) 41 i0 (.float .f64 0) 1 8 Try.underlying22 hi hz0 hz1 hz2 rfl (by decide) _ _ _ rfl (OD.out.alloc _) ⟨wr.heap.size, 0, none⟩ 1 1 [.float .f64 X] rfl rfl (cell_one_new wr.drew _ _) ?c2 ?c3 ?c4 ?c5 ?_))
          case c2 => intro u hu; simp at hu; subst hu; rfl
          case c3 => unfold maxLen; omega
          case c4 => omega
          case c5 => simp; omega
          intro v' w6 hown hgrow hnil hat
          have O6 : Hid (w6.ownsRow (w.heap.size + 1) 41 1 v' (k + 1) (flts (M ++ [X]))) := (by show World.ownsRow _ _ _ _ _ _ _; rw [show flts (M ++ [X]) = flts M ++ [.float .f64 X] by simp [flts]]; exact hown)
          have B6 : Hid (Below (w.heap.size + 1) w2 w6) := ((below_drewN BW.out 1).alloc (by simp; omega) _).grown hgrow (by simp; omega) (fun b hb => (OD.out.lt b hb).1)
          clear hown hgrow hnil hat O BB
          go_wp2_with fail
          go_roundw
          case rel => exact ⟨k + 1, M ++ [X], by omega, by go_num, by rw [HNZ.out]; go_num, (by show _ = _; rw [List.length_append, HM.out]; rfl), (by show _ = _; rw [List.map_append, HC.out, OS.out, List.map_append]), O6, B6⟩
          case measure => simp [intOf]; omega
      · exfalso
        have e0 := H0.out
        unfold miss at hm
        rw [e0] at hm
        simp at hm
    · have hkn : k = n := by omega
      subst hkn
      have RE : Hid (∃ M : List Nat, wr.ownsRow w.heap.size 41 1 (.slice sa k sc) M.length (flts M) ∧ M.map cn = (outs dec r d T L k).map cn) := ⟨M, (by
        rw [HM.out]
        have h := O.out
        refine ⟨h.1, ?_⟩
        rcases h.2 with h | ⟨gx, cap, cur, h1, h2, h3⟩
        · exact .inl h
        · exact .inr ⟨gx, cap, cur, h1, by omega, h3⟩), HC.out⟩
      have BE : Hid (Below w.heap.size w wr) := B2.out.trans (BB.out.mono (by omega))
      clear O
      go_wp2_with fail
      go_ret2
      exact ⟨_, rfl, RE.out, BE.out⟩

set_option maxHeartbeats 1000000 in
theorem sup_full (dec r : Int) (n b d : Nat) (T L : List Int) (tv cv : Value) (w : World) (hT : Bytes.Reads w tv T) (hC : Lists.Reads w cv L) (hB : byts T)
    (h2 : n ≤ 4096) (h3 : -3 ≤ dec) (h4 : dec ≤ 6) (h5 : 1 ≤ b) (h6 : b ≤ 24) (h7 : d ≤ 41) (h8 : -1099511627776 ≤ r) (h9 : r ≤ 1099511627776) (h0 : T.length ≠ 0) (hth : thB (n : Int) T L.length = true) (hk : L.all (cok (mst b d)) = true) :
    Calls Try.prog 14 #[.agg #[.int .i64 (n : Int), .int .i64 dec, .int .i64 r, .int .i64 (d : Int), .int .i64 (b : Int), tv, cv]] w fun e w' => ∃ v, e = .returned (.tuple #[v, .bool true]) ∧ (∃ M : List Nat, w'.ownsRow w.heap.size 41 1 v M.length (flts M) ∧ M.map cn = (outs dec r d T L n).map cn) ∧ Below w.heap.size w w' := by
  obtain ⟨i0, hi, hz0, hz1, hz2⟩ := info_parts Try.info41
  obtain ⟨l2, l1⟩ := nc_le n T L.length hB hth (by omega)
  obtain ⟨w1, hw1⟩ : ∃ w1, w1 = (w.alloc (Obj.cells #[.int .i64 (n : Int), .int .i64 dec, .int .i64 r, .int .i64 (d : Int), .int .i64 (b : Int), tv, cv] 26)).alloc (Obj.cells #[] 41) := ⟨_, rfl⟩
  have B1 : Hid (Below w.heap.size w w1) := (by show Below _ _ _; rw [hw1]; exact ((Below.refl _ _).alloc (Nat.le_refl _) _).alloc (by simp) _)
  have z1 : w1.heap.size = w.heap.size + 2 := by rw [hw1]; simp
  have R1 : Hid (w1.ownsRow (w.heap.size + 1) 41 1 (.slice (some ⟨w.heap.size + 1, 0, none⟩) 0 0) 0 []) := (by
    have h := row_empty (w.alloc (Obj.cells #[.int .i64 (n : Int), .int .i64 dec, .int .i64 r, .int .i64 (d : Int), .int .i64 (b : Int), tv, cv] 26)) (w.heap.size + 1) (by simp)
    rw [← hw1, show (w.alloc (Obj.cells #[.int .i64 (n : Int), .int .i64 dec, .int .i64 r, .int .i64 (d : Int), .int .i64 (b : Int), tv, cv] 26)).heap.size = w.heap.size + 1 by simp] at h
    exact h)
  have ho : okI ⟨n, dec, r, d, b, T, L⟩ = true := by
    unfold okI heads inn
    simp only [Int.toNat_natCast]
    rw [hth, hk]
    simp [h3, h4, h8, h9]
    omega
  have HP : Hid (Calls Try.prog 32 #[.agg #[.int .i64 (n : Int), .int .i64 dec, .int .i64 r, .int .i64 (d : Int), .int .i64 (b : Int), tv, cv]] w1 fun e w' => e = .returned (.bool true) ∧ Below w1.heap.size w1 w') := (by show Calls _ _ _ _ _; rw [← ho]; exact spok_any ⟨n, dec, r, d, b, T, L⟩ tv cv w1 (hT.on B1.out) (hC.on B1.out) hB (by simp only; omega) (by simp only; omega))
  have k0 : w1.cell? ⟨w.heap.size, 0, none⟩ = some (.int .i64 (n : Int)) := by rw [hw1]; simp [go_sem]
  have k1 : w1.cell? ⟨w.heap.size, 1, none⟩ = some (.int .i64 dec) := by rw [hw1]; simp [go_sem]
  have k2 : w1.cell? ⟨w.heap.size, 2, none⟩ = some (.int .i64 r) := by rw [hw1]; simp [go_sem]
  have k3 : w1.cell? ⟨w.heap.size, 3, none⟩ = some (.int .i64 (d : Int)) := by rw [hw1]; simp [go_sem]
  have k4 : w1.cell? ⟨w.heap.size, 4, none⟩ = some (.int .i64 (b : Int)) := by rw [hw1]; simp [go_sem]
  have k5 : w1.cell? ⟨w.heap.size, 5, none⟩ = some (tv) := by rw [hw1]; simp [go_sem]
  have k6 : w1.cell? ⟨w.heap.size, 6, none⟩ = some (cv) := by rw [hw1]; simp [go_sem]
  have HW1 : Hid (w1 = (w.alloc (Obj.cells #[.int .i64 (n : Int), .int .i64 dec, .int .i64 r, .int .i64 (d : Int), .int .i64 (b : Int), tv, cv] 26)).alloc (Obj.cells #[] 41)) := hw1
  have HPL : Hid (∀ k, k < n → T.length = 0 ∨ k < T.length) := fun k hk => th_place n T L.length k hB hth (by omega)
  have HLT : Hid (∀ k, k < n → miss T k = false → nz T k < L.length) := fun k hk hm => nz_lt n T L.length k hB hth (by omega) hm
  have HWB : Hid (∀ i, i < L.length → (wh r d (L.getD i 0)).natAbs < 9007199254740992) := fun i hi => wh_bound b d r L h6 h8 h9 hk i hi
  have HPB : Hid (∀ i, i < L.length → 0 ≤ L.getD i 0 * 2 ^ d ∧ L.getD i 0 * 2 ^ d ≤ 4398046511104) := fun i hi => (by
    have me : L.getD i 0 ∈ L := (by simp [List.getD_eq_getElem?_getD, hi])
    rw [List.all_eq_true] at hk
    obtain ⟨p0, p1, _⟩ := pow_bound b d _ (hk _ me) h6
    exact ⟨p0, p1⟩)
  clear hw1 ho hth hk hB
  go_enter Try.func14, Try.ntmps14
  go_wp2_with fail
  rw [← HW1.out]
  refine HP.out.mono ?_
  rintro e w2 ⟨rfl, b2⟩
  have B2 : Hid (Below w.heap.size w w2) := B1.out.trans (b2.mono B1.out.size)
  have R2 : Hid (w2.ownsRow (w.heap.size + 1) 41 1 (.slice (some ⟨w.heap.size + 1, 0, none⟩) 0 0) 0 []) := row_later R1.out b2 (Nat.le_refl _)
  have z2 : w.heap.size + 2 ≤ w2.heap.size := by have := b2.size; omega
  have m0 : w2.cell? ⟨w.heap.size, 0, none⟩ = some (.int .i64 (n : Int)) := (b2.cell (p := ⟨w.heap.size, 0, none⟩) (by show w.heap.size < _; omega)).trans k0
  have m1 : w2.cell? ⟨w.heap.size, 1, none⟩ = some (.int .i64 dec) := (b2.cell (p := ⟨w.heap.size, 1, none⟩) (by show w.heap.size < _; omega)).trans k1
  have m2 : w2.cell? ⟨w.heap.size, 2, none⟩ = some (.int .i64 r) := (b2.cell (p := ⟨w.heap.size, 2, none⟩) (by show w.heap.size < _; omega)).trans k2
  have m3 : w2.cell? ⟨w.heap.size, 3, none⟩ = some (.int .i64 (d : Int)) := (b2.cell (p := ⟨w.heap.size, 3, none⟩) (by show w.heap.size < _; omega)).trans k3
  have m4 : w2.cell? ⟨w.heap.size, 4, none⟩ = some (.int .i64 (b : Int)) := (b2.cell (p := ⟨w.heap.size, 4, none⟩) (by show w.heap.size < _; omega)).trans k4
  have m5 : w2.cell? ⟨w.heap.size, 5, none⟩ = some (tv) := (b2.cell (p := ⟨w.heap.size, 5, none⟩) (by show w.heap.size < _; omega)).trans k5
  have m6 : w2.cell? ⟨w.heap.size, 6, none⟩ = some (cv) := (b2.cell (p := ⟨w.heap.size, 6, none⟩) (by show w.heap.size < _; omega)).trans k6
  clear b2 HW1 HP k0 k1 k2 k3 k4 k5 k6 B1 z1 R1
  go_wp2_with fail
  have RT := hT.on B2.out
  have RC := hC.on B2.out
  obtain ⟨y, cap, rfl⟩ := RT.form
  obtain ⟨x, capx, rfl⟩ := RC.form
  have hct : ∃ f : Nat → Nat × Nat, (0 < T.length → y = some ⟨(f 0).1, (f 0).2, none⟩ ∧ (f 0).1 < w.heap.size) ∧ ∀ i, i < T.length → w.cell? ⟨(f 0).1, (f 0).2 + i, none⟩ = some (.int .u8 (T.getD i 0)) := by
    rcases hT with ⟨h, _⟩ | ⟨b, o, cap, h1, h2, h3, h4, h5⟩
    · have : T.length = 0 := by rw [h]; rfl
      exact ⟨fun _ => (0, 0), fun hi => by omega, fun i hi => by omega⟩
    · refine ⟨fun _ => (b, o), fun _ => ?_, h5⟩
      simp at h1
      exact ⟨h1.1, h4⟩
  have hcx : ∃ g : Nat → Nat × Nat, (0 < L.length → x = some ⟨(g 0).1, (g 0).2, none⟩ ∧ (g 0).1 < w.heap.size) ∧ ∀ i, i < L.length → w.cell? ⟨(g 0).1, (g 0).2 + i, none⟩ = some (.int .i64 (L.getD i 0)) := by
    rcases hC with ⟨h, _⟩ | ⟨b, o, cap, h1, h2, h3, h4, h5⟩
    · have : L.length = 0 := by rw [h]; rfl
      exact ⟨fun _ => (0, 0), fun hi => by omega, fun i hi => by omega⟩
    · refine ⟨fun _ => (b, o), fun _ => ?_, h5⟩
      simp at h1
      exact ⟨h1.1, h4⟩
  obtain ⟨f, fx, fc⟩ := hct
  obtain ⟨g, gx, gc⟩ := hcx
  have FX : Hid (0 < T.length → y = some ⟨(f 0).1, (f 0).2, none⟩ ∧ (f 0).1 < w.heap.size) := fx
  have FC : Hid (∀ i, i < T.length → w.cell? ⟨(f 0).1, (f 0).2 + i, none⟩ = some (.int .u8 (T.getD i 0))) := fc
  have GX : Hid (0 < L.length → x = some ⟨(g 0).1, (g 0).2, none⟩ ∧ (g 0).1 < w.heap.size) := gx
  have GC : Hid (∀ i, i < L.length → w.cell? ⟨(g 0).1, (g 0).2 + i, none⟩ = some (.int .i64 (L.getD i 0))) := gc
  clear fx fc gx gc RT RC hT hC
  go_loopw [4, 5, 6] (fun v t i wr => ∃ k : Nat, ∃ M : List Nat, k ≤ n ∧ i = .int .i64 k ∧ t = .int .i64 (nz T k : Nat) ∧ Hid (M.length = k) ∧ Hid (M.map cn = (outs dec r d T L k).map cn) ∧ Hid (wr.ownsRow (w.heap.size + 1) 41 1 v k (flts M)) ∧ Hid (Below (w.heap.size + 1) w2 wr)) (fun _ _ i _ => n - (intOf i).toNat)
  case atStart => exact ⟨0, [], Nat.zero_le _, rfl, by rw [nz_zero]; rfl, rfl, rfl, R2, Below.refl _ _⟩
  case round =>
    obtain ⟨k, M, hk, rfl, rfl, HM, HC, O, BB⟩ := hrel
    obtain ⟨sa, sc, rfl⟩ := row_form O.out
    have zr : w.heap.size + 2 ≤ wr.heap.size := by have := BB.out.size; omega
    have q0 : wr.cell? ⟨w.heap.size, 0, none⟩ = some (.int .i64 (n : Int)) := (BB.out.cell (p := ⟨w.heap.size, 0, none⟩) (by show w.heap.size < _; omega)).trans m0
    by_cases hlt : k < n
    · have i0' : (0 : Int) ≤ (k : Int) := by omega
      have i1 : (k : Int) < (n : Int) := by omega
      have q1 : wr.cell? ⟨w.heap.size, 1, none⟩ = some (.int .i64 dec) := (BB.out.cell (p := ⟨w.heap.size, 1, none⟩) (by show w.heap.size < _; omega)).trans m1
      have q2 : wr.cell? ⟨w.heap.size, 2, none⟩ = some (.int .i64 r) := (BB.out.cell (p := ⟨w.heap.size, 2, none⟩) (by show w.heap.size < _; omega)).trans m2
      have q3 : wr.cell? ⟨w.heap.size, 3, none⟩ = some (.int .i64 (d : Int)) := (BB.out.cell (p := ⟨w.heap.size, 3, none⟩) (by show w.heap.size < _; omega)).trans m3
      have q5 : wr.cell? ⟨w.heap.size, 5, none⟩ = some (.slice y T.length cap) := (BB.out.cell (p := ⟨w.heap.size, 5, none⟩) (by show w.heap.size < _; omega)).trans m5
      have q6 : wr.cell? ⟨w.heap.size, 6, none⟩ = some (.slice x L.length capx) := (BB.out.cell (p := ⟨w.heap.size, 6, none⟩) (by show w.heap.size < _; omega)).trans m6
      have HPL2 : Hid (T.length = 0 ∨ k < T.length) := HPL.out k hlt
      have BW : Hid (Below (w.heap.size + 1) w2 wr) := BB
      cases hm : miss T k
      · have hnl := HLT.out k hlt hm
        obtain ⟨hx, hg⟩ := GX.out (by omega)
        have qc : wr.cell? ⟨(g 0).1, (g 0).2 + nz T k, none⟩ = some (.int .i64 (L.getD (nz T k) 0)) := ((BB.out.cell (p := ⟨(g 0).1, (g 0).2 + nz T k, none⟩) (by show (g 0).1 < _; omega)).trans (B2.out.cell (p := ⟨(g 0).1, (g 0).2 + nz T k, none⟩) hg)).trans (GC.out _ hnl)
        have ee : el dec r d T L k = vl dec (wh r d (L.getD (nz T k) 0)) := by unfold el; rw [hm]; rfl
        have HZB := HWB.out _ hnl
        obtain ⟨p0, p1⟩ := HPB.out _ hnl
        have HNZ : Hid (nz T (k + 1) = nz T k + 1) := nz_yes T k HPL2.out hm
        have OS : Hid (outs dec r d T L (k + 1) = outs dec r d T L k ++ [vl dec (wh r d (L.getD (nz T k) 0))]) := (by show _ = _; rw [outs_succ, ee])
        have hwh : wh r d (L.getD (nz T k) 0) = r + L.getD (nz T k) 0 * 2 ^ d := rfl
        rw [hwh] at HZB OS
        clear ee hwh
        have hl4 : L.length ≤ 4096 := l2
        generalize L.getD (nz T k) 0 = c at *
        obtain ⟨yy, hyy⟩ : ∃ yy, yy = c * 2 ^ d := ⟨_, rfl⟩
        have e1 : wrap64 (c * 2 ^ d) = yy := by rw [← hyy]; exact IntWalk.wrap64_in _ (by omega)
        have e1' : IntKind.i64.wrap (c * 2 ^ d) = yy := by rw [← hyy]; exact IntWalk.i64_in _ (by omega)
        rw [← hyy] at p0 p1 HZB OS
        have HYY : Hid (yy = c * 2 ^ d) := hyy
        clear hyy
        obtain ⟨z, hz⟩ : ∃ z, z = r + yy := ⟨_, rfl⟩
        have e2 : wrap64 (r + yy) = z := by rw [hz]; exact IntWalk.wrap64_in _ (by omega)
        have e2' : IntKind.i64.wrap (r + yy) = z := by rw [hz]; exact IntWalk.i64_in _ (by omega)
        rw [← hz] at HZB OS
        clear hz
        have HZ2 : Hid (z.natAbs < 9007199254740992) := HZB
        clear HZB
        generalize nz T k = t at *
        have a0 : (0 : Int) ≤ (t : Int) := by omega
        have a1 : (t : Int) < (L.length : Int) := by omega
        subst hx
        have tk : k < T.length := by have := HPL2.out; omega
        obtain ⟨hy, hf⟩ := FX.out (by omega)
        subst hy
        have tz : T.getD k 0 ≠ 0 := by
          intro h
          unfold miss at hm
          rw [h, decide_eq_true (show 0 < T.length by omega)] at hm
          simp at hm
        have qt : wr.cell? ⟨(f 0).1, (f 0).2 + k, none⟩ = some (.int .u8 (T.getD k 0)) := ((BB.out.cell (p := ⟨(f 0).1, (f 0).2 + k, none⟩) (by show (f 0).1 < _; omega)).trans (B2.out.cell (p := ⟨(f 0).1, (f 0).2 + k, none⟩) hf)).trans (FC.out k tk)
        have tzz : (T.getD k 0 == 0) = false := by simpa using tz
        have t0' : (0 : Int) < (T.length : Int) := by omega
        have t0n : 0 < T.length := by omega
        have t2 : (k : Int) < (T.length : Int) := by omega
        generalize T.getD k 0 = tb at *
        clear hm h0
        generalize T.length = tl at *
        go_wp2_with fail
        go_region
        by_cases hdn : dec < 0
        · obtain ⟨p, rfl⟩ : ∃ p : Nat, dec = -(p : Int) := ⟨(-dec).toNat, by omega⟩
          have p1' : 1 ≤ p := by omega
          have p2' : p ≤ 6 := by omega
          have ev : vl (-(p : Int)) z = opF .mul (fi z) (tenF p) := by unfold vl; rw [if_pos hdn, Int.neg_neg, Int.toNat_natCast]
          have hmu : ∀ w, (binOp .mul 41 (.float .f64 (floatOfInt .f64 z)) (.float .f64 (tenF p))).run Try.prog w = .ok (.float .f64 (vl (-(p : Int)) z)) w := fun w => by rw [ev]; exact run_float_arith w .mul 41 .f64 _ _ _ (mul_some z HZ2.out p p2')
          have HQ : Hid (1 ≤ p ∧ p ≤ 6) := ⟨p1', p2'⟩
          clear ev
          generalize vl (-(p : Int)) z = X at *
          have OD : Hid (wr.drew.ownsRow (w.heap.size + 1) 41 1 (.slice sa k sc) k (flts M)) := O.out
          go_wp2_with (first | (go_at_call 34; refine (ten_neg p HQ.out.2 HQ.out.1 _).mono ?_; rintro e w' ⟨rfl, hw⟩; subst hw) | (at_builtin; refine wpList_append_own_at _ rfl _ _ 22 rfl (w.heap.size + 1) 41 i0 (.float .f64 0) 1 8 Try.underlying22 hi hz0 hz1 hz2 rfl (by decide) _ _ _ rfl (OD.out.alloc _) ⟨wr.heap.size, 0, none⟩ 1 1 [.float .f64 X] rfl rfl (cell_one_new wr.drew _ _) ?c2 ?c3 ?c4 ?c5 ?_))
          case c2 => intro u hu; simp at hu; subst hu; rfl
          case c3 => unfold maxLen; omega
          case c4 => omega
          case c5 => simp; omega
          intro v' w6 hown hgrow hnil hat
          have O6 : Hid (w6.ownsRow (w.heap.size + 1) 41 1 v' (k + 1) (flts (M ++ [X]))) := (by show World.ownsRow _ _ _ _ _ _ _; rw [show flts (M ++ [X]) = flts M ++ [.float .f64 X] by simp [flts]]; exact hown)
          have B6 : Hid (Below (w.heap.size + 1) w2 w6) := ((below_drewN BW.out 1).alloc (by simp; omega) _).grown hgrow (by simp; omega) (fun b hb => (OD.out.lt b hb).1)
          clear hown hgrow hnil hat O BB
          go_wp2_with fail
          go_roundw
          case rel => exact ⟨k + 1, M ++ [X], by omega, by go_num, by rw [HNZ.out]; go_num, (by show _ = _; rw [List.length_append, HM.out]; rfl), (by show _ = _; rw [List.map_append, HC.out, OS.out, List.map_append]), O6, B6⟩
          case measure => simp [intOf]; omega
        · obtain ⟨p, rfl⟩ : ∃ p : Nat, dec = (p : Int) := ⟨dec.toNat, by omega⟩
          have p2' : p ≤ 6 := by omega
          have ev : vl (p : Int) z = opF .quo (fi z) (tenF p) := by unfold vl; rw [if_neg hdn, Int.toNat_natCast]
          have hmu : ∀ w, (binOp .quo 41 (.float .f64 (floatOfInt .f64 z)) (.float .f64 (tenF p))).run Try.prog w = .ok (.float .f64 (vl (p : Int) z)) w := fun w => by rw [ev]; exact run_float_arith w .quo 41 .f64 _ _ _ (quo_some z HZ2.out p p2')
          have HQ : Hid (p ≤ 6) := p2'
          clear ev
          generalize vl (p : Int) z = X at *
          have OD : Hid (wr.drew.ownsRow (w.heap.size + 1) 41 1 (.slice sa k sc) k (flts M)) := O.out
          go_wp2_with (first | (go_at_call 34; refine (ten_pos p HQ.out _).mono ?_; rintro e w' ⟨rfl, hw⟩; subst hw) | (at_builtin; refine wpList_append_own_at _ rfl _ _ 22 rfl (w.heap.size + 1) 41 i0 (.float .f64 0) 1 8 Try.underlying22 hi hz0 hz1 hz2 rfl (by decide) _ _ _ rfl (OD.out.alloc _) ⟨wr.heap.size, 0, none⟩ 1 1 [.float .f64 X] rfl rfl (cell_one_new wr.drew _ _) ?c2 ?c3 ?c4 ?c5 ?_))
          case c2 => intro u hu; simp at hu; subst hu; rfl
          case c3 => unfold maxLen; omega
          case c4 => omega
          case c5 => simp; omega
          intro v' w6 hown hgrow hnil hat
          have O6 : Hid (w6.ownsRow (w.heap.size + 1) 41 1 v' (k + 1) (flts (M ++ [X]))) := (by show World.ownsRow _ _ _ _ _ _ _; rw [show flts (M ++ [X]) = flts M ++ [.float .f64 X] by simp [flts]]; exact hown)
          have B6 : Hid (Below (w.heap.size + 1) w2 w6) := ((below_drewN BW.out 1).alloc (by simp; omega) _).grown hgrow (by simp; omega) (fun b hb => (OD.out.lt b hb).1)
          clear hown hgrow hnil hat O BB
          go_wp2_with fail
          go_roundw
          case rel => exact ⟨k + 1, M ++ [X], by omega, by go_num, by rw [HNZ.out]; go_num, (by show _ = _; rw [List.length_append, HM.out]; rfl), (by show _ = _; rw [List.map_append, HC.out, OS.out, List.map_append]), O6, B6⟩
          case measure => simp [intOf]; omega
      · have hm' := hm
        unfold miss at hm'
        simp only [Bool.and_eq_true, decide_eq_true_eq] at hm'
        obtain ⟨t0, t1⟩ := hm'
        obtain ⟨hy, hf⟩ := FX.out t0
        subst hy
        have hkt : k < T.length := by have := HPL2.out; omega
        have qt : wr.cell? ⟨(f 0).1, (f 0).2 + k, none⟩ = some (.int .u8 0) := by rw [BB.out.cell (p := ⟨(f 0).1, (f 0).2 + k, none⟩) (by show (f 0).1 < _; omega), B2.out.cell (p := ⟨(f 0).1, (f 0).2 + k, none⟩) hf, FC.out k hkt, t1]
        have ee : el dec r d T L k = qn := by unfold el; rw [hm]; rfl
        have OS : Hid (outs dec r d T L (k + 1) = outs dec r d T L k ++ [qn]) := (by show _ = _; rw [outs_succ, ee])
        have t0' : (0 : Int) < (T.length : Int) := by omega
        have t2 : (k : Int) < (T.length : Int) := by omega
        have HNZ : Hid (nz T (k + 1) = nz T k) := nz_miss T k HPL2.out hm
        have OD : Hid (wr.drew.ownsRow (w.heap.size + 1) 41 1 (.slice sa k sc) k (flts M)) := O.out
        clear hm t1 ee hkt
        generalize T.length = tl at *
        generalize nz T k = t at *
        go_wp2_with (first | (go_at_call 33; refine (none_any _).mono ?_; rintro e w' ⟨bb, rfl, hcn, hlb, hw⟩; subst hw) | (at_builtin; refine wpList_append_own_at _ rfl _ _ 22 rfl (w.heap.size + 1) 41 i0 (.float .f64 0) 1 8 Try.underlying22 hi hz0 hz1 hz2 rfl (by decide) _ _ _ rfl (OD.out.alloc _) ⟨wr.heap.size, 0, none⟩ 1 1 [.float .f64 bb] rfl rfl (cell_one_new wr.drew _ _) ?c2 ?c3 ?c4 ?c5 ?_))
        case c2 => intro u hu; simp at hu; subst hu; rfl
        case c3 => unfold maxLen; omega
        case c4 => omega
        case c5 => simp; omega
        intro v' w6 hown hgrow hnil hat
        have O6 : Hid (w6.ownsRow (w.heap.size + 1) 41 1 v' (k + 1) (flts (M ++ [bb]))) := (by show World.ownsRow _ _ _ _ _ _ _; rw [show flts (M ++ [bb]) = flts M ++ [.float .f64 bb] by simp [flts]]; exact hown)
        have B6 : Hid (Below (w.heap.size + 1) w2 w6) := ((below_drewN BW.out 1).alloc (by simp; omega) _).grown hgrow (by simp; omega) (fun b hb => (OD.out.lt b hb).1)
        clear hown hgrow hnil hat O BB
        go_wp2_with fail
        go_roundw
        case rel => exact ⟨k + 1, M ++ [bb], by omega, by go_num, by rw [HNZ.out], (by show _ = _; rw [List.length_append, HM.out]; rfl), (by show _ = _; rw [List.map_append, HC.out, OS.out, List.map_append]; simp [hcn]; rfl), O6, B6⟩
        case measure => simp [intOf]; omega
    · have hkn : k = n := by omega
      subst hkn
      have RE : Hid (∃ M : List Nat, wr.ownsRow w.heap.size 41 1 (.slice sa k sc) M.length (flts M) ∧ M.map cn = (outs dec r d T L k).map cn) := ⟨M, (by
        rw [HM.out]
        have h := O.out
        refine ⟨h.1, ?_⟩
        rcases h.2 with h | ⟨gx, cap, cur, h1, h2, h3⟩
        · exact .inl h
        · exact .inr ⟨gx, cap, cur, h1, by omega, h3⟩), HC.out⟩
      have BE : Hid (Below w.heap.size w wr) := B2.out.trans (BB.out.mono (by omega))
      clear O
      go_wp2_with fail
      go_ret2
      exact ⟨_, rfl, RE.out, BE.out⟩
end Go.Proofs.Ytjphljofhfokeaa.Pkd
