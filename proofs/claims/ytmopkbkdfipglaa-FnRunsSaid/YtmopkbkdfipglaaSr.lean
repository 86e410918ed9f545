/- ReadRuns of the model. -/
import Derived.Test.YtmopkbkdfipglaaSg
import Derived.Test.YtmopkbkdfipglaaSn
namespace Go.Proofs.Ytmopkbkdfipglaa.Lists
open Go.ChangeShapes Go.WideShapes Go.ChangeAt Go.RowKit
open Go.Proofs.Ytmopkbkdfipglaa.Bytes (bys)

theorem wr_b (x : Int) : -9223372036854775808 ≤ IntKind.i64.wrap x ∧ IntKind.i64.wrap x ≤ 9223372036854775807 := by
  simp [IntKind.wrap, IntKind.bits, IntKind.signed]
  omega
theorem wr64 (x : Int) : wrap64 x = IntKind.i64.wrap x := by
  simp [wrap64, IntKind.wrap, IntKind.bits, IntKind.signed]
  omega
/-- what is known of the numbers read so far -/
def SO (D : List Int) (n : Nat) (X : List Int) (z : Int) (t : Nat) : Prop :=
  X.length = t ∧ (-9223372036854775808 ≤ z ∧ z ≤ 9223372036854775807) ∧ (n ≤ 4096 → X = rlD D t ∧ z = smD D t ∧ (-((t : Int) * 562949953421312) ≤ z ∧ z ≤ (t : Int) * 562949953421312))
theorem SO.next {D : List Int} {n : Nat} {X : List Int} {z : Int} {t : Nat} (h : SO D n X z t) (htn : t < n) (ls g : Int) (hb : -4398046511104 ≤ ls ∧ ls < 281474976710656 ∧ 0 ≤ g ∧ g < 281474976710656) (hd : dlD D t = ls + g) :
    SO D n (X ++ [IntKind.i64.wrap (IntKind.i64.wrap (z + ls) + g)]) (IntKind.i64.wrap (IntKind.i64.wrap (z + ls) + g)) (t + 1) := by
  obtain ⟨h1, h2, h3⟩ := h
  refine ⟨by simp [h1], wr_b _, fun hn => ?_⟩
  obtain ⟨q1, q2, q3⟩ := h3 hn
  have e1 : IntKind.i64.wrap (z + ls) = z + ls := IntWalk.i64_in _ (by omega)
  have e2 : IntKind.i64.wrap (z + ls + g) = z + ls + g := IntWalk.i64_in _ (by omega)
  rw [e1, e2]
  have e3 : z + ls + g = smD D (t + 1) := by rw [smD, hd, ← q2]; omega
  refine ⟨by rw [rlD_snoc, q1, e3], e3, ?_⟩
  omega

theorem row_bits {w : World} {base n c : Nat} {ga : Option Addr} {L : List Int} (o : w.ownsRow base 5 1 (.slice ga n c) n (bys L)) (hl : L.length = n) : ∀ i, i < n → ∃ g, ga = some ⟨g, 0, none⟩ ∧ n ≤ c ∧ c ≤ maxLen ∧ g < w.heap.size ∧ base ≤ g ∧ w.cell? ⟨g, i, none⟩ = some (.int .u8 (L.getD i 0)) := by
  intro i hi
  rcases o.2 with ⟨h1, h2⟩ | ⟨gf, cap, cur, h1, h2, h3, h4, h5, h6⟩
  · omega
  · injection h1 with h1 _ h1c
    subst h1 h1c
    exact ⟨gf, rfl, h4, h5, (o.lt gf rfl).2, h2, Bytes.row_cell (L := L) (by rw [hl]; exact o) i (by rw [hl]; exact hi)⟩

set_option maxRecDepth 20000 in
set_option maxHeartbeats 4000000 in
theorem sread14_any (w : World) (v : Value) (D : List Int) (h : Bytes.Reads w v D) (hD : By D) (hN : D.length ≤ 1048576) :
    Calls Try.prog 14 #[v] w fun e w' => RRo w D e w' := by
  obtain ⟨tf, hi, hz0, hz1, hz2⟩ := info_parts Try.info2
  obtain ⟨w0, hw0⟩ : ∃ w0, w0 = w.alloc (Obj.cells #[] 2) := ⟨_, rfl⟩
  have HW0 : Hid (w0 = w.alloc (Obj.cells #[] 2)) := hw0
  have b0 : Below w.heap.size w w0 := by rw [hw0]; exact (Below.refl _ _).alloc (Nat.le_refl _) _
  have z0 : w0.heap.size = w.heap.size + 1 := by rw [hw0]; simp
  have N0 : Hid (w0.ownsRow w.heap.size 2 1 (.slice (some ⟨w.heap.size, 0, none⟩) 0 0) 0 (ints [])) := (by show World.ownsRow _ _ _ _ _ _ _; rw [hw0]; exact empty_row 2)
  have B0 : Hid (Below w.heap.size w w0) := b0
  have h0 := h.on b0
  obtain ⟨a, cap, rfl⟩ := h.form
  obtain ⟨N, hNN⟩ : ∃ N, N = D.length := ⟨_, rfl⟩
  have HN : Hid (D.length = N) := hNN.symm
  have HD : Hid (By D) := hD
  have RA : Hid (∀ W, Below w0.heap.size w0 W → Bytes.Reads W (.slice a N cap) D) := fun W hW => by rw [hNN]; exact h0.on hW
  have RC : Hid (∀ W, Below w0.heap.size w0 W → ∀ i, i < N → ∃ b o, a = some ⟨b, o, none⟩ ∧ N ≤ cap ∧ cap ≤ maxLen ∧ b < W.heap.size ∧ ∀ j, j < N → W.cell? ⟨b, o + j, none⟩ = some (.int .u8 (D.getD j 0))) := fun W hW i hi => by
    rw [hNN] at hi ⊢
    rcases h0 with ⟨rfl, _⟩ | ⟨b, o, cap', h1, h2, h3, h4, h5⟩
    · simp at hi
    · injection h1 with q1 q2 q3
      subst q3
      exact ⟨b, o, q1, h2, h3, Nat.lt_of_lt_of_le h4 hW.size, fun j hj => (hW.cell (p := ⟨b, o + j, none⟩) h4).trans (h5 j hj)⟩
  rw [← hNN] at hN ⊢
  have NO : Hid (∀ W, Below w0.heap.size w0 W → (∀ L, ¬ RD D L) → RRo w D (.returned (.tuple #[.slice (some ⟨w.heap.size, 0, none⟩) 0 0, .bool false])) W) := fun W hW hn =>
    ⟨B0.out.trans (hW.mono (by omega)), .inr ⟨hn, _, rfl, row_kb N0.out (KB.of_below hW (S := fun _ => False)) (fun _ _ h => h)⟩⟩
  have NR : Hid (∀ L, RD D L → nm D 0 16 = (L.length : Int) ∧ L.length ≤ 4096 ∧ 2 ≤ N ∧ ∀ k, k < ng L.length → wk D k ≤ 43 ∧ psk D k + 56 + (gr L k).length * wk D k ≤ 8 * N) := fun L hL => by
    obtain ⟨_, h2, h3, h4, h5, _⟩ := hL.back
    rw [HN.out] at h3 h5
    exact ⟨h4, h2.1, h3, h5⟩
  have BR : Hid (Below w0.heap.size w0 w0) := Below.refl _ _
  clear h h0 hD hNN b0 hw0
  go_enter Try.func14, Try.ntmps14
  by_cases h2 : N < 2
  · have i1 : (N : Int) < 2 := by omega
    have F2 : Hid (N < 2) := h2
    clear h2
    go_wp2_with fail
    go_ret2
    rw [← HW0.out]
    exact NO.out w0 BR.out (fun L hL => by have := (NR.out L hL).2.2.1; have := F2.out; omega)
  have i1 : ¬ (N : Int) < 2 := by omega
  obtain ⟨b, o, rfl, x1, x2, _, hcell⟩ := RC.out w0 BR.out 0 (by omega)
  have q0 : (w.alloc (Obj.cells #[] 2)).cell? ⟨b, o, none⟩ = some (.int .u8 (D.getD 0 0)) := by have := hcell 0 (by omega); rw [HW0.out] at this; exact this
  have q1 : (w.alloc (Obj.cells #[] 2)).cell? ⟨b, o + 1, none⟩ = some (.int .u8 (D.getD 1 0)) := by have := hcell 1 (by omega); rw [HW0.out] at this; exact this
  have d0 := getD_by HD.out 0
  have d1 := getD_by HD.out 1
  have e16 := nm16 D HD.out
  obtain ⟨y0, hy0⟩ : ∃ y, y = D.getD 0 0 := ⟨_, rfl⟩
  obtain ⟨y1, hy1⟩ : ∃ y, y = D.getD 1 0 := ⟨_, rfl⟩
  rw [← hy0] at q0 d0 e16
  rw [← hy1] at q1 d1 e16
  obtain ⟨n, hn⟩ : ∃ n : Nat, n = (y0 * 256 + y1).toNat := ⟨_, rfl⟩
  have en : y0 * 256 + y1 = (n : Int) := by omega
  have n16 : n < 65536 := by omega
  have NQ : Hid (∀ L, RD D L → L.length = n ∧ n ≤ 4096 ∧ ∀ k, k < ng n → wk D k ≤ 43 ∧ psk D k + 56 + min 16 (n - 16 * k) * wk D k ≤ 8 * N) := fun L hL => by
    obtain ⟨q1, q2, q3, q4⟩ := NR.out L hL
    have e : L.length = n := by omega
    refine ⟨e, by omega, fun k hk => ?_⟩
    have := q4 k (by rw [e]; exact hk)
    rw [gr_len, e] at this
    exact this
  have XQ : Hid (∀ L, RD D L → L = rlD D n ∧ n ≤ 4096) := fun L hL => by
    have e := (NQ.out L hL).1
    have := hL.back.2.2.2.2.2
    rw [e] at this
    exact ⟨this.symm, (NQ.out L hL).2.1⟩
  unfold maxLen at x2
  have n2 : 2 ≤ N := by omega
  clear NR hy0 hy1 hn e16 hcell h2
  go_wp2_with fail
  go_region
  go_wp2_with fail
  obtain ⟨w1, hw1⟩ : ∃ w1, w1 = (w0.alloc (Obj.cells #[] 2)).drew := ⟨_, rfl⟩
  rw [← HW0.out, ← hw1]
  have R0 : Hid (w1.ownsRow (w.heap.size + 1) 2 1 (.slice (some ⟨w.heap.size + 1, 0, none⟩) 0 0) 0 (ints [])) := (by
    show World.ownsRow _ _ _ _ _ _ _
    have := empty_row (W := w0) 2
    rw [z0] at this
    rw [hw1]; exact this)
  have B1 : Hid (Below w0.heap.size w0 w1 ∧ w0.heap.size ≤ w1.heap.size) := (by
    show _ ∧ _
    rw [hw1]
    have h1 : Below w0.heap.size w0 (w0.alloc (Obj.cells #[] 2)).drew := (⟨rfl, rfl, rfl, Nat.le_refl _, fun _ _ => rfl⟩ : Below w0.heap.size w0 w0.drew).alloc (Nat.le_refl _) _
    exact ⟨h1, h1.size⟩)
  have S0 : Hid (SO D n [] 0 (min (16 * 0) n)) := ⟨by simp, by omega, fun _ => ⟨by simp [rlD], by simp [smD], by simp⟩⟩
  have R0' : Hid (w1.ownsRow (w.heap.size + 1) 2 1 (.slice (some ⟨w.heap.size + 1, 0, none⟩) 0 0) (min (16 * 0) n) (ints [])) := (by show World.ownsRow _ _ _ _ _ _ _; rw [show min (16 * 0) n = 0 by omega]; exact R0.out)
  have Z0 : Hid (w0.heap.size = w.heap.size + 1) := z0
  have x1' : N ≤ cap := x1
  clear hw1 R0 q0 q1 d0 d1 en z0
  go_loopw [6, 7, 8, 9, 10, 11, 12, 13, 14] (fun vx aq zz _ _ _ _ _ _ wr => ∃ (k q : Nat) (X : List Int) (z : Int), k ≤ ng n ∧ q ≤ N ∧ aq = .int .i64 (q : Int) ∧ (k < ng n → 8 * q = psk D k) ∧ zz = .int .i64 z ∧ Hid (SO D n X z (min (16 * k) n)) ∧ Hid (wr.ownsRow (w.heap.size + 1) 2 1 vx (min (16 * k) n) (ints X)) ∧ Hid (Below w0.heap.size w0 wr ∧ w0.heap.size ≤ wr.heap.size)) (fun vx _ _ _ _ _ _ _ _ _ => n - slen vx)
  case atStart => exact ⟨0, 2, [], 0, Nat.zero_le _, n2, rfl, fun _ => rfl, rfl, S0, R0', B1⟩
  case round =>
    clear S0 R0' B1 BR
    obtain ⟨k, q, X, z, hk, hqN, rfl, hqk, rfl, SS, OX, BB⟩ := hrel
    obtain ⟨vx, hvx⟩ : ∃ vx, vx = u6 := ⟨_, rfl⟩
    subst hvx
    obtain ⟨wo, hwo⟩ : ∃ x, x = wr := ⟨_, rfl⟩
    subst hwo
    have NG : ng n = (n + 15) / 16 := rfl
    by_cases hkn : 16 * k < n
    · have ek : k < ng n := by omega
      have ep := hqk ek
      obtain ⟨t, ht⟩ : ∃ t, t = 16 * k := ⟨_, rfl⟩
      have emin : min (16 * k) n = t := by omega
      rw [emin] at OX SS
      obtain ⟨va, vc, ev⟩ := row_form OX.out
      subst ev
      obtain ⟨m, hm⟩ : ∃ m, m = min 16 (n - t) := ⟨_, rfl⟩
      have em : min (16 : Int) ((n : Int) - (t : Int)) = (m : Int) := by omega
      have m1 : 0 < m ∧ m ≤ 16 ∧ t + m ≤ n ∧ (m = 16 ∨ t + m = n) := by omega
      have i2 : (t : Int) < (n : Int) := by omega
      have HT : Hid (t = 16 * k ∧ k < ng n ∧ m = min 16 (n - 16 * k) ∧ 8 * q = psk D k) := ⟨ht, ek, by rw [hm, ht], ep⟩
      obtain ⟨q7, hq7⟩ : ∃ q7, q7 = q + 7 := ⟨_, rfl⟩
      have e7 : (q : Int) + 7 = (q7 : Int) := by omega
      by_cases hat : N < q7
      · have j1 : (N : Int) < (q7 : Int) := by omega
        have NF : Hid (∀ L, ¬ RD D L) := fun L hL => by
          have := ((NQ.out L hL).2.2 k ek).2
          omega
        clear ht hqk emin NG ek ep hm hat hq7
        go_wp2_with fail
        go_ret2
        exact NO.out _ BB.out.1 NF.out
      have j1 : ¬ (N : Int) < (q7 : Int) := by omega
      obtain ⟨b', o', eb, _, _, bl, hcell⟩ := RC.out wo BB.out.1 0 (by omega)
      injection eb with eb
      injection eb with eb1 eb2 _
      subst eb1 eb2
      obtain ⟨E1, hE1⟩ : ∃ E1, E1 = (D.drop q).take 7 := ⟨_, rfl⟩
      have lE1 : E1.length = 7 := by rw [hE1, List.length_take, List.length_drop, HN.out]; omega
      have bE1 : By E1 := by rw [hE1]; exact fun x hx => HD.out x (List.mem_of_mem_drop (List.mem_of_mem_take hx))
      have P1 : Hid (Calls Try.prog 26 #[.slice (some ⟨b, o + q, none⟩) 7 (cap - q)] wo fun e w' => ∃ v', e = .returned v' ∧ w'.ownsRow wo.heap.size 5 1 v' 56 (bys (biK E1 7)) ∧ Below wo.heap.size wo w') := (by
        show Calls _ _ _ _ _
        have := sbits_any wo (.slice (some ⟨b, o + q, none⟩) 7 (cap - q)) E1 (.inr ⟨b, o + q, cap - q, by rw [lE1], by rw [lE1]; omega, by unfold maxLen; omega, bl, fun i hi => by
          rw [lE1] at hi
          rw [Nat.add_assoc, hcell (q + i) (by omega), hE1]
          simp only [List.getD_eq_getElem?_getD, List.getElem?_take, if_pos hi, List.getElem?_drop]⟩) bE1 (by omega)
        rw [lE1] at this
        exact this)
      obtain ⟨q6, hq6⟩ : ∃ q6, q6 = q + 6 := ⟨_, rfl⟩
      have e6 : (q : Int) + 6 = (q6 : Int) := by omega
      have k5 : (q6 : Int) < (N : Int) := by omega
      have k6 : (0 : Int) ≤ (q6 : Int) := by omega
      have b8 := getD_by HD.out q6
      obtain ⟨wd, hwd⟩ : ∃ wd : Nat, wd = (D.getD q6 0).toNat := ⟨_, rfl⟩
      have ewd : D.getD q6 0 = (wd : Int) := by omega
      have w256 : wd < 256 := by omega
      have WD : Hid (wd = wk D k) := (by
        show _ = _
        unfold wk wdD
        rw [hwd, ← ep, show 8 * q + 48 = 8 * q6 by omega, nm8 D HD.out])
      have c6 : ∀ W, Below w0.heap.size w0 W → W.cell? ⟨b, o + q6, none⟩ = some (.int .u8 (wd : Int)) := fun W hW => by
        rw [← ewd]
        obtain ⟨b', o', eb, _, _, _, hcell⟩ := RC.out W hW 0 (by omega)
        injection eb with eb
        injection eb with eb1 eb2 _
        subst eb1 eb2
        exact hcell q6 (by omega)
      have C6 : Hid (∀ W, Below w0.heap.size w0 W → W.cell? ⟨b, o + q6, none⟩ = some (.int .u8 (wd : Int))) := c6
      have E1H : Hid (E1 = (D.drop q).take 7) := hE1
      have q7N : q7 ≤ N := by omega
      have HQ7 : Hid (q7 = q + 7) := hq7
      have k0 : (0 : Int) ≤ (q : Int) := by omega
      have k1 : (q : Int) ≤ (q7 : Int) := by omega
      have k2 : (q7 : Int) ≤ (cap : Int) := by omega
      have k3 : q7 - q = 7 := by omega
      have k4 : ¬ q = cap := by omega
      obtain ⟨n1, hn1⟩ : ∃ n1, n1 = nm D (psk D k) 48 := ⟨_, rfl⟩
      have bn1 := nm_b D (psk D k) 48
      rw [← hn1, show (2 : Int) ^ 48 = 281474976710656 by decide] at bn1
      obtain ⟨ls, hls⟩ : ∃ ls, ls = n1 - 4398046511104 := ⟨_, rfl⟩
      have els : n1 - 4398046511104 = ls := hls.symm
      have LS : Hid (ls = lsD D k) := (by show _ = _; rw [hls, hn1]; rfl)
      have N1 : Hid (nm E1 0 48 = n1) := (by
        show _ = _
        have := nm_sub D E1 (8 * q) 0 48 (fun i hi => by rw [hE1, bA_sub D q 7 _ (by omega), Nat.zero_add, Nat.add_zero])
        rw [this, hn1, ← ep]; rfl)
      have ls_b : -4398046511104 ≤ ls ∧ ls < 281474976710656 := by omega
      obtain ⟨wm, hwm⟩ : ∃ wm : Nat, wm = wd * m := ⟨_, rfl⟩
      have ewm : (wd : Int) * (m : Int) = (wm : Int) := by rw [hwm]; norm_cast
      have wmb : wm ≤ 4096 := by rw [hwm]; calc wd * m ≤ 256 * 16 := Nat.mul_le_mul (by omega) (by omega)
                                            _ = 4096 := rfl
      obtain ⟨sz, hsz⟩ : ∃ sz, sz = (wm + 7) / 8 := ⟨_, rfl⟩
      have esz : Int.tdiv ((wm : Int) + 7) 8 = (sz : Int) := by rw [Int.tdiv_eq_ediv_of_nonneg (by omega)]; omega
      have SZ : Hid (wm = wd * m ∧ sz = (wm + 7) / 8 ∧ sz ≤ 600) := ⟨hwm, hsz, by omega⟩
      have szb : sz ≤ 600 := by omega
      clear ht hqk emin NG ek ep hm hat hcell hE1 lE1 bE1 c6 bl hq7 hq6 b8 hwd ewd hn1 hls hwm hsz
      go_wp2_with fail
      refine P1.out.mono ?_
      rintro e w3 ⟨v3, rfl, o3, b3⟩
      obtain ⟨ga, c3, ev3⟩ := row_form o3
      subst ev3
      obtain ⟨w4, hw4⟩ : ∃ w4, w4 = w3.alloc (Obj.cells #[.slice none 0 0, .slice none 0 0, .slice none 0 0, .slice ga 56 c3, .bool false, .int .i64 0, .int .i64 0, .int .i64 0, .int .i64 0, .int .i64 0] 48) := ⟨_, rfl⟩
      have b4 : Below w3.heap.size w3 w4 := by rw [hw4]; exact (Below.refl _ _).alloc (Nat.le_refl _) _
      have G4 : GB w4 w3.heap.size (.slice ga (8 * 7) c3) 0 := by
        have := Bl.new w3 48 #[.slice none 0 0, .slice none 0 0, .slice none 0 0, .slice ga 56 c3, .bool false, .int .i64 0, .int .i64 0, .int .i64 0, .int .i64 0, .int .i64 0]
        rw [hw4]; exact this
      have z4 : w4.heap.size = w3.heap.size + 1 := by rw [hw4]; simp
      have P2 : Hid (Calls Try.prog 27 #[.pointer (some ⟨w3.heap.size, 0, none⟩), .int .i64 48] w4 fun e w' => e = .returned (.int .i64 (nm E1 0 48)) ∧ GB w' w3.heap.size (.slice ga 56 c3) (0 + 48) ∧ KB (fun k => k = w3.heap.size) w4 w') :=
        sget_any w4 w3.heap.size ga c3 7 0 48 E1 (by omega) (by omega) (by omega) G4 (fun i hi => by
          obtain ⟨g, r1, r2, r3, r4, r5, r6⟩ := row_bits o3 (by rw [biK_len]) i hi
          refine ⟨g, r1, r2, r3, by omega, by omega, ?_⟩
          rw [b4.cell (p := ⟨g, i, none⟩) r4, r6, biK_get E1 7 i hi])
      have B4 : Hid (Below w0.heap.size w0 w4 ∧ w0.heap.size ≤ w3.heap.size ∧ Below wo.heap.size wo w4 ∧ wo.heap.size ≤ w3.heap.size) := ⟨(BB.out.1.trans (b3.mono BB.out.2)).trans (b4.mono (Nat.le_trans BB.out.2 b3.size)), Nat.le_trans BB.out.2 b3.size, b3.trans (b4.mono b3.size), b3.size⟩
      have HW4 : Hid (w4 = w3.alloc (Obj.cells #[.slice none 0 0, .slice none 0 0, .slice none 0 0, .slice ga 56 c3, .bool false, .int .i64 0, .int .i64 0, .int .i64 0, .int .i64 0, .int .i64 0] 48)) := hw4
      have Z4 : Hid (w4.heap.size = w3.heap.size + 1) := z4
      clear o3 b3 P1 hw4 b4 G4 z4
      go_wp2_with fail
      rw [← HW4.out]
      refine P2.out.mono ?_
      rintro e w5 ⟨rfl, _, k5'⟩
      rw [N1.out]
      have B5 : Hid (Below w0.heap.size w0 w5 ∧ Below wo.heap.size wo w5) := ⟨B4.out.1.trans (k5'.below (by have := B4.out; have := Z4.out; omega) (fun k e => by have := B4.out; omega)), B4.out.2.2.1.trans (k5'.below (by have := B4.out; have := Z4.out; omega) (fun k e => by have := B4.out; omega))⟩
      have C7 := C6.out w5 B5.out.1
      clear k5' P2 HW4 B4 Z4
      by_cases h44 : 44 < wd
      · have j4 : (44 : Int) < (wd : Int) := by omega
        have NF : Hid (∀ L, ¬ RD D L) := fun L hL => by
          have := ((NQ.out L hL).2.2 k HT.out.2.1).1
          have := WD.out
          omega
        clear h44
        go_wp2_with fail
        go_ret2
        exact NO.out _ B5.out.1 NF.out
      have j4 : ¬ (44 : Int) < (wd : Int) := by omega
      by_cases hfit : N < q7 + sz
      · have j5 : (N : Int) < (q7 : Int) + (sz : Int) := by omega
        have NF : Hid (∀ L, ¬ RD D L) := fun L hL => by
          have h1 := ((NQ.out L hL).2.2 k HT.out.2.1).2
          have h2 := HT.out
          rw [← h2.2.2.1, ← WD.out, Nat.mul_comm, ← SZ.out.1, ← h2.2.2.2] at h1
          have := SZ.out.2.1
          have := HQ7.out
          omega
        clear hfit h44
        go_wp2_with fail
        go_ret2
        exact NO.out _ B5.out.1 NF.out
      have j5 : ¬ (N : Int) < (q7 : Int) + (sz : Int) := by omega
      obtain ⟨q8, hq8⟩ : ∃ q8, q8 = q7 + sz := ⟨_, rfl⟩
      have e8 : (q7 : Int) + (sz : Int) = (q8 : Int) := by omega
      have l1 : (q7 : Int) ≤ (q8 : Int) := by omega
      have l2 : (q8 : Int) ≤ (cap : Int) := by omega
      have l3 : q8 - q7 = sz := by omega
      have l4 : (0 : Int) ≤ (q7 : Int) := by omega
      have q8N : q8 ≤ N := by omega
      have HQ8 : Hid (q8 = q7 + sz) := hq8
      obtain ⟨E2, hE2⟩ : ∃ E2, E2 = (D.drop q7).take sz := ⟨_, rfl⟩
      have lE2 : E2.length = sz := by rw [hE2, List.length_take, List.length_drop, HN.out]; omega
      have bE2 : By E2 := by rw [hE2]; exact fun x hx => HD.out x (List.mem_of_mem_drop (List.mem_of_mem_take hx))
      have E2H : Hid (E2 = (D.drop q7).take sz ∧ E2.length = sz) := ⟨hE2, lE2⟩
      have S3 : Hid (∀ ad c, (sz = 0 ∨ (ad = some ⟨b, o + q7, none⟩ ∧ sz ≤ c ∧ c ≤ maxLen)) → Calls Try.prog 26 #[.slice ad sz c] w5 fun e w' => ∃ v', e = .returned v' ∧ w'.ownsRow w5.heap.size 5 1 v' (8 * sz) (bys (biK E2 sz)) ∧ Below w5.heap.size w5 w') := fun ad c hc => by
        have hR : Bytes.Reads w5 (.slice ad sz c) E2 := by
          rcases hc with h | ⟨h1, h2, h3⟩
          · exact .inl ⟨List.eq_nil_of_length_eq_zero (by omega), ad, c, by rw [h]⟩
          · by_cases hz : sz = 0
            · exact .inl ⟨List.eq_nil_of_length_eq_zero (by omega), ad, c, by rw [hz]⟩
            · obtain ⟨b', o', eb, _, _, bl, hcell⟩ := RC.out w5 B5.out.1 0 (by omega)
              injection eb with eb
              injection eb with eb1 eb2 _
              subst eb1 eb2
              refine .inr ⟨b, o + q7, c, by rw [h1, lE2], by rw [lE2]; exact h2, h3, bl, fun i hi => ?_⟩
              rw [lE2] at hi
              rw [Nat.add_assoc, hcell (q7 + i) (by omega), hE2]
              simp only [List.getD_eq_getElem?_getD, List.getElem?_take, if_pos hi, List.getElem?_drop]
        have := sbits_any w5 (.slice ad sz c) E2 hR bE2 (by omega)
        rw [lE2] at this
        exact this
      clear h44 hfit hq8 hE2 lE2 bE2
      go_upto_region 19 with fail
      clear C7
      go_cut [10] (fun pv wx => ∃ (b5 : Nat) (gb : Option Addr) (cb : Nat), pv = .pointer (some ⟨b5, 0, none⟩) ∧ Hid (GB wx b5 (.slice gb (8 * sz) cb) (0 * wd)) ∧ Hid (wx.ownsRow w5.heap.size 5 1 (.slice gb (8 * sz) cb) (8 * sz) (bys (biK E2 sz))) ∧ Hid (Below w5.heap.size w5 wx ∧ w5.heap.size ≤ b5))
      case first =>
        have FIN : Hid (∀ (w6 : World) (gb : Option Addr) (cb : Nat), w6.ownsRow w5.heap.size 5 1 (.slice gb (8 * sz) cb) (8 * sz) (bys (biK E2 sz)) → Below w5.heap.size w5 w6 →
            GB (w6.alloc (Obj.cells #[.slice none 0 0, .slice none 0 0, .slice none 0 0, .slice gb (8 * sz) cb, .bool false, .int .i64 0, .int .i64 0, .int .i64 0, .int .i64 0, .int .i64 0] 48)) w6.heap.size (.slice gb (8 * sz) cb) (0 * wd) ∧
            (w6.alloc (Obj.cells #[.slice none 0 0, .slice none 0 0, .slice none 0 0, .slice gb (8 * sz) cb, .bool false, .int .i64 0, .int .i64 0, .int .i64 0, .int .i64 0, .int .i64 0] 48)).ownsRow w5.heap.size 5 1 (.slice gb (8 * sz) cb) (8 * sz) (bys (biK E2 sz)) ∧
            Below w5.heap.size w5 (w6.alloc (Obj.cells #[.slice none 0 0, .slice none 0 0, .slice none 0 0, .slice gb (8 * sz) cb, .bool false, .int .i64 0, .int .i64 0, .int .i64 0, .int .i64 0, .int .i64 0] 48)) ∧ w5.heap.size ≤ w6.heap.size) := fun w6 gb cb h1 h2 => by
          refine ⟨?_, h1.alloc _, h2.alloc h2.size _, h2.size⟩
          rw [Nat.zero_mul]
          exact Bl.new w6 48 _
        by_cases hqc : q7 = cap
        · have s0 : sz = 0 := by omega
          have l5 : Hid (q7 = cap) := hqc
          have l6 : cap - q7 = 0 := by omega
          have P3 : Hid (Calls Try.prog 26 #[.slice (some ⟨b, o, none⟩) 0 0] w5 fun e w' => ∃ v', e = .returned v' ∧ w'.ownsRow w5.heap.size 5 1 v' (8 * sz) (bys (biK E2 sz)) ∧ Below w5.heap.size w5 w') := (by
            have := S3.out (some ⟨b, o, none⟩) 0 (.inl s0)
            rw [show (Value.slice (some ⟨b, o, none⟩) sz 0) = .slice (some ⟨b, o, none⟩) 0 0 by rw [s0]] at this
            exact this)
          clear hqc
          go_wp2_with fail
          refine P3.out.mono ?_
          rintro e w6 ⟨v6, rfl, o6, b6⟩
          obtain ⟨gb, cb, ev6⟩ := row_form o6
          obtain ⟨f1, f2, f3, f4⟩ := FIN.out w6 gb cb (by rw [← ev6]; exact o6) b6
          have F : Hid (_ ∧ _ ∧ _ ∧ _) := ⟨f1, f2, f3, f4⟩
          subst ev6
          clear f1 f2 f3 o6 b6 s0
          go_wp2_with fail
          go_meet
          exact ⟨_, gb, cb, rfl, F.out.1, F.out.2.1, F.out.2.2.1, F.out.2.2.2⟩
        · have l5 : ¬ (q7 = cap) := hqc
          have P3 : Hid (Calls Try.prog 26 #[.slice (some ⟨b, o + q7, none⟩) sz (cap - q7)] w5 fun e w' => ∃ v', e = .returned v' ∧ w'.ownsRow w5.heap.size 5 1 v' (8 * sz) (bys (biK E2 sz)) ∧ Below w5.heap.size w5 w') := S3.out _ _ (.inr ⟨rfl, by omega, by unfold maxLen; omega⟩)
          clear hqc
          go_wp2_with fail
          refine P3.out.mono ?_
          rintro e w6 ⟨v6, rfl, o6, b6⟩
          obtain ⟨gb, cb, ev6⟩ := row_form o6
          obtain ⟨f1, f2, f3, f4⟩ := FIN.out w6 gb cb (by rw [← ev6]; exact o6) b6
          have F : Hid (_ ∧ _ ∧ _ ∧ _) := ⟨f1, f2, f3, f4⟩
          subst ev6
          clear f1 f2 f3 o6 b6
          go_wp2_with fail
          go_meet
          exact ⟨_, gb, cb, rfl, F.out.1, F.out.2.1, F.out.2.2.1, F.out.2.2.2⟩
      case rest =>
        obtain ⟨b5, gb, cb, rfl, G5, O5, BC⟩ := hcut
        clear S3
        have z5 : w0.heap.size ≤ w5.heap.size := by have := BB.out.2; have := B5.out.2.size; omega
        have OX5 : Hid (wc.ownsRow (w.heap.size + 1) 2 1 (.slice va t vc) (t + 0) (ints X)) := row_kb (row_kb OX.out (KB.of_below B5.out.2 (S := fun _ => False)) (fun _ _ h => h)) (KB.of_below BC.out.1 (S := fun _ => False)) (fun _ _ h => h)
        have BW5 : Hid (Below w0.heap.size w0 wc ∧ w0.heap.size ≤ wc.heap.size) := ⟨B5.out.1.trans (BC.out.1.mono z5), Nat.le_trans z5 BC.out.1.size⟩
        have SS5 : Hid (SO D n X z (t + 0)) := SS.out
        have hb5 : Hid (w5.heap.size ≤ b5) := BC.out.2
        have Z5 : Hid (w0.heap.size ≤ w5.heap.size) := z5
        clear OX SS BC z5
        go_wp2_with fail
        go_loopw [6, 8, 14] (fun vx zz iv wr => ∃ (i : Nat) (X : List Int) (z : Int), i ≤ m ∧ iv = .int .i64 (i : Int) ∧ zz = .int .i64 z ∧ Hid (SO D n X z (t + i)) ∧ Hid (wr.ownsRow (w.heap.size + 1) 2 1 vx (t + i) (ints X)) ∧ Hid (GB wr b5 (.slice gb (8 * sz) cb) (i * wd)) ∧ Hid (wr.ownsRow w5.heap.size 5 1 (.slice gb (8 * sz) cb) (8 * sz) (bys (biK E2 sz))) ∧ Hid (Below w0.heap.size w0 wr ∧ w0.heap.size ≤ wr.heap.size)) (fun _ _ iv _ => m - (intOf iv).toNat)
        case atStart => exact ⟨0, X, z, Nat.zero_le _, rfl, rfl, SS5, OX5, G5, O5, BW5⟩
        case round =>
          clear SS5 OX5 G5 O5 BW5
          obtain ⟨i, Y, zy, hi', rfl, rfl, SS, OX, GG, OB, BW⟩ := hrel
          obtain ⟨vy, hvy⟩ : ∃ vy, vy = u6 := ⟨_, rfl⟩
          subst hvy
          obtain ⟨ti, hti⟩ : ∃ ti, ti = t + i := ⟨_, rfl⟩
          rw [← hti] at OX SS
          obtain ⟨va2, vc2, ev⟩ := row_form OX.out
          subst ev
          by_cases him : i < m
          · have j1' : (i : Int) < (m : Int) := by omega
            have hmul : (i + 1) * wd ≤ m * wd := Nat.mul_le_mul_right _ (by omega)
            rw [Nat.succ_mul] at hmul
            obtain ⟨p, hp⟩ : ∃ p, p = i * wd := ⟨_, rfl⟩
            rw [← hp] at hmul GG
            have hwm := SZ.out
            have hmm : m * wd = wm := by rw [Nat.mul_comm, hwm.1]
            have PE : Hid (p = i * wd ∧ ti = t + i ∧ i < m) := ⟨hp, hti, him⟩
            obtain ⟨g, hg⟩ : ∃ g, g = nm D (psk D k + 56 + p) wd := ⟨_, rfl⟩
            have bg := nm_b D (psk D k + 56 + p) wd
            have bp := (pow48 wd (by omega)).2
            have P4 : Hid (Calls Try.prog 27 #[.pointer (some ⟨b5, 0, none⟩), .int .i64 (wd : Int)] wr fun e w' => e = .returned (.int .i64 g) ∧ GB w' b5 (.slice gb (8 * sz) cb) (p + wd) ∧ KB (fun k => k = b5) wr w') := (by
              have := sget_any wr b5 gb cb sz p wd E2 (by omega) (by omega) (by omega) GG.out (fun j hj => by
                obtain ⟨g, r1, r2, r3, r4, r5, r6⟩ := row_bits OB.out (by rw [biK_len]) j hj
                refine ⟨g, r1, r2, r3, fun e => ?_, r4, by rw [r6, biK_get E2 sz j hj]⟩
                exact (Bl.ty GG.out).ne (row_ty OB.out g (by rw [r1]; rfl)) (by decide) e.symm)
              have e : nm E2 p wd = g := by
                have h2 := nm_sub D E2 (8 * q7) p wd (fun j hj => by rw [E2H.out.1, bA_sub D q7 sz _ (by omega), Nat.add_assoc])
                rw [h2, hg, show 8 * q7 = psk D k + 56 by have := HT.out.2.2.2; have := HQ7.out; omega]
              rw [e] at this
              exact this)
            rw [← hg] at bg
            have gb' : 0 ≤ g ∧ g < 281474976710656 := by omega
            have DL : Hid (dlD D ti = ls + g) := (by
              show _ = _
              have h1 : ti / 16 = k := by have := HT.out.1; omega
              have h2 : ti % 16 = i := by have := HT.out.1; omega
              rw [dlD, h1, h2, ← LS.out, ← WD.out, ← hp, ← hg])
            have tn : ti < n := by omega
            have SN := SS.out.next tn ls g ⟨ls_b.1, ls_b.2, gb'.1, gb'.2⟩ DL.out
            obtain ⟨y1', hy1'⟩ : ∃ y, y = IntKind.i64.wrap (zy + ls) := ⟨_, rfl⟩
            obtain ⟨yy, hyy⟩ : ∃ y, y = IntKind.i64.wrap (y1' + g) := ⟨_, rfl⟩
            rw [← hy1', ← hyy] at SN
            have ew1 : wrap64 (zy + ls) = y1' := by rw [wr64, hy1']
            have ew1' : IntKind.i64.wrap (zy + ls) = y1' := hy1'.symm
            have ew2 : wrap64 (y1' + g) = yy := by rw [wr64, hyy]
            have ew2' : IntKind.i64.wrap (y1' + g) = yy := hyy.symm
            have SN' : Hid (SO D n (Y ++ [yy]) yy (t + (i + 1))) := (by show SO _ _ _ _ _; rw [show t + (i + 1) = ti + 1 by omega]; exact SN)
            have YL : Hid (Y.length = ti) := SS.out.1
            clear hmul hp hwm hmm hti him hg bg bp SN SS hy1' hyy gb'
            go_wp2_with fail
            refine P4.out.mono ?_
            rintro e w7 ⟨rfl, g7, k7⟩
            have bne : ∀ g, (Value.slice va2 ti vc2).ownBlock = some g → ¬ g = b5 := fun g hg e => (Bl.ty GG.out).ne (row_ty OX.out g hg) (by decide) e.symm
            have bne2 : ∀ g, (Value.slice gb (8 * sz) cb).ownBlock = some g → ¬ g = b5 := fun g hg e => (Bl.ty GG.out).ne (row_ty OB.out g hg) (by decide) e.symm
            have OX7 : Hid (w7.ownsRow (w.heap.size + 1) 2 1 (.slice va2 ti vc2) ti (ints Y)) := row_kb OX.out k7 bne
            have OB7 : Hid (w7.ownsRow w5.heap.size 5 1 (.slice gb (8 * sz) cb) (8 * sz) (bys (biK E2 sz))) := row_kb OB.out k7 bne2
            have BW7 : Hid (Below w0.heap.size w0 w7 ∧ w0.heap.size ≤ w7.heap.size) := ⟨BW.out.1.trans (k7.below BW.out.2 (fun k e => by have := hb5.out; have := Z5.out; omega)), Nat.le_trans BW.out.2 k7.size⟩
            have G7 : Hid (GB w7 b5 (.slice gb (8 * sz) cb) (p + wd)) := g7
            have t4 : ti ≤ 65536 := by omega
            have z7 : w.heap.size + 1 ≤ w7.heap.size := by have := BW7.out.2; have := Z0.out; omega
            clear g7 k7 P4 OX OB BW GG bne bne2
            go_wp2_with (at_builtin; refine wpList_append_own_at _ rfl _ _ 22 rfl (w.heap.size + 1) 2 tf (.int .i64 0) 1 8 Try.underlying22 hi hz0 hz1 hz2 rfl (by decide) _ _ _ rfl (OX7.out.alloc _) ⟨w7.heap.size, 0, none⟩ 1 1 [.int .i64 yy] rfl rfl (cell_one_new _ _ _) (by intro u hu; simp at hu; subst hu; rfl) (by unfold maxLen; omega) (by omega) (by simp; omega) ?_)
            intro v8 w8 hown hgrow _ _
            have O8 : Hid (w8.ownsRow (w.heap.size + 1) 2 1 v8 (t + (i + 1)) (ints (Y ++ [yy]))) := (by
              show World.ownsRow _ _ _ _ _ _ _
              rw [show t + (i + 1) = ti + 1 by have := PE.out.2.1; omega, ints_snoc]
              exact hown)
            have al : KB (fun _ => False) w7 (w7.alloc (Obj.cells #[.int .i64 yy] 2)) := KB.of_below ((Below.refl _ _).alloc (Nat.le_refl _) _)
            have gr' : KB (fun g => (Value.slice va2 ti vc2).ownBlock = some g) (w7.alloc (Obj.cells #[.int .i64 yy] 2)) w8 := KB.of_grown hgrow (fun g e => e)
            have oxa : (w7.alloc (Obj.cells #[.int .i64 yy] 2)).ownsRow (w.heap.size + 1) 2 1 (.slice va2 ti vc2) ti (ints Y) := OX7.out.alloc _
            have OB8 : Hid (w8.ownsRow w5.heap.size 5 1 (.slice gb (8 * sz) cb) (8 * sz) (bys (biK E2 sz))) := row_kb (row_kb OB7.out al (fun _ _ h => h)) gr' (fun g hg hs => type_ne oxa (row_kb OB7.out al (fun _ _ h => h)) (by decide) g hs hg)
            have G8 : Hid (GB w8 b5 (.slice gb (8 * sz) cb) ((i + 1) * wd)) := (by
              show GB _ _ _ _
              have h1 : GB (w7.alloc (Obj.cells #[.int .i64 yy] 2)) b5 (.slice gb (8 * sz) cb) (p + wd) := Bl.kb G7.out al (fun h => h)
              have h2 : GB w8 b5 (.slice gb (8 * sz) cb) (p + wd) := Bl.kb h1 gr' (fun h => (Bl.ty h1).ne (row_ty oxa b5 h) (by decide) rfl)
              rw [show (i + 1) * wd = p + wd by rw [Nat.succ_mul, ← PE.out.1]]
              exact h2)
            have B8 : Hid (Below w0.heap.size w0 w8 ∧ w0.heap.size ≤ w8.heap.size) := ⟨(BW7.out.1.alloc BW7.out.2 _).grown hgrow (by have := BW7.out.2; simp; omega) (fun b hb => by have := (OX7.out.lt b hb).1; have := Z0.out; omega), Nat.le_trans BW7.out.2 (Nat.le_trans (by simp) hgrow.size)⟩
            clear hown hgrow al gr' oxa OX7 OB7 BW7 G7
            go_wp2_with fail
            go_roundw
            case rel => exact ⟨i + 1, Y ++ [yy], yy, by have := PE.out; omega, by go_num, rfl, SN', O8, G8, OB8, B8⟩
            case measure => simp [intOf] <;> have := PE.out <;> omega
          · have ei : i = m := by omega
            have j1' : ¬ (i : Int) < (m : Int) := by omega
            have mt : min (16 * (k + 1)) n = ti := by have := HT.out; omega
            have O7 : Hid (wr.ownsRow (w.heap.size + 1) 2 1 (.slice va2 ti vc2) (min (16 * (k + 1)) n) (ints Y)) := (by show World.ownsRow _ _ _ _ _ _ _; rw [mt]; exact OX.out)
            have S7 : Hid (SO D n Y zy (min (16 * (k + 1)) n)) := (by show SO _ _ _ _ _; rw [mt]; exact SS.out)
            have tlt : t < ti := by omega
            have tin : ti ≤ n := by omega
            clear mt hti ei him OX SS OB GG
            go_wp2_with fail
            go_roundw
            case rel =>
              refine ⟨k + 1, q8, Y, zy, by have := HT.out.2.1; omega, q8N, rfl, fun hk1 => ?_, rfl, S7, O7, BW⟩
              have h1 := HT.out
              have e16 : m = 16 := by unfold ng at hk1; omega
              have h2 := SZ.out
              rw [e16] at h2
              have h3 := HQ8.out
              have h4 := HQ7.out
              rw [psk, ← h1.2.2.2]
              have h5 : wdD D (psk D k) = wd := WD.out.symm
              rw [← h1.2.2.2] at h5
              rw [h5]
              omega
            case measure => simp [slen]; omega
    · have emin : min (16 * k) n = n := by omega
      rw [emin] at OX SS
      obtain ⟨va, vc, ev⟩ := row_form OX.out
      subst ev
      have i2 : ¬ (n : Int) < (n : Int) := by omega
      have XL := SS.out.1
      have RX : Reads wo (.slice va n vc) X := reads_row (base := w.heap.size + 1) (by rw [XL]; exact OX.out)
      have P9 : Hid (Calls Try.prog 6 #[.slice va n vc] wo fun e w' => ∃ v', e = .returned (.tuple #[v', .bool (sml 1099511627776 X)]) ∧ w'.ownsRow wo.heap.size 5 1 v' (pks X).length (bys (pks X)) ∧ Below wo.heap.size wo w') := spackm_any wo _ X RX (by omega)
      have NF : Hid (¬ (sml 1099511627776 X = true ∧ pk X = D) → ∀ L, ¬ RD D L) := fun h L hL => by
        obtain ⟨h1, h2⟩ := XQ.out L hL
        have h3 := (SS.out.2.2 h2).1
        rw [h1, ← h3] at hL
        exact h ⟨hL.1, hL.2⟩
      have HX : Hid (X.length = n) := XL
      clear emin XL RX NG hqk SS
      go_wp2_with fail
      refine P9.out.mono ?_
      rintro e w6 ⟨v6, rfl, o6, b6⟩
      have BB6 : Hid (Below w0.heap.size w0 w6) := BB.out.1.trans (b6.mono BB.out.2)
      have OX6 : Hid (w6.ownsRow w.heap.size 2 1 (.slice va n vc) X.length (ints X)) := (by
        show World.ownsRow _ _ _ _ _ _ _
        rw [HX.out]
        exact row_lift (row_kb OX.out (KB.of_below b6 (S := fun _ => False)) (fun _ _ h => h)) (by omega))
      have k1 := conv_any w6 v6 _ (Bytes.reads_row o6)
      have k2 := conv_any w6 _ D (RA.out w6 BB6.out)
      cases hs : sml 1099511627776 X
      · have F1 : Hid (∀ L, ¬ RD D L) := NF.out (fun h => by rw [hs] at h; cases h.1)
        clear hs o6 b6 P9 OX k1 k2
        go_wp2_with fail
        go_ret2
        exact NO.out _ BB6.out F1.out
      · have ep : pks X = pk X := by unfold pks; rw [hs]; rfl
        rw [ep] at k1 o6
        have k3 := stB_eq (byt_by _ (pkB_01 X (ng X.length))) HD.out
        rw [show byt (pkB X (ng X.length)) = pk X from rfl] at k3
        obtain ⟨r, hr⟩ : ∃ r, r = decide (pk X = D) := ⟨_, rfl⟩
        rw [← hr] at k3
        obtain ⟨A, hA⟩ : ∃ A, A = stB (pk X) := ⟨_, rfl⟩
        obtain ⟨B, hB⟩ : ∃ B, B = stB D := ⟨_, rfl⟩
        rw [← hA] at k1 k3
        rw [← hB] at k2 k3
        obtain ⟨a6, c6, ev6⟩ := row_form o6
        obtain ⟨n6, hn6⟩ : ∃ n6, n6 = (pk X).length := ⟨_, rfl⟩
        rw [← hn6] at ev6
        have HRr : Hid (r = decide (pk X = D) ∧ sml 1099511627776 X = true) := ⟨hr, hs⟩
        subst ev6
        clear o6 b6 P9 OX hs hr hA hB hn6 ep
        cases r
        · have F1 : Hid (∀ L, ¬ RD D L) := NF.out (fun h => by have := HRr.out.1; simp [h.2] at this)
          go_wp2_with fail
          go_ret2
          exact NO.out _ BB6.out F1.out
        · have T1 : Hid (RD D X) := ⟨HRr.out.2, by have := HRr.out.1; simpa using this.symm⟩
          go_wp2_with fail
          go_ret2
          exact ⟨B0.out.trans (BB6.out.mono (by have := Z0.out; omega)), .inl ⟨X, _, T1.out, rfl, OX6.out⟩⟩
end Go.Proofs.Ytmopkbkdfipglaa.Lists
