/- Drain of the program at a right box, walked. -/
import Derived.Test.YtagkbglgdmajhaaDi
namespace Go.Proofs.Ytagkbglgdmajhaa.Hm
open Go.ChangeShapes Go.WideShapes Go.ChangeAt Go.RowKit
open Go.Proofs.Ytagkbglgdmajhaa.Lists Go.Proofs.Ytagkbglgdmajhaa.Dp Go.Proofs.Ytagkbglgdmajhaa.Hp Go.Proofs.Ytagkbglgdmajhaa.Gd

def NN (n : Nat) (s : S3) : Prop := ∀ x, x < n → s.N.getD x 0 ≠ -2
theorem NN.ini (r c : Int) (L : List Int) : NN L.length (ini r c L) := fun x hx => by
  show (List.replicate L.length (-1 : Int)).getD x 0 ≠ -2
  simp [List.getD_eq_getElem?_getD, hx]
theorem NN.set {n : Nat} {s : S3} (h : NN n s) {y : Nat} (hy : y < n) (hl : s.N.length = n) (t : Nat) (F H : List Int) : NN n ⟨F, s.N.set y t, H⟩ := fun x hx => by
  show (s.N.set y (t : Int)).getD x 0 ≠ -2
  rw [set_get (by omega)]
  by_cases e : x = y
  · rw [if_pos e]; omega
  · rw [if_neg e]; exact h x hx
theorem set_self (L : List Int) (k : Nat) : L.set k (L.getD k 0) = L := by
  apply List.ext_getElem (by simp)
  intro i h1 h2
  rw [List.getElem_set]
  split
  · rename_i e; subst e; simp [List.getD_eq_getElem?_getD, h2]
  · rfl
/-- the front ahead of any step -/
theorem hk_start (r c : Int) (L : List Int) : HK L.length L (H0 r c L.length 0) [] := by
  refine ⟨by rw [H0_none]; rfl, List.nodup_nil, fun K => ?_⟩
  constructor
  · intro h; simp at h
  · rintro ⟨x, hx, h1, _⟩
    rw [H0_get r c hx] at h1
    simp at h1
theorem hk_next_no {r c : Int} {L P : List Int} {k : Nat} (hk : k < L.length) (h : HK L.length L (H0 r c L.length k) P) (e : edB r c k = false) : HK L.length L (H0 r c L.length (k + 1)) P := by
  rw [H0_next r c hk, if_neg (by rw [e]; simp)]; exact h
theorem hk_next_yes {r c : Int} {L P Q : List Int} {k : Nat} (hk : k < L.length) (hn : L.length ≤ 1000) (h : HK L.length L (H0 r c L.length k) P) (e : edB r c k = true) (p : Q.Perm (P ++ [L.getD k 0 * 1000 + k])) : HK L.length L (H0 r c L.length (k + 1)) Q := by
  rw [H0_next r c hk, if_pos e]
  have := h.push rfl (H0_len _ _ _ _) hn hk (by rw [H0_get r c hk]; simp) (L.getD k 0) p
  rwa [set_self] at this
theorem cnt_none {v : Int} {L : List Int} (h : ∀ i, i < L.length → L.getD i 0 ≠ v) : cnt v L = 0 := by
  induction L with
  | nil => rfl
  | cons x L ih =>
    simp only [cnt]
    rw [if_neg (by have := h 0 (by simp); simpa using this), ih (fun i hi => by have := h (i + 1) (by simpa using hi); simpa using this)]
theorem heap_nil : Heap [] 0 := fun i _ h => absurd h (Nat.not_lt_zero i)
theorem hp_new (B : Nat) (w : World) (hB : B ≤ w.heap.size) : HP B (w.heap.size + 1) ((w.alloc (Obj.cells #[] 52)).alloc (Obj.cells #[.slice (some ⟨w.heap.size, 0, none⟩) 0 0] 47)) (.slice (some ⟨w.heap.size, 0, none⟩) 0 0) [] := by
  refine ⟨⟨⟨[], ?_, fun i hi => absurd hi (by simp)⟩, ?_⟩, heap_nil⟩
  · have a : (w.alloc (Obj.cells #[] 52)).ownsRow B 52 2 (.slice (some ⟨w.heap.size, 0, none⟩) 0 0) 0 [] := ⟨rfl, .inr ⟨w.heap.size, 0, #[], rfl, hB, by simp [World.alloc, -World.alloc_eq], Nat.le_refl _, by simp [maxLen], rfl, rfl⟩⟩
    exact a.alloc _
  · have := Bl.new (w.alloc (Obj.cells #[] 52)) 47 #[.slice (some ⟨w.heap.size, 0, none⟩) 0 0]
    simpa using this
theorem fin_res {r c : Int} {u : Value} {f g h k : Nat} {w wx : World} {hv : Value} {L X P : List Int} {s : S3} (hc : 1 ≤ c) (hn : (L.length : Int) = r * c) (d : DM r c u L.length f g h w wx hv s.F X P) (hk : HK L.length s.F s.H P) (hr : Rch r c L k s) (nx : NX L.length s X) (h0 : P.length = 0) : DPo r c L w (.returned (.tuple #[sl g L.length, sl h L.length])) wx := by
  have gd := rch_good hc hn hr
  have fin : Dp.Fin L.length s := fun x hx => cnt_zero (by rw [← hk.len]; exact h0) x (by rw [gd.inv.lh]; exact hx)
  have e := nx_fin nx gd (all_two hc hn gd fin)
  refine ⟨_, _, s, rfl, ⟨k, hr, fin⟩, Bx.own_down d.rf (by omega), by rw [← e]; exact Bx.own_down d.rx (by omega), fun b hb x => ?_, d.bl⟩
  simp [Value.ownBlock] at hb x
  exact d.gh (hb.trans x.symm)

set_option maxRecDepth 20000 in
set_option maxHeartbeats 4000000 in
theorem idrain_yes (r c : Int) (v : Value) (L : List Int) (w : World) (hL : Lists.Reads w v L) (hq : Bx.okB r c L = true) :
    Calls Try.prog 8 #[Bx.sv r c v] w fun e w' => DPo r c L w e w' := by
  obtain ⟨⟨r1, r2⟩, ⟨c1, c2⟩, hn⟩ := size_of hq
  obtain ⟨n1, n2⟩ := Bx.mul_le ⟨r1, r2⟩ ⟨c1, c2⟩
  have B0 : Below w.heap.size w (w.alloc (Obj.cells #[.int .i64 r, .int .i64 c, v] 28)) := (Below.refl _ _).alloc (Nat.le_refl _) _
  obtain ⟨w0, hw0⟩ : ∃ w0, w0 = w.alloc (Obj.cells #[.int .i64 r, .int .i64 c, v] 28) := ⟨_, rfl⟩
  have HW : Hid (w0 = w.alloc (Obj.cells #[.int .i64 r, .int .i64 c, v] 28)) := hw0
  have BX0 : Hid (Bl w0 w.heap.size 28 #[.int .i64 r, .int .i64 c, v]) := (by show Bl _ _ _ _; rw [hw0]; exact Bl.new w 28 _)
  have S0 : Hid (w0.heap.size = w.heap.size + 1) := (by show _ = _; rw [hw0]; simp)
  rw [← hw0] at B0
  have CO := Bx.iok_any r c L v w0 (hL.on B0) (by omega)
  rw [hq] at CO
  have CC : Hid (Calls Try.prog 23 #[Bx.sv r c v] w0 fun e w' => e = .returned (.bool true) ∧ Below w0.heap.size w0 w') := CO
  have BB0 : Hid (Below w.heap.size w w0) := B0
  obtain ⟨n, hnn⟩ : ∃ n : Nat, n = L.length := ⟨_, rfl⟩
  have n3 : 1 ≤ n ∧ n ≤ 576 := by omega
  obtain ⟨vb, vo, vc, hv0, v1, v2⟩ := reads_at2 hL (by omega)
  rw [← hnn] at v2 hv0
  subst hv0
  have VC : Hid (∀ X, Below w.heap.size w X → ∀ i, i < n → X.cell? ⟨vb, vo + i, none⟩ = some (.int .i64 (L.getD i 0))) := fun X hb i hi => (hb.cell (p := ⟨vb, vo + i, none⟩) v1).trans (v2 i hi)
  have RN : Hid ((1 ≤ r ∧ r ≤ 24) ∧ (1 ≤ c ∧ c ≤ 24)) := ⟨⟨r1, r2⟩, c1, c2⟩
  have HN : Hid (n = L.length) := hnn
  have HM : Hid ((L.length : Int) = r * c) := hn
  have FZ : Hid ((madeCells (Value.int .i64 0).cells (L.length * 1)).toList = ints (fill L 0)) := fill_zero L
  obtain ⟨i0, hi, hz0, hz1, hz2⟩ := info_parts Lists.Try.info2
  rw [← hnn] at FZ
  clear hw0 CO B0 hL hq hn hnn n1 n2 v2
  obtain ⟨n3, n4⟩ := n3
  go_enter Try.func8, Try.ntmps8
  go_wp2_with fail
  rw [← HW.out]
  refine CC.out.mono ?_
  rintro e w1 ⟨rfl, b⟩
  have B1 : Hid (Below w.heap.size w w1) := BB0.out.trans (b.mono BB0.out.size)
  have BX1 : Hid (Bl w1 w.heap.size 28 #[.int .i64 r, .int .i64 c, .slice (some ⟨vb, vo, none⟩) n vc]) := BX0.out.on b
  have S1 : Hid (w.heap.size + 1 ≤ w1.heap.size) := (by show _ ≤ _; have := b.size; have := S0.out; omega)
  clear b CC HW BB0 BX0 S0
  have g0 : w1.cell? ⟨w.heap.size, 0, none⟩ = some (.int .i64 r) := BX1.out.cell 0
  have g1 : w1.cell? ⟨w.heap.size, 1, none⟩ = some (.int .i64 c) := BX1.out.cell 1
  have g2 : w1.cell? ⟨w.heap.size, 2, none⟩ = some (.slice (some ⟨vb, vo, none⟩) n vc) := BX1.out.cell 2
  go_upto_region 4 with (at_make; refine wpList_make_full _ rfl _ _ 22 rfl w1.heap.size 2 i0 (.int .i64 0) 1 Try.underlying22 hi hz0 hz1 .i64 .i64 (n : Int) (n : Int) n rfl rfl rfl rfl (by rw [hz2]; omega) (by unfold maxLen; omega) (Nat.le_refl _) ?_; intro w2 hown hgrow)
  rw [FZ.out] at hown
  have B2 : Hid (Below w1.heap.size w1 w2) := (Below.refl _ _).grown hgrow (Nat.le_refl _) (fun k hk => by cases hk)
  have R2 : Hid (w2.ownsRow w1.heap.size 2 1 (sl w1.heap.size n) n (ints (fill L 0))) := hown
  have BX2 : Hid (Bl w2 w.heap.size 28 #[.int .i64 r, .int .i64 c, .slice (some ⟨vb, vo, none⟩) n vc]) := BX1.out.on B2.out
  clear hown hgrow g0 g1 g2 BX1
  have g0 : w2.cell? ⟨w.heap.size, 0, none⟩ = some (.int .i64 r) := BX2.out.cell 0
  have g1 : w2.cell? ⟨w.heap.size, 1, none⟩ = some (.int .i64 c) := BX2.out.cell 1
  have g2 : w2.cell? ⟨w.heap.size, 2, none⟩ = some (.slice (some ⟨vb, vo, none⟩) n vc) := BX2.out.cell 2
  go_upto_region 5 with (at_make; refine wpList_make_full _ rfl _ _ 22 rfl w2.heap.size 2 i0 (.int .i64 0) 1 Try.underlying22 hi hz0 hz1 .i64 .i64 (n : Int) (n : Int) n rfl rfl rfl rfl (by rw [hz2]; omega) (by unfold maxLen; omega) (Nat.le_refl _) ?_; intro w3 hown hgrow)
  rw [FZ.out] at hown
  have B3 : Hid (Below w2.heap.size w2 w3) := (Below.refl _ _).grown hgrow (Nat.le_refl _) (fun k hk => by cases hk)
  have T0 : Hid (DM r c (.slice (some ⟨vb, vo, none⟩) n vc) n (w3.heap.size + 1) w1.heap.size w2.heap.size w ((w3.alloc (Obj.cells #[] 52)).alloc (Obj.cells #[.slice (some ⟨w3.heap.size, 0, none⟩) 0 0] 47)) (.slice (some ⟨w3.heap.size, 0, none⟩) 0 0) (fill L 0) (X1 r c n 0) []) := (by
    have l1 := R2.out.lt w1.heap.size rfl
    have s1 := S1.out
    have s3 := B3.out.size
    have bb : Below w3.heap.size w3 ((w3.alloc (Obj.cells #[] 52)).alloc (Obj.cells #[.slice (some ⟨w3.heap.size, 0, none⟩) 0 0] 47)) := ((Below.refl _ _).alloc (Nat.le_refl _) _).alloc (by simp) _
    have r3 := Bx.row_on R2.out B3.out
    refine ⟨(B1.out.trans (B2.out.mono B1.out.size)).trans ((B3.out.mono (by have := B1.out.size; have := B2.out.size; omega)).trans (bb.mono (by have := B1.out.size; have := B2.out.size; omega))), (BX2.out.on B3.out).on bb, Bx.row_on (Bx.own_down r3 s1) bb, ?_, by omega, hp_new _ w3 (by omega), by omega⟩
    rw [show X1 r c n 0 = fill L 0 by rw [HN.out]; exact X1_zero r c L]
    exact Bx.row_on (Bx.own_down hown (by omega)) bb)
  have K0 : Hid (HK n L (H0 r c n 0) []) := (by show HK _ _ _ _; rw [HN.out]; exact hk_start r c L)
  obtain ⟨w4, hw4⟩ : ∃ w4, w4 = (w3.alloc (Obj.cells #[] 52)).alloc (Obj.cells #[.slice (some ⟨w3.heap.size, 0, none⟩) 0 0] 47) := ⟨_, rfl⟩
  have HW4 : Hid (w4 = (w3.alloc (Obj.cells #[] 52)).alloc (Obj.cells #[.slice (some ⟨w3.heap.size, 0, none⟩) 0 0] 47)) := hw4
  rw [← hw4] at T0
  obtain ⟨f, hf⟩ : ∃ f, f = w3.heap.size + 1 := ⟨_, rfl⟩
  have HF : Hid (f = w3.heap.size + 1) := hf
  rw [← hf] at T0
  clear hown hgrow g0 g1 g2 BX2 R2 B2 B3 B1 S1 hw4 hf
  go_upto_region 6 with fail
  rw [← HW4.out, ← HF.out]
  obtain ⟨ga, hga⟩ : ∃ ga, ga = w1.heap.size := ⟨_, rfl⟩
  obtain ⟨gb, hgb⟩ : ∃ gb, gb = w2.heap.size := ⟨_, rfl⟩
  rw [← hga, ← hgb] at T0 ⊢
  clear hga hgb HW4 HF FZ
  obtain ⟨g0, g1, g2⟩ : w4.cell? ⟨w.heap.size, 0, none⟩ = some (.int .i64 r) ∧ w4.cell? ⟨w.heap.size, 1, none⟩ = some (.int .i64 c) ∧ w4.cell? ⟨w.heap.size, 2, none⟩ = some (.slice (some ⟨vb, vo, none⟩) n vc) := ⟨T0.out.bx.cell 0, T0.out.bx.cell 1, T0.out.bx.cell 2⟩
  go_wp2_with fail
  go_loopw [30] (fun i wr => ∃ (k : Nat) (P : List Int) (hv : Value), k ≤ n ∧ i = .int .i64 k ∧ Hid (DM r c (.slice (some ⟨vb, vo, none⟩) n vc) n f ga gb w wr hv (fill L k) (X1 r c n k) P) ∧ Hid (HK n L (H0 r c n k) P)) (fun i _ => n - (intOf i).toNat)
  case atStart => exact ⟨0, [], _, Nat.zero_le _, rfl, T0, K0⟩
  case round =>
    clear T0 K0 g0 g1 g2
    obtain ⟨k, P, hv, hk, rfl, D, KK⟩ := hrel
    by_cases hlt : k < n
    · have i0 : (0 : Int) ≤ (k : Int) := by omega
      have i1 : (k : Int) < (n : Int) := by omega
      have q0 := VC.out wr D.out.bl k hlt
      obtain ⟨q1, q2⟩ := row_at D.out.rf k hlt
      obtain ⟨q3, q4⟩ := row_at D.out.rx k hlt
      have gab := D.out.gh
      have gba : gb ≠ ga := fun e => gab e.symm
      have FS : Hid ((fill L k).set k (L.getD k 0) = fill L (k + 1)) := fill_set L k
      have D1 : Hid (DM r c (.slice (some ⟨vb, vo, none⟩) n vc) n f ga gb w ((wr.setCell ⟨ga, k, none⟩ (.int .i64 (L.getD k 0))).setCell ⟨gb, k, none⟩ (.int .i64 (-2))) hv (fill L (k + 1)) ((X1 r c n k).set k (-2)) P) := (by
        have := (D.out.putf k (L.getD k 0)).putx k (-2)
        rw [FS.out] at this
        exact this)
      have LK : Hid (L.getD k 0 = L.getD k 0) := rfl
      obtain ⟨z, hz⟩ : ∃ z, z = L.getD k 0 := ⟨_, rfl⟩
      have HZ : Hid (z = L.getD k 0) := hz
      rw [← hz] at q0 D1
      generalize (fill L k).getD k 0 = y1 at q1
      generalize (X1 r c n k).getD k 0 = y2 at q3
      clear hz LK FS D
      go_upto_region 11 with fail
      obtain ⟨wd, hwd⟩ : ∃ wd, wd = (wr.setCell ⟨ga, k, none⟩ (.int .i64 z)).setCell ⟨gb, k, none⟩ (.int .i64 (-2)) := ⟨_, rfl⟩
      rw [← hwd] at D1 ⊢
      clear hwd q0 q1 q2 q3 q4
      obtain ⟨g0, g1, g2⟩ : wd.cell? ⟨w.heap.size, 0, none⟩ = some (.int .i64 r) ∧ wd.cell? ⟨w.heap.size, 1, none⟩ = some (.int .i64 c) ∧ wd.cell? ⟨w.heap.size, 2, none⟩ = some (.slice (some ⟨vb, vo, none⟩) n vc) := ⟨D1.out.bx.cell 0, D1.out.bx.cell 1, D1.out.bx.cell 2⟩
      have EC : Hid (Calls Try.prog 24 #[Bx.sv r c (.slice (some ⟨vb, vo, none⟩) n vc), .int .i64 k] wd fun e w' => e = .returned (.bool (edB r c k)) ∧ Below wd.heap.size wd w') := iedge_any r c k RN.out.1 RN.out.2 (by omega) _ wd
      obtain ⟨q, hq⟩ : ∃ q, edB r c k = q := ⟨_, rfl⟩
      rw [hq] at EC
      have HQ : Hid (edB r c k = q) := hq
      clear hq
      go_wp2_with fail
      refine EC.out.mono ?_
      rintro e wf ⟨rfl, b⟩
      have D2 : Hid (DM r c (.slice (some ⟨vb, vo, none⟩) n vc) n f ga gb w wf hv (fill L (k + 1)) ((X1 r c n k).set k (-2)) P) := D1.out.on b
      clear b D1 EC g0 g1 g2
      cases q
      · have D3 : Hid (DM r c (.slice (some ⟨vb, vo, none⟩) n vc) n f ga gb w wf hv (fill L (k + 1)) (X1 r c n (k + 1)) P) := (by
          show DM _ _ _ _ _ _ _ _ _ _ _ _ _
          rw [X1_next r c hlt, HQ.out]
          exact D2.out)
        have K3 : Hid (HK n L (H0 r c n (k + 1)) P) := (by
          show HK _ _ _ _
          have h := KK.out
          rw [HN.out] at h hlt ⊢
          exact hk_next_no hlt h HQ.out)
        clear D2 KK
        go_wp2_with fail
        go_roundw
        case rel => exact ⟨k + 1, P, hv, by omega, by go_num, D3, K3⟩
        case measure => simp [intOf]; omega
      · obtain ⟨q3, q4⟩ := row_at D2.out.rx k hlt
        have D3 : Hid (DM r c (.slice (some ⟨vb, vo, none⟩) n vc) n f ga gb w (wf.setCell ⟨gb, k, none⟩ (.int .i64 (-1))) hv (fill L (k + 1)) (X1 r c n (k + 1)) P) := (by
          have h := D2.out.putx k (-1)
          rw [List.set_set] at h
          show DM _ _ _ _ _ _ _ _ _ _ _ _ _
          rw [X1_next r c hlt, HQ.out]
          exact h)
        have PL : P.length ≤ 4000 := by have := KK.out.le (H0_len _ _ _ _); omega
        generalize ((X1 r c n k).set k (-2)).getD k 0 = y2 at q3
        clear D2
        go_upto_region 13 with fail
        obtain ⟨wg, hwg⟩ : ∃ wg, wg = wf.setCell ⟨gb, k, none⟩ (.int .i64 (-1)) := ⟨_, rfl⟩
        rw [← hwg] at D3 ⊢
        clear hwg q3 q4
        have CP : Hid (Calls Try.prog 25 #[iv f, .iface 52 (.agg #[.int .i64 z, .int .i64 k])] wg fun e w' => PPost (w.heap.size + 1) f hv wg (P ++ [z * 1000 + k]) e w') := hpush2 _ f wg hv P z k (by omega) PL (by have := D3.out.gl; omega) D3.out.hp
        go_wp2_with fail
        refine CP.out.mono ?_
        rintro e wh ⟨hv', P', rfl, p1, p2, p3⟩
        have D4 : Hid (DM r c (.slice (some ⟨vb, vo, none⟩) n vc) n f ga gb w wh hv' (fill L (k + 1)) (X1 r c n (k + 1)) P') := D3.out.k6 p3 p1
        have K4 : Hid (HK n L (H0 r c n (k + 1)) P') := (by
          show HK _ _ _ _
          have h := KK.out
          rw [HZ.out] at p2
          rw [HN.out] at h hlt ⊢
          exact hk_next_yes hlt (by rw [← HN.out]; omega) h HQ.out p2)
        clear p1 p2 p3 CP D3 KK
        go_wp2_with fail
        go_roundw
        case rel => exact ⟨k + 1, P', hv', by omega, by go_num, D4, K4⟩
        case measure => simp [intOf]; omega
    · have hkn : k = n := by omega
      subst hkn
      have i1 : ¬ (k : Int) < (k : Int) := by omega
      have D0 : Hid (DM r c (.slice (some ⟨vb, vo, none⟩) k vc) k f ga gb w wr hv (ini r c L).F (X1 r c k k) P) := (by
        have h := D.out
        rw [show fill L k = L by rw [HN.out]; exact fill_all L] at h
        exact h)
      have K0 : Hid (HK k (ini r c L).F (ini r c L).H P) := (by
        have h := KK.out
        show HK k L (H0 r c L.length L.length) P
        rw [← HN.out]
        exact h)
      have N0 : Hid (NX k (ini r c L) (X1 r c k k)) := (by show NX _ _ _; rw [HN.out]; exact X1_nx r c L)
      have M0 : Hid (NN k (ini r c L)) := (by show NN _ _; rw [HN.out]; exact NN.ini r c L)
      have R0 : Hid (Rch r c L 0 (ini r c L)) := rfl
      clear D KK hlt
      go_wp2_with fail
      go_loopg [10] (k + 1) (fun m _ wr => ∃ (kk : Nat) (s : S3) (P X : List Int) (hv : Value), Hid (DM r c (.slice (some ⟨vb, vo, none⟩) k vc) k f ga gb w wr hv s.F X P) ∧ Hid (HK k s.F s.H P) ∧ Hid (Rch r c L kk s) ∧ Hid (NX k s X) ∧ Hid (NN k s) ∧ Hid (m + cnt 2 s.H = k + 1))
      case atStart =>
        refine ⟨0, ini r c L, P, _, hv, D0, K0, R0, N0, M0, ?_⟩
        show k + 1 + cnt 2 (H0 r c L.length L.length) = k + 1
        have e : cnt 2 (H0 r c L.length L.length) = 0 := cnt_none (fun x hx => by
          rw [H0_len] at hx
          rw [H0_get r c hx]
          split <;> omega)
        rw [e]
      case round =>
        clear D0 K0 R0 N0 M0 hk
        obtain ⟨kk, s, P, X, hv, D, KK, RR, NX0, NN0, MM⟩ := hrel
        have GD : Hid (Dp.Good r c L s) := rch_good c1 HM.out RR.out
        obtain ⟨pa, pc, hpv⟩ := D.out.hp.hr.form
        have PLN : P.length ≤ 4000 := by have := KK.out.le (by rw [GD.out.inv.lh, HN.out]); omega
        have ML : (method 203 45 (.pointer (some ⟨f, 0, none⟩)) "Len").run Try.prog wr = .ok (59, hv) wr := mLen wr f hv D.out.hp.hr.cel
        have LN : Hid (Calls Try.prog 59 #[hv] wr fun e w' => e = .returned (.int .i64 (P.length : Int)) ∧ w' = wr) := (by
          show Calls _ _ _ _ _
          rw [hpv]
          exact len_any pa P.length pc wr)
        obtain ⟨p, hp⟩ : ∃ p, p = P.length := ⟨_, rfl⟩
        have HP0 : Hid (p = P.length) := hp
        rw [← hp] at LN PLN
        clear hpv hp
        go_wp2_with fail
        refine LN.out.mono ?_
        rintro e w5 ⟨rfl, hw⟩
        have hw' := hw.symm
        subst hw'
        clear hw LN ML
        by_cases h0 : p = 0
        · subst h0
          have i1 : ¬ (0 : Int) < ((0 : Nat) : Int) := by omega
          have FF : Hid (DPo r c L w (.returned (.tuple #[sl ga k, sl gb k])) wr) := (by
            have d := D.out
            have h := KK.out
            have nx := NX0.out
            show DPo _ _ _ _ _ _
            rw [HN.out] at d h nx ⊢
            exact fin_res c1 HM.out d h RR.out nx HP0.out.symm)
          clear D KK RR NX0 NN0 MM GD
          go_wp2_with fail
          exact bodyPost_ret (v := .tuple #[sl ga k, sl gb k]) (by simp [results, Try.results8, go_sem]) rfl FF.out
        · have i1 : (0 : Int) < (p : Int) := by omega
          obtain ⟨p', hp'⟩ : ∃ p', p = p' + 1 := ⟨p - 1, by omega⟩
          have LW := lowest_any (w.heap.size + 1) f wr hv P p' (by rw [← HP0.out]; exact hp') (by omega) D.out.hp
          have HPP : ∀ Q : List Int, P.Perm (P.getD 0 0 :: Q) → ∃ t, IsMin k s.F s.H t ∧ P.getD 0 0 = s.F.getD t 0 * 1000 + t ∧ HK k s.F (s.H.set t 2) Q := fun Q hQ => KK.out.pop (by rw [GD.out.inv.lh, HN.out]) (by omega) (by rw [← HP0.out]; omega) (fun x hx => D.out.hp.hp.least x hx) hQ
          have LC : Hid (Calls Try.prog 26 #[iv f] wr fun e w' => ∃ (t : Nat) (v' : Value) (Q : List Int), e = .returned (.agg #[.int .i64 (s.F.getD t 0), .int .i64 t]) ∧ IsMin k s.F s.H t ∧ HK k s.F (s.H.set t 2) Q ∧ HP (w.heap.size + 1) f w' v' Q ∧ K6 f hv wr w' v') := LW.mono (by
            rintro e w' ⟨v', Q, rfl, h1, h2, h3⟩
            obtain ⟨t, t1, t2, t3⟩ := HPP Q h2
            have := t1.1
            refine ⟨t, v', Q, ?_, t1, t3, h1, h3⟩
            rw [t2, show (s.F.getD t 0 * 1000 + (t : Int)) / 1000 = s.F.getD t 0 by omega, show (s.F.getD t 0 * 1000 + (t : Int)) % 1000 = t by omega])
          clear LW HPP hp'
          go_wp2_with fail
          refine LC.out.mono ?_
          rintro e w6 ⟨t, hv6, Q, rfl, t1, t2, t3, t4⟩
          have TM : Hid (IsMin k s.F s.H t) := t1
          have tn := t1.1
          have D6 : Hid (DM r c (.slice (some ⟨vb, vo, none⟩) k vc) k f ga gb w w6 hv6 s.F X Q) := D.out.k6 t4 t3
          have K6' : Hid (HK k s.F (s.H.set t 2) Q) := t2
          clear t1 t2 t3 t4 LC D KK
          obtain ⟨fa, hfa⟩ : ∃ fa, fa = s.F.getD t 0 := ⟨_, rfl⟩
          have HFA : Hid (fa = s.F.getD t 0) := hfa
          rw [← hfa]
          clear hfa
          have D7 : Hid (DM r c (.slice (some ⟨vb, vo, none⟩) k vc) k f ga gb w (w6.alloc (Obj.cells #[.int .i64 fa, .int .i64 t] 52)) hv6 s.F X Q) := D6.out.on ((Below.refl _ _).alloc (Nat.le_refl _) _)
          have F7 : Hid (FB w6.heap.size fa t hv6 (w6.alloc (Obj.cells #[.int .i64 fa, .int .i64 t] 52))) := ⟨Bl.new w6 52 _, fun e => by have := (D6.out.hp.ty _ e).2.2; omega⟩
          obtain ⟨q, hq⟩ : ∃ q, q = w6.heap.size := ⟨_, rfl⟩
          obtain ⟨w7, hw7⟩ : ∃ w7, w7 = w6.alloc (Obj.cells #[.int .i64 fa, .int .i64 t] 52) := ⟨_, rfl⟩
          have HW7 : Hid (w7 = w6.alloc (Obj.cells #[.int .i64 fa, .int .i64 t] 52)) := hw7
          have HQ7 : Hid (q = w6.heap.size) := hq
          rw [← hw7] at D7 F7
          rw [← hq] at F7
          clear hw7 hq D6
          go_upto_region 17 with fail
          rw [← HW7.out, ← HQ7.out]
          clear HW7 HQ7
          obtain ⟨g0, g1, g2⟩ : w7.cell? ⟨w.heap.size, 0, none⟩ = some (.int .i64 r) ∧ w7.cell? ⟨w.heap.size, 1, none⟩ = some (.int .i64 c) ∧ w7.cell? ⟨w.heap.size, 2, none⟩ = some (.slice (some ⟨vb, vo, none⟩) k vc) := ⟨D7.out.bx.cell 0, D7.out.bx.cell 1, D7.out.bx.cell 2⟩
          have b1 : w7.cell? ⟨q, 1, none⟩ = some (.int .i64 t) := F7.out.bl.cell 1
          have tx : 0 ≤ (t : Int) ∧ (t : Int) < r * c := by have h1 := HM.out; have h2 := HN.out; omega
          have AC : Hid (Calls Try.prog 27 #[Bx.sv r c (.slice (some ⟨vb, vo, none⟩) k vc), .int .i64 t] w7 fun e w' => ∃ v', e = .returned v' ∧ NR w7.heap.size v' (s4 r c t) w' ∧ Below w7.heap.size w7 w') := (around_any r c t RN.out.1 RN.out.2 tx _ w7).mono (by
            rintro e w' ⟨v', rfl, a1, a2⟩
            refine ⟨v', rfl, ?_, a2⟩
            rw [nb_s4 c1 tx] at a1
            have e : (Gd.nb r c ((t : Int) / c) ((t : Int) % c)).length = (s4 r c t).length := by rw [← nb_s4 c1 tx, List.length_map]
            rw [e] at a1
            exact a1)
          go_wp2_with fail
          refine AC.out.mono ?_
          rintro e w8 ⟨sv, rfl, a1, a2⟩
          have D8 : Hid (DM r c (.slice (some ⟨vb, vo, none⟩) k vc) k f ga gb w w8 hv6 s.F X Q) := D7.out.on a2
          have F8 : Hid (FB q fa t hv6 w8) := F7.out.on a2
          have N8 : Hid (NR w7.heap.size sv (s4 r c t) w8) := a1
          have GB : Hid (ga < w7.heap.size ∧ gb < w7.heap.size ∧ q < w7.heap.size) := ⟨D7.out.gl.1.2, D7.out.gl.2.2, F7.out.bl.lt⟩
          have Y4 := (s4_in c1 tx).1
          obtain ⟨sa, sc, es⟩ := Gd.row_form a1
          subst es
          obtain ⟨ls, hls⟩ : ∃ ls, ls = (s4 r c t).length := ⟨_, rfl⟩
          have HLS : Hid (ls = (s4 r c t).length) := hls
          rw [← hls] at Y4 N8 ⊢
          clear a1 a2 hls D7 F7 AC g0 g1 g2 b1
          have M8 : Hid (NX k (mk s t) X) := nx_mk NX0.out tn (by rw [GD.out.inv.lh, HN.out]) (by rw [TM.out.2.1]; omega)
          have O8 : Hid (NN k (mk s t)) := NN0.out
          have I8 : Hid (Inv r c L (mk s t)) := GD.out.inv.mkk (by rw [← HN.out]; exact tn)
          have E8 : Hid (((ys r c t).drop 0).foldl (nb L t) (mk s t) = stp r c L s t) := rfl
          have T8 : Hid ((mk s t).H.getD t 0 ≠ 0 ∧ (mk s t).F.getD t 0 = fa ∧ cnt 2 (mk s t).H = cnt 2 s.H + 1) := (by
            have hl : t < s.H.length := by rw [GD.out.inv.lh, ← HN.out]; exact tn
            refine ⟨?_, HFA.out.symm, ?_⟩
            · show (s.H.set t 2).getD t 0 ≠ 0
              rw [set_get hl, if_pos rfl]; omega
            · have := cnt_set 2 2 s.H t hl
              rw [TM.out.2.1] at this
              have e : cnt 2 (s.H.set t 2) = cnt 2 s.H + 1 := by simpa using this
              exact e)
          clear NX0 NN0 h0 i1
          go_wp2_with fail
          go_loopw [12, 66] (fun _ i wx => ∃ (j : Nat) (u : S3) (P X : List Int) (hv : Value), j ≤ ls ∧ i = .int .i64 j ∧ Hid (DM r c (.slice (some ⟨vb, vo, none⟩) k vc) k f ga gb w wx hv u.F X P) ∧ Hid (HK k u.F u.H P) ∧ Hid (NX k u X) ∧ Hid (NN k u) ∧ Hid (Inv r c L u) ∧ Hid (FB q fa t hv wx) ∧ Hid (NR w7.heap.size (.slice sa ls sc) (s4 r c t) wx) ∧ Hid (((ys r c t).drop j).foldl (Dp.nb L t) u = stp r c L s t) ∧ Hid (u.H.getD t 0 ≠ 0 ∧ u.F.getD t 0 = fa ∧ cnt 2 u.H = cnt 2 s.H + 1)) (fun _ i _ => ls - (intOf i).toNat)
          case atStart => exact ⟨0, mk s t, Q, X, hv6, Nat.zero_le _, rfl, D8, K6', M8, O8, I8, F8, N8, E8, T8⟩
          case round =>
            clear D8 K6' M8 O8 I8 F8 N8 E8 T8
            obtain ⟨j, u, P, X, hv, hj, rfl, D, KK, NX1, NN1, IV, FQ, NRW, EE, TT⟩ := hrel
            by_cases hlt : j < ls
            · have i0 : (0 : Int) ≤ (j : Int) := by omega
              have i1 : (j : Int) < (ls : Int) := by omega
              obtain ⟨y, hy⟩ : ∃ y, y = (ys r c t).getD j 0 := ⟨_, rfl⟩
              have ysl : (ys r c t).length = ls := by rw [HLS.out]; exact List.length_map _
              have yin : y < k := (by
                rw [hy, List.getD_eq_getElem?_getD, List.getElem?_eq_getElem (by omega)]
                have := ys_in c1 HM.out (show t < L.length by rw [← HN.out]; exact tn) ((ys r c t)[j]'(by omega)) (List.getElem_mem _)
                rw [HN.out]
                exact this)
              have DR : Hid ((ys r c t).drop j = y :: (ys r c t).drop (j + 1)) := (by
                show _ = _
                rw [List.drop_eq_getElem_cons (show j < (ys r c t).length by omega), hy]
                simp [List.getD_eq_getElem?_getD, show j < (ys r c t).length by omega])
              have yv : (s4 r c t).getD j 0 = (y : Int) := (by
                have hl : j < (s4 r c t).length := by rw [← HLS.out]; exact hlt
                have hin := (s4_in c1 tx).2 ((s4 r c t)[j]) (List.getElem_mem _)
                rw [hy]
                unfold ys
                simp only [List.getD_eq_getElem?_getD, List.getElem?_map, List.getElem?_eq_getElem hl]
                simp
                omega)
              obtain ⟨gs, hgs, cy⟩ : ∃ gs, sa = some ⟨gs, 0, none⟩ ∧ wr.cell? ⟨gs, j, none⟩ = some (.int .i64 y) := (by
                have h := NRW.out
                unfold NR at h
                rw [← HLS.out] at h
                rcases row_cases (L := s4 r c t) (by rw [← HLS.out]; exact h) with ⟨e, _⟩ | ⟨gs, cs, e, _⟩
                · exfalso
                  have := congrArg List.length e
                  rw [← HLS.out] at this
                  simp at this
                  omega
                · injection e with e1 e2 e3
                  refine ⟨gs, e1, ?_⟩
                  subst e1
                  have := (row_at h j hlt).1
                  rw [yv] at this
                  exact this)
              subst hgs
              clear hy yv ysl
              have EN : Hid (((ys r c t).drop (j + 1)).foldl (Dp.nb L t) (Dp.nb L t u y) = stp r c L s t) := (by
                have h := EE.out
                rw [DR.out, List.foldl_cons] at h
                exact h)
              obtain ⟨x1, x2⟩ := row_at D.out.rx y yin
              have j0 : (0 : Int) ≤ (y : Int) := by omega
              have j1 : (y : Int) < (k : Int) := by omega
              have XV := NX1.out.2 y yin
              have IN : Hid (Inv r c L (Dp.nb L t u y)) := IV.out.nb (by rw [← HN.out]; exact yin)
              by_cases h0 : u.H.getD y 0 = 0
              · rw [if_pos h0] at XV
                rw [XV] at x1
                obtain ⟨f1, f2⟩ := row_at D.out.rf y yin
                have b0 : wr.cell? ⟨q, 0, none⟩ = some (.int .i64 fa) := FQ.out.bl.cell 0
                have b1 : wr.cell? ⟨q, 1, none⟩ = some (.int .i64 t) := FQ.out.bl.cell 1
                have gab := D.out.gh
                have gba : gb ≠ ga := fun e => gab e.symm
                have UN := IV.out.un y (by rw [← HN.out]; exact yin) h0
                rw [UN] at f1
                obtain ⟨ly, hly⟩ : ∃ ly, ly = L.getD y 0 := ⟨_, rfl⟩
                rw [← hly] at f1
                obtain ⟨mx, hmx⟩ : ∃ mx : Int, mx = max ly fa := ⟨_, rfl⟩
                have NB : Hid (Dp.nb L t u y = ⟨u.F.set y mx, u.N.set y t, u.H.set y 1⟩) := (by
                  show _ = _
                  rw [nb_yes h0, TT.out.2.1, ← hly, ← hmx])
                obtain ⟨wz, hwz⟩ : ∃ wz, wz = ((wr.setCell ⟨ga, y, none⟩ (.int .i64 mx)).setCell ⟨gb, y, none⟩ (.int .i64 t)).drew := ⟨_, rfl⟩
                have HWZ : Hid (wz = ((wr.setCell ⟨ga, y, none⟩ (.int .i64 mx)).setCell ⟨gb, y, none⟩ (.int .i64 t)).drew) := hwz
                have D1 : Hid (DM r c (.slice (some ⟨vb, vo, none⟩) k vc) k f ga gb w wz hv (u.F.set y mx) (X.set y t) P) := (by
                  show DM _ _ _ _ _ _ _ _ _ _ _ _ _
                  rw [hwz]
                  exact ((D.out.putf y mx).putx y t).drewN 1)
                have ta : Ty wr ga 2 := row_ty D.out.rf ga rfl
                have tb : Ty wr gb 2 := row_ty D.out.rx gb rfl
                have F1 : Hid (FB q fa t hv wz) := (by
                  show FB _ _ _ _ _
                  rw [hwz]
                  exact ((FQ.out.set ta).set (row_ty (D.out.putf y mx).rx gb rfl)).on (Bx.below_drewN (Below.refl _ _) 1))
                have N1 : Hid (NR w7.heap.size (.slice (some ⟨gs, 0, none⟩) ls sc) (s4 r c t) wz) := (by
                  show NR _ _ _ _
                  rw [hwz]
                  exact ((NRW.out.set GB.out.1).set GB.out.2.1).on (Bx.below_drewN (Below.refl _ _) 1))
                have FM : (u.F.set y mx).getD y 0 = mx := by rw [set_get (by rw [IV.out.lf, ← HN.out]; exact yin), if_pos rfl]
                obtain ⟨m1, m2⟩ := row_at D1.out.rf y yin
                rw [FM] at m1
                have PL : P.length ≤ 4000 := by have := KK.out.le (by rw [IV.out.lh, HN.out]); omega
                have CP : Hid (Calls Try.prog 25 #[iv f, .iface 52 (.agg #[.int .i64 mx, .int .i64 y])] wz fun e w' => PPost (w.heap.size + 1) f hv wz (P ++ [mx * 1000 + y]) e w') := hpush2 _ f wz hv P mx y (by omega) PL (by have := D1.out.gl; omega) D1.out.hp
                have WM1 : ly < fa → mx = fa := fun h => by rw [hmx]; omega
                have WM2 : ¬ ly < fa → mx = ly := fun h => by rw [hmx]; omega
                have qa : q ≠ ga := fun e => by subst e; exact FQ.out.bl.ty.ne ta (by decide) rfl
                have qb : q ≠ gb := fun e => by subst e; exact FQ.out.bl.ty.ne tb (by decide) rfl
                have KN : Hid (∀ Q : List Int, Q.Perm (P ++ [mx * 1000 + y]) → HK k (u.F.set y mx) (u.H.set y 1) Q) := fun Q hQ => KK.out.push (by rw [IV.out.lf, HN.out]) (by rw [IV.out.lh, HN.out]) (by omega) yin h0 mx hQ
                have XN : Hid (NX k (Dp.nb L t u y) (X.set y t)) := (by
                  show NX _ _ _
                  rw [NB.out]
                  exact nx_nb NX1.out yin (by rw [IV.out.lh, HN.out]) (by rw [IV.out.ln, HN.out]) t _)
                have OO : Hid (NN k (Dp.nb L t u y)) := (by
                  show NN _ _
                  rw [NB.out]
                  exact NN1.out.set yin (by rw [IV.out.ln, HN.out]) t _ _)
                have TN : Hid ((Dp.nb L t u y).H.getD t 0 ≠ 0 ∧ (Dp.nb L t u y).F.getD t 0 = fa ∧ cnt 2 (Dp.nb L t u y).H = cnt 2 s.H + 1) := (by
                  obtain ⟨k1, _, _, _, k5⟩ := nb_keep (L := L) (t := t) (show y < u.H.length by rw [IV.out.lh, ← HN.out]; exact yin)
                  refine ⟨by rw [k1 t TT.out.1]; exact TT.out.1, (k5 t TT.out.1).trans TT.out.2.1, ?_⟩
                  rw [NB.out]
                  have := cnt_set 2 1 u.H y (by rw [IV.out.lh, ← HN.out]; exact yin)
                  rw [h0] at this
                  have e : cnt 2 (u.H.set y 1) = cnt 2 u.H := by simpa using this
                  exact e.trans TT.out.2.2)
                clear hmx hly hwz FM m2 PL XV UN D KK NX1 NN1 IV FQ NRW EE TT DR ta tb h0
                by_cases lt : ly < fa
                · have em := WM1 lt
                  rw [em] at HWZ m1 CP KN
                  go_upto_region 21 with fail
                  go_region
                  all_goals
                    rw [← HWZ.out]
                    clear x1 x2 f1 f2 b0 b1
                    go_wp2_with fail
                    refine CP.out.mono ?_
                    rintro e wh ⟨hv', P', rfl, p1, p2, p3⟩
                    have D4 : Hid (DM r c (.slice (some ⟨vb, vo, none⟩) k vc) k f ga gb w wh hv' (Dp.nb L t u y).F (X.set y t) P') := (by
                      have h := D1.out.k6 p3 p1
                      show DM _ _ _ _ _ _ _ _ _ _ _ _ _
                      rw [NB.out]
                      exact h)
                    have K4 : Hid (HK k (Dp.nb L t u y).F (Dp.nb L t u y).H P') := (by
                      have h := KN.out P' p2
                      rw [← em] at h
                      show HK _ _ _ _
                      rw [NB.out]
                      exact h)
                    have F4 : Hid (FB q fa t hv' wh) := F1.out.k6 D1.out.hp.hr.bx.ty p3
                    have N4 : Hid (NR w7.heap.size (.slice (some ⟨gs, 0, none⟩) ls sc) (s4 r c t) wh) := N1.out.k6 D1.out.hp p3
                    clear p1 p2 p3 CP D1 F1 N1 KN HWZ m1
                    go_wp2_with fail
                    go_roundw
                    case rel => exact ⟨j + 1, Dp.nb L t u y, P', X.set y t, hv', by omega, by go_num, D4, K4, XN, OO, IN, F4, N4, EN, TN⟩
                    case measure => simp [intOf]; omega
                · have em := WM2 lt
                  rw [em] at HWZ m1 CP KN
                  go_upto_region 21 with fail
                  go_region
                  all_goals
                    rw [← HWZ.out]
                    clear x1 x2 f1 f2 b0 b1
                    go_wp2_with fail
                    refine CP.out.mono ?_
                    rintro e wh ⟨hv', P', rfl, p1, p2, p3⟩
                    have D4 : Hid (DM r c (.slice (some ⟨vb, vo, none⟩) k vc) k f ga gb w wh hv' (Dp.nb L t u y).F (X.set y t) P') := (by
                      have h := D1.out.k6 p3 p1
                      show DM _ _ _ _ _ _ _ _ _ _ _ _ _
                      rw [NB.out]
                      exact h)
                    have K4 : Hid (HK k (Dp.nb L t u y).F (Dp.nb L t u y).H P') := (by
                      have h := KN.out P' p2
                      rw [← em] at h
                      show HK _ _ _ _
                      rw [NB.out]
                      exact h)
                    have F4 : Hid (FB q fa t hv' wh) := F1.out.k6 D1.out.hp.hr.bx.ty p3
                    have N4 : Hid (NR w7.heap.size (.slice (some ⟨gs, 0, none⟩) ls sc) (s4 r c t) wh) := N1.out.k6 D1.out.hp p3
                    clear p1 p2 p3 CP D1 F1 N1 KN HWZ m1
                    go_wp2_with fail
                    go_roundw
                    case rel => exact ⟨j + 1, Dp.nb L t u y, P', X.set y t, hv', by omega, by go_num, D4, K4, XN, OO, IN, F4, N4, EN, TN⟩
                    case measure => simp [intOf]; omega
              · rw [if_neg h0] at XV
                have NE : (X.getD y 0 == -2) = false := by
                  have := NN1.out y yin
                  rw [XV]
                  simpa using this
                have NB : Hid (Dp.nb L t u y = u) := nb_no h0
                have E2 : Hid (((ys r c t).drop (j + 1)).foldl (Dp.nb L t) u = stp r c L s t) := (by
                  have h := EN.out
                  rw [NB.out] at h
                  exact h)
                generalize X.getD y 0 = xv at x1 NE
                clear XV EN EE IN NB DR h0
                go_wp2_with fail
                go_roundw
                case rel => exact ⟨j + 1, u, P, X, hv, by omega, by go_num, D, KK, NX1, NN1, IV, FQ, NRW, E2, TT⟩
                case measure => simp [intOf]; omega
            · have hjl : j = ls := by omega
              subst hjl
              have i1 : ¬ (j : Int) < (j : Int) := by omega
              have EU : Hid (u = stp r c L s t) := (by
                have h := EE.out
                rw [List.drop_eq_nil_of_le (by rw [HLS.out]; exact Nat.le_of_eq (List.length_map _))] at h
                exact h)
              have RK : Hid (Rch r c L (kk + 1) u) := ⟨s, t, RR.out, by rw [← HN.out]; exact TM.out, EU.out⟩
              have LE := cnt_le 2 u.H
              rw [IV.out.lh, ← HN.out] at LE
              have M1 : 1 ≤ gk := (by have := MM.out; have := TT.out.2.2; omega)
              have MN : Hid (gk - 1 + cnt 2 u.H = k + 1) := (by have h1 := MM.out; have h2 := TT.out.2.2; show _ = _; omega)
              clear EE IV FQ NRW TT EU RR MM TM GD LE
              go_wp2_with fail
              go_roundg (gk - 1)
              case measure => omega
              case rel => exact ⟨kk + 1, u, P, X, hv, D, KK, RK, NX1, NN1, MN⟩
end Go.Proofs.Ytagkbglgdmajhaa.Hm
