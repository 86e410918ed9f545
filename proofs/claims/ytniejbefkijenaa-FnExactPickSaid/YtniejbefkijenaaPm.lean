/- Pick, the model. -/
import Derived.Test.YtniejbefkijenaaPk
import Derived.Test.YtniejbefkijenaaWr
import Derived.Test.YtniejbefkijenaaAs
namespace Go.Proofs.Ytniejbefkijenaa.Ix
open Go.ChangeShapes Go.WideShapes Go.ChangeAt Go.RowKit
open Al Eo Ky
def nm (P : List ByteArray) (s : ByteArray) (j : Nat) : Bool := decide (P.length = 0) || hasS (P.take j) s
theorem nm_succ (P : List ByteArray) (s : ByteArray) (j : Nat) (h : j < P.length) : nm P s (j + 1) = (nm P s j || ((P.getD j ⟨#[]⟩).toList == s.toList)) := by
  unfold nm hasS
  rw [List.take_succ_eq_append_getElem h, List.any_append]
  have e : P.getD j ⟨#[]⟩ = P[j] := by simp [List.getD_eq_getElem?_getD, h]
  have e2 : (s.toList == P[j].toList) = (P[j].toList == s.toList) := by rw [Bool.eq_iff_iff]; simp; exact eq_comm
  rw [e]
  simp [Bool.or_assoc, e2]
theorem nm_zero (P : List ByteArray) (s : ByteArray) : nm P s 0 = decide (P.length = 0) := by simp [nm, hasS]
theorem nm_all (P : List ByteArray) (s : ByteArray) : nm P s P.length = askS P s := by unfold nm askS; rw [List.take_length]
theorem below_drewN {B : Nat} {a w : World} (h : Below B a w) (n : Nat) : Below B a (w.drewN n) := h.trans ⟨rfl, rfl, rfl, Nat.le_refl _, fun _ _ => rfl⟩

set_option maxRecDepth 20000 in
set_option maxHeartbeats 2000000 in
theorem spick_any (L : En.Ls) (v : Value) (R : Rq) (vP vT vS vL : Value) (w : World) (h : En.Reads w v L) (hf : Ft L) (hr : RqR w vP vT vS vL R) (l3 : R.1.length ≤ 2000000 ∧ R.2.1.length ≤ 2000000 ∧ R.2.2.1.length ≤ 2000000 ∧ R.2.2.2.length ≤ 2000000) :
    Calls Try.prog 21 #[v, .agg #[vP, vT, vS, vL]] w fun e w' => ∃ u0, e = .returned u0 ∧ En.Row w' w.heap.size u0 (if okA L && okR R then pick L R else []) ∧ Below w.heap.size w w' := by
  have HB : Below w.heap.size w (w.alloc (Obj.cells #[vP, vT, vS, vL] 47)) := (Below.refl _ _).alloc (Nat.le_refl _) _
  obtain ⟨w0, hw0⟩ : ∃ w0, w0 = w.alloc (Obj.cells #[vP, vT, vS, vL] 47) := ⟨_, rfl⟩
  rw [← hw0] at HB
  have BB : Hid (Below w.heap.size w w0) := HB
  obtain ⟨wl, hwl⟩ : ∃ wl, wl = w0.alloc (Obj.cells #[] 31) := ⟨_, rfl⟩
  have BL0 : Below w0.heap.size w0 wl := by rw [hwl]; exact (Below.refl _ _).alloc (Nat.le_refl _) _
  have RL : En.Row wl w0.heap.size (.slice (some ⟨w0.heap.size, 0, none⟩) 0 0) [] := by rw [hwl]; exact lit_rowE w0 _ (Nat.le_refl _)
  have RLw : En.Row wl w.heap.size (.slice (some ⟨w0.heap.size, 0, none⟩) 0 0) [] := by
    obtain ⟨xs, ho, hg⟩ := RL
    exact ⟨xs, ho.mono HB.size, hg⟩
  have BWL : Below w.heap.size w wl := HB.trans (BL0.mono HB.size)
  obtain ⟨qa, hqa⟩ : ∃ q, q = okA L := ⟨_, rfl⟩
  obtain ⟨qr, hqr⟩ : ∃ q, q = okR R := ⟨_, rfl⟩
  have HQ : Hid (qa = okA L ∧ qr = okR R) := ⟨hqa, hqr⟩
  have CA : Hid (Calls Try.prog 26 #[v] wl fun e w' => e = .returned (.bool qa) ∧ Below wl.heap.size wl w') := hqa ▸ sarch_any wl v L (h.on BWL) hf
  have CR : Hid (∀ w', Below w.heap.size w w' → Calls Try.prog 43 #[.agg #[vP, vT, vS, vL]] w' fun e w2 => e = .returned (.bool qr) ∧ Below w'.heap.size w' w2) := fun w' hb => hqr ▸ sreq_any R vP vT vS vL w' (hr.on hb)
  have HA : Hid (∀ (w' : World) (x : En1), Below w.heap.size w w' → (Calls Try.prog 44 #[vT, .int .i64 x.2.1] w' fun e w2 => e = .returned (.bool (askI R.2.1 x.2.1)) ∧ w2 = w') ∧ (Calls Try.prog 44 #[vS, .int .i64 x.2.2.1] w' fun e w2 => e = .returned (.bool (askI R.2.2.1 x.2.2.1)) ∧ w2 = w') ∧ (Calls Try.prog 44 #[vL, .int .i64 x.2.2.2.1] w' fun e w2 => e = .returned (.bool (askI R.2.2.2 x.2.2.2.1)) ∧ w2 = w')) := fun w' x hb =>
    ⟨shas_any _ _ _ _ (hr.on hb).t l3.2.1, shas_any _ _ _ _ (hr.on hb).s l3.2.2.1, shas_any _ _ _ _ (hr.on hb).l l3.2.2.2⟩
  have ln := h.fits
  have l31 := l3.1
  obtain ⟨a, cap, rfl⟩ := h.form
  have HC : Hid (∀ (w' : World) (i : Nat), Below w.heap.size w w' → i < L.length → ∃ b o, a = some ⟨b, o, none⟩ ∧ b < w.heap.size ∧ En.Cs w' b o L i) := fun w' i hb hi => (by
      rcases h with ⟨rfl, _⟩ | ⟨b, o, c, e, _, _, x, y⟩
      · simp at hi
      · simp at e; exact ⟨b, o, e.1, x, (y i hi).below hb x⟩)
  obtain ⟨pa, pc, hp⟩ := hr.p.form
  obtain ⟨ta, tc, ht⟩ := hr.t.form
  obtain ⟨sa, sc, hs⟩ := hr.s.form
  obtain ⟨la, lc, hl⟩ := hr.l.form
  have HP : Hid (∀ (w' : World) (i : Nat), Below w.heap.size w w' → i < R.1.length → ∃ b o, pa = some ⟨b, o, none⟩ ∧ w'.cell? ⟨b, o + i, none⟩ = some (.string (R.1.getD i ⟨#[]⟩))) := fun w' i hb hi => (by
      have hrp := hr.p
      rcases hrp with ⟨e0, _⟩ | ⟨b, o, c, e, _, _, x, y⟩
      · rw [e0] at hi; simp at hi
      · rw [e] at hp; simp at hp; exact ⟨b, o, hp.1.symm, (hb.cell (p := ⟨b, o + i, none⟩) x).trans (y i hi)⟩)
  obtain ⟨np, hnp⟩ : ∃ np, np = R.1.length := ⟨_, rfl⟩
  have HNP : Hid (np = R.1.length) := hnp
  rw [← hnp] at hp l31 HP
  generalize R.2.1.length = nt at *
  generalize R.2.2.1.length = ns at *
  generalize R.2.2.2.length = nl at *
  subst hp ht hs hl
  have RB : Hid (∀ w', Below w0.heap.size w0 w' → w'.cell? ⟨w.heap.size, 0, none⟩ = some (.slice pa np pc) ∧ w'.cell? ⟨w.heap.size, 1, none⟩ = some (.slice ta nt tc) ∧ w'.cell? ⟨w.heap.size, 2, none⟩ = some (.slice sa ns sc) ∧ w'.cell? ⟨w.heap.size, 3, none⟩ = some (.slice la nl lc)) := fun w' hb => (by
    have hz : w.heap.size < w0.heap.size := by rw [hw0]; simp
    refine ⟨?_, ?_, ?_, ?_⟩
    · rw [hb.cell (p := ⟨w.heap.size, 0, none⟩) hz, hw0]; simp [go_sem]
    · rw [hb.cell (p := ⟨w.heap.size, 1, none⟩) hz, hw0]; simp [go_sem]
    · rw [hb.cell (p := ⟨w.heap.size, 2, none⟩) hz, hw0]; simp [go_sem]
    · rw [hb.cell (p := ⟨w.heap.size, 3, none⟩) hz, hw0]; simp [go_sem])
  have HW : Hid (w0 = w.alloc (Obj.cells #[.slice pa np pc, .slice ta nt tc, .slice sa ns sc, .slice la nl lc] 47)) := hw0
  have HWL : Hid (wl = w0.alloc (Obj.cells #[] 31)) := hwl
  have HRL : Hid (En.Row wl w0.heap.size (.slice (some ⟨w0.heap.size, 0, none⟩) 0 0) []) := RL
  have HRLW : Hid (En.Row wl w.heap.size (.slice (some ⟨w0.heap.size, 0, none⟩) 0 0) []) := RLw
  have HBL : Hid (Below w0.heap.size w0 wl) := BL0
  obtain ⟨m, hm⟩ : ∃ m, m = L.length := ⟨_, rfl⟩
  have HM : Hid (m = L.length) := hm
  rw [← hqa, ← hqr]
  rw [← hm] at ln HC CA ⊢
  have m300 : Hid (qa = true → m ≤ 300) := fun e => (by rw [HM.out]; exact okA_len (by rw [← HQ.out.1]; exact e))
  clear h hf hr l3 hqa hqr HB hw0 hm HQ hwl RL RLw BL0 BWL hnp
  obtain ⟨XB, hXB⟩ : ∃ X, X = w.heap.size := ⟨_, rfl⟩
  have HXB : Hid (XB = w.heap.size) := hXB
  rw [← hXB] at RB
  clear hXB
  go_enter Try.func21, Try.ntmps21
  go_upto_region 1 with fail
  rw [← HW.out, ← HXB.out]
  go_upto_region 2 with fail
  rw [← HWL.out]
  go_wp2_with fail
  refine CA.out.mono ?_
  rintro e w1 ⟨rfl, b1⟩
  have B1 : Hid (Below w0.heap.size w0 w1) := HBL.out.trans (b1.mono HBL.out.size)
  have BW1 : Hid (Below w.heap.size w w1) := BB.out.trans (B1.out.mono BB.out.size)
  have R1 : Hid (En.Row w1 w.heap.size (.slice (some ⟨w0.heap.size, 0, none⟩) 0 0) []) := HRLW.out.on b1
  have R1' : Hid (En.Row w1 w0.heap.size (.slice (some ⟨w0.heap.size, 0, none⟩) 0 0) []) := HRL.out.on b1
  clear b1 CA
  cases qa
  · go_wp2_with fail
    go_ret
    exact ⟨_, rfl, R1.out, BW1.out⟩
  obtain ⟨r0, r1, r2, r3⟩ := RB.out w1 B1.out
  go_wp2_with fail
  refine (CR.out w1 BW1.out).mono ?_
  rintro e w2 ⟨rfl, b2⟩
  have B2 : Hid (Below w0.heap.size w0 w2) := B1.out.trans (b2.mono B1.out.size)
  have BW2 : Hid (Below w.heap.size w w2) := BW1.out.trans (b2.mono BW1.out.size)
  have R2 : Hid (En.Row w2 w.heap.size (.slice (some ⟨w0.heap.size, 0, none⟩) 0 0) []) := R1.out.on b2
  have R0 : Hid (En.Row w2 w0.heap.size (.slice (some ⟨w0.heap.size, 0, none⟩) 0 0) ((L.take 0).filter (asks R))) := R1'.out.on b2
  clear b2 CR r0 r1 r2 r3 R1 R1' HRL HRLW
  cases qr
  · go_wp2_with fail
    go_ret
    exact ⟨_, rfl, R2.out, BW2.out⟩
  have m3 := m300.out (by trivial)
  clear m300 R2
  go_wp2_with fail
  go_loopw [5, 6] (fun u i wr => ∃ k : Nat, k ≤ m ∧ i = .int .i64 k ∧ Hid (En.Row wr w0.heap.size u ((L.take k).filter (asks R))) ∧ Hid (Below w0.heap.size w0 wr)) (fun _ i _ => m - (intOf i).toNat)
  case atStart => exact ⟨0, Nat.zero_le _, rfl, R0, B2⟩
  case round =>
    clear R0
    obtain ⟨k, hk, rfl, RR, B⟩ := hrel
    obtain ⟨u, hu⟩ : ∃ u, u = u5 := ⟨_, rfl⟩
    subst hu
    by_cases hlt : k < m
    · have i0 : (0 : Int) ≤ (k : Int) := by omega
      have i1 : (k : Int) < (m : Int) := by omega
      have BW : Hid (Below w.heap.size w wr) := BB.out.trans (B.out.mono BB.out.size)
      obtain ⟨b, o, rfl, hbw, q0, q1, q2, q3, q4⟩ := HC.out wr k BW.out hlt
      have NX0 : (L.take (k + 1)).filter (asks R) = (L.take k).filter (asks R) ++ (if asks R (en L k) then [en L k] else []) := take_filter_succ (asks R) L k (by rw [← HM.out]; exact hlt)
      have WW : asks R (en L k) = (askS R.1 (En.c0 L k) && (askI R.2.1 (En.c1 L k) && (askI R.2.2.1 (En.c2 L k) && askI R.2.2.2 (En.c3 L k)))) := rfl
      have HE : en L k = (En.c0 L k, En.c1 L k, En.c2 L k, En.c3 L k, En.c4 L k) := rfl
      have LN : Hid (((L.take k).filter (asks R)).length + 1 ≤ 1000) := (by
        have h1 := List.length_filter_le (asks R) (L.take k)
        have h2 := List.length_take_le k L
        show _ ≤ _
        omega)
      have NX : Hid ((L.take (k + 1)).filter (asks R) = (L.take k).filter (asks R) ++ (if (askS R.1 (En.c0 L k) && (askI R.2.1 (En.c1 L k) && (askI R.2.2.1 (En.c2 L k) && askI R.2.2.2 (En.c3 L k)))) then [(En.c0 L k, En.c1 L k, En.c2 L k, En.c3 L k, En.c4 L k)] else [])) := (by rw [WW, HE] at NX0; exact NX0)
      clear NX0 WW HE
      obtain ⟨we, hwe⟩ : ∃ we, we = wr.alloc (Obj.cells #[.string (En.c0 L k), .int .i64 (En.c1 L k), .int .i64 (En.c2 L k), .int .i64 (En.c3 L k), .int .i64 (En.c4 L k)] 31) := ⟨_, rfl⟩
      have BE : Below w0.heap.size w0 we := by rw [hwe]; exact B.out.alloc B.out.size _
      have RE : Hid (∀ n, En.Row (we.drewN n) w0.heap.size u ((L.take k).filter (asks R))) := fun n => (by
        have h1 : En.Row we w0.heap.size u ((L.take k).filter (asks R)) := by rw [hwe]; exact RR.out.on ((Below.refl _ _).alloc (Nat.le_refl _) _)
        exact h1.on (below_drewN (Below.refl _ _) n))
      have HBE : Hid (∀ n, Below w0.heap.size w0 (we.drewN n)) := fun n => below_drewN BE n
      have HBW : Hid (∀ n, Below w.heap.size w (we.drewN n)) := fun n => BB.out.trans ((HBE.out n).mono BB.out.size)
      have CC : Hid (∀ n, _) := fun n => HA.out (we.drewN n) (En.c0 L k, En.c1 L k, En.c2 L k, En.c3 L k, En.c4 L k) (HBW.out n)
      have ALL := nm_all R.1 (En.c0 L k)
      have HALL : Hid (nm R.1 (En.c0 L k) np = askS R.1 (En.c0 L k)) := (by show _ = _; rw [HNP.out]; exact ALL)
      clear ALL
      generalize En.c0 L k = x0 at *
      generalize En.c1 L k = x1 at *
      generalize En.c2 L k = x2 at *
      generalize En.c3 L k = x3 at *
      generalize En.c4 L k = x4 at *
      simp only at CC
      generalize askS R.1 x0 = p0 at *
      generalize askI R.2.1 x1 = p1 at *
      generalize askI R.2.2.1 x2 = p2 at *
      generalize askI R.2.2.2 x3 = p3 at *
      have HWE : Hid (we = wr.alloc (Obj.cells #[.string x0, .int .i64 x1, .int .i64 x2, .int .i64 x3, .int .i64 x4] 31)) := hwe
      obtain ⟨eb, heb⟩ : ∃ eb, eb = wr.heap.size := ⟨_, rfl⟩
      have HEB : Hid (eb = wr.heap.size) := heb
      have EC : Hid (∀ n, (we.drewN n).cell? ⟨eb, 0, none⟩ = some (.string x0) ∧ (we.drewN n).cell? ⟨eb, 1, none⟩ = some (.int .i64 x1) ∧ (we.drewN n).cell? ⟨eb, 2, none⟩ = some (.int .i64 x2) ∧ (we.drewN n).cell? ⟨eb, 3, none⟩ = some (.int .i64 x3) ∧ (we.drewN n).cell? ⟨eb, 4, none⟩ = some (.int .i64 x4)) := fun n => (by
        show we.cell? _ = _ ∧ we.cell? _ = _ ∧ we.cell? _ = _ ∧ we.cell? _ = _ ∧ we.cell? _ = _
        rw [hwe, heb]
        refine ⟨?_, ?_, ?_, ?_, ?_⟩ <;> simp [go_sem])
      clear hwe BE RR B BW heb
      go_upto_region 8 with fail
      rw [← HWE.out, ← HEB.out]
      clear q0 q1 q2 q3 q4 HC HA
      have NM0 : ((np : Int) == 0) = nm R.1 x0 0 := by
        rw [nm_zero, ← HNP.out]
        by_cases h0 : np = 0 <;> simp [h0]
      obtain ⟨b0, hb0⟩ : ∃ b0, b0 = nm R.1 x0 0 := ⟨_, rfl⟩
      rw [← hb0] at NM0
      have HB0 : Hid (b0 = nm R.1 x0 0) := hb0
      clear hb0
      have rr0 : we.cell? ⟨XB, 0, none⟩ = some (.slice pa np pc) := (RB.out _ (HBE.out 0)).1
      go_wp2_with fail
      clear rr0
      obtain ⟨wo, hwo⟩ : ∃ wo, wo = wr := ⟨_, rfl⟩
      subst hwo
      go_loopw [8, 9] (fun nb i ws => ∃ j n : Nat, j ≤ np ∧ i = .int .i64 j ∧ nb = .bool (nm R.1 x0 j) ∧ ws = we.drewN n) (fun _ i _ => np - (intOf i).toNat)
      case atStart => exact ⟨0, 0, Nat.zero_le _, rfl, by rw [← HB0.out], rfl⟩
      case round =>
        obtain ⟨j, n, hj, rfl, rfl, hw⟩ := hrel
        have HWN : Hid (wr = we.drewN n) := hw
        have rr := RB.out _ (HBE.out n)
        have ee := EC.out n
        rw [← hw] at rr ee
        obtain ⟨r0, r1, r2, r3⟩ := rr
        obtain ⟨e0, e1, e2, e3, e4⟩ := ee
        by_cases hjn : j < np
        · clear r1 r2 r3 e1 e2 e3 e4
          have j0 : (0 : Int) ≤ (j : Int) := by omega
          have j1 : (j : Int) < (np : Int) := by omega
          have NS : Hid (nm R.1 x0 (j + 1) = (nm R.1 x0 j || ((R.1.getD j ⟨#[]⟩).toList == x0.toList))) := nm_succ R.1 x0 j (by rw [← HNP.out]; exact hjn)
          have DN : Hid (∀ q, wr.drewN q = we.drewN (n + q)) := fun q => (by rw [HWN.out, World.drewN_drewN])
          cases hb : nm R.1 x0 j
          · obtain ⟨b', o', rfl, y⟩ := HP.out _ j (HBW.out n) hjn
            rw [← hw] at y
            obtain ⟨c, hc⟩ : ∃ c, c = ((R.1.getD j ⟨#[]⟩).toList == x0.toList) := ⟨_, rfl⟩
            have NB : Hid (nm R.1 x0 (j + 1) = c) := (by show _ = _; rw [NS.out, hb, ← hc]; rfl)
            generalize R.1.getD j ⟨#[]⟩ = pj at *
            have hc' := hc.symm
            clear hw hb hc NS
            go_wp2_with fail
            go_quiet (fail)
            go_wp2_with fail
            go_roundw
            case rel => exact ⟨j + 1, n + nq, by omega, by go_num, by rw [NB.out], DN.out _⟩
            case measure => simp [intOf]; omega
          · have NB : Hid (nm R.1 x0 (j + 1) = true) := (by show _ = _; rw [NS.out, hb]; rfl)
            clear hw hb NS
            go_wp2_with fail
            go_quiet (fail)
            go_wp2_with fail
            go_roundw
            case rel => exact ⟨j + 1, n + nq, by omega, by go_num, by rw [NB.out], DN.out _⟩
            case measure => simp [intOf]; omega
        · have ej : j = np := by omega
          subst ej
          have CN := CC.out n
          have RE1 := RE.out n
          have BE1 := HBE.out n
          rw [← hw] at CN RE1 BE1
          rw [HALL.out]
          obtain ⟨cc1, cc2, cc3⟩ := CN
          have C1 : Hid (Calls Try.prog 44 #[.slice ta nt tc, .int .i64 x1] wr fun e w2 => e = .returned (.bool p1) ∧ w2 = wr) := cc1
          have C2 : Hid (Calls Try.prog 44 #[.slice sa ns sc, .int .i64 x2] wr fun e w2 => e = .returned (.bool p2) ∧ w2 = wr) := cc2
          have C3 : Hid (Calls Try.prog 44 #[.slice la nl lc, .int .i64 x3] wr fun e w2 => e = .returned (.bool p3) ∧ w2 = wr) := cc3
          have REN : Hid (En.Row wr w0.heap.size u ((L.take k).filter (asks R))) := RE1
          have HBN : Hid (Below w0.heap.size w0 wr) := BE1
          have NO : Hid ((p0 && (p1 && (p2 && p3))) = false → En.Row wr w0.heap.size u ((L.take (k + 1)).filter (asks R))) := fun e => (by rw [NX.out, e]; simpa using REN.out)
          clear cc1 cc2 cc3 RE1 BE1 CC RE HBE HBW HALL HP hw HWN EC RB
          have jj : ¬ (j : Int) < (j : Int) := by omega
          cases p0
          · have RN := NO.out (by simp)
            clear NO
            have RN' : Hid (En.Row wr w0.heap.size u ((L.take (k + 1)).filter (asks R))) := RN
            clear RN
            go_wp2_with fail
            go_roundw
            case rel => exact ⟨k + 1, by omega, by go_num, RN', HBN⟩
            case measure => simp [intOf]; omega
          go_wp2_with fail
          refine C1.out.mono ?_
          rintro e w5 ⟨rfl, hw⟩
          subst hw
          cases p1
          · have RN := NO.out (by simp)
            clear NO
            have RN' : Hid (En.Row w5 w0.heap.size u ((L.take (k + 1)).filter (asks R))) := RN
            clear RN
            go_wp2_with fail
            go_roundw
            case rel => exact ⟨k + 1, by omega, by go_num, RN', HBN⟩
            case measure => simp [intOf]; omega
          go_wp2_with fail
          refine C2.out.mono ?_
          rintro e w5 ⟨rfl, hw⟩
          subst hw
          cases p2
          · have RN := NO.out (by simp)
            clear NO
            have RN' : Hid (En.Row w5 w0.heap.size u ((L.take (k + 1)).filter (asks R))) := RN
            clear RN
            go_wp2_with fail
            go_roundw
            case rel => exact ⟨k + 1, by omega, by go_num, RN', HBN⟩
            case measure => simp [intOf]; omega
          go_wp2_with fail
          refine C3.out.mono ?_
          rintro e w5 ⟨rfl, hw⟩
          subst hw
          cases p3
          · have RN := NO.out (by simp)
            clear NO
            have RN' : Hid (En.Row w5 w0.heap.size u ((L.take (k + 1)).filter (asks R))) := RN
            clear RN
            go_wp2_with fail
            go_roundw
            case rel => exact ⟨k + 1, by omega, by go_num, RN', HBN⟩
            case measure => simp [intOf]; omega
          have z5 : w0.heap.size ≤ w5.heap.size := HBN.out.size
          have RV : Hid (En.Reads (w5.alloc (Obj.cells #[.string x0, .int .i64 x1, .int .i64 x2, .int .i64 x3, .int .i64 x4] 31)) (.slice (some ⟨w5.heap.size, 0, none⟩) 1 1) [(x0, x1, x2, x3, x4)]) := reads_one w5.heap.size x0 x1 x2 x3 x4 (by simp) (by simp [go_sem]) (by simp [go_sem]) (by simp [go_sem]) (by simp [go_sem]) (by simp [go_sem])
          have RA : Hid (En.Row (w5.alloc (Obj.cells #[.string x0, .int .i64 x1, .int .i64 x2, .int .i64 x3, .int .i64 x4] 31)) w0.heap.size u ((L.take k).filter (asks R))) := REN.out.on ((Below.refl _ _).alloc (Nat.le_refl _) _)
          clear NO
          go_wp2_with (at_builtin; refine En.wp_app rfl _ _ rfl (w5.alloc (Obj.cells #[.string x0, .int .i64 x1, .int .i64 x2, .int .i64 x3, .int .i64 x4] 31)) w0.heap.size u ((L.take k).filter (asks R)) [(x0, x1, x2, x3, x4)] rfl RA.out (.slice (some ⟨w5.heap.size, 0, none⟩) 1 1) rfl RV.out LN.out (by simp; omega) ?_)
          intro v' w6 hown hgrow
          have R6 : Hid (En.Row w6 w0.heap.size v' ((L.take (k + 1)).filter (asks R))) := (by show En.Row _ _ _ _; rw [NX.out]; simpa using hown)
          have B6 : Hid (Below w0.heap.size w0 w6) := (HBN.out.alloc z5 _).grown hgrow (by simp; omega) (fun c hc => (RA.out.lt c hc).1)
          clear hown hgrow
          go_wp2_with fail
          go_roundw
          case rel => exact ⟨k + 1, by omega, by go_num, R6, B6⟩
          case measure => simp [intOf]; omega
    · have e : k = m := by omega
      have j1 : ¬ (k : Int) < (m : Int) := by omega
      have RE : Hid (En.Row wr w.heap.size u (pick L R)) := (by
        show En.Row _ _ _ _
        have h1 := RR.out
        rw [e, HM.out, List.take_length] at h1
        obtain ⟨xs, ho, hg⟩ := h1
        exact ⟨xs, ho.mono BB.out.size, hg⟩)
      have BW : Hid (Below w.heap.size w wr) := BB.out.trans (B.out.mono BB.out.size)
      obtain ⟨ua, uc, hu⟩ := RE.out.form
      subst hu
      go_wp2_with fail
      go_ret
      exact ⟨_, rfl, RE.out, BW.out⟩
end Go.Proofs.Ytniejbefkijenaa.Ix
