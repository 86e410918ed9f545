/- Pick, the program. -/
import Derived.Test.YtniejbefkijenaaRq
import Derived.Test.YtniejbefkijenaaSs
import Derived.Deep.Onto
import Derived.Deep.CutBlock
import Derived.Deep.DeepCutAuto
namespace Go.Proofs.Ytniejbefkijenaa.Ix
open Go.ChangeShapes Go.WideShapes Go.ChangeAt Go.RowKit
open Al Eo Ky
def asks (R : Rq) (e : En1) : Bool := askS R.1 e.1 && (askI R.2.1 e.2.1 && (askI R.2.2.1 e.2.2.1 && askI R.2.2.2 e.2.2.2.1))
def pick (L : En.Ls) (R : Rq) : En.Ls := L.filter (asks R)

set_option maxRecDepth 20000 in
set_option maxHeartbeats 2000000 in
theorem ipick_any (L : En.Ls) (v : Value) (R : Rq) (vP vT vS vL : Value) (w : World) (h : En.Reads w v L) (hf : Ft L) (hr : RqR w vP vT vS vL R) (l3 : R.1.length ≤ 2000000 ∧ R.2.1.length ≤ 2000000 ∧ R.2.2.1.length ≤ 2000000 ∧ R.2.2.2.length ≤ 2000000) :
    Calls Try.prog 23 #[v, .agg #[vP, vT, vS, vL]] w fun e w' => ∃ u0, e = .returned u0 ∧ En.Row w' w.heap.size u0 (if okA L && okR R then pick L R else []) ∧ Below w.heap.size w w' := by
  have HB : Below w.heap.size w (w.alloc (Obj.cells #[vP, vT, vS, vL] 47)) := (Below.refl _ _).alloc (Nat.le_refl _) _
  obtain ⟨w0, hw0⟩ : ∃ w0, w0 = w.alloc (Obj.cells #[vP, vT, vS, vL] 47) := ⟨_, rfl⟩
  rw [← hw0] at HB
  have BB : Hid (Below w.heap.size w w0) := HB
  have HR : Hid (∀ w', Below w.heap.size w w' → RqR w' vP vT vS vL R) := fun w' hb => hr.on hb
  obtain ⟨qa, hqa⟩ : ∃ q, q = okA L := ⟨_, rfl⟩
  obtain ⟨qr, hqr⟩ : ∃ q, q = okR R := ⟨_, rfl⟩
  have HQ : Hid (qa = okA L ∧ qr = okR R) := ⟨hqa, hqr⟩
  have CA : Hid (Calls Try.prog 29 #[v] w0 fun e w' => e = .returned (.bool qa) ∧ Below w0.heap.size w0 w') := hqa ▸ iarch_any w0 v L (h.on HB) hf
  have CR : Hid (∀ w', Below w.heap.size w w' → Calls Try.prog 47 #[.agg #[vP, vT, vS, vL]] w' fun e w2 => e = .returned (.bool qr) ∧ Below w'.heap.size w' w2) := fun w' hb => hqr ▸ requestOk_any R vP vT vS vL w' (hr.on hb)
  have HA : Hid (∀ (w' : World) (x : En1), Below w.heap.size w w' → (Calls Try.prog 48 #[vP, .string x.1] w' fun e w2 => e = .returned (.bool (askS R.1 x.1)) ∧ w2 = w') ∧ (Calls Try.prog 49 #[vT, .int .i64 x.2.1] w' fun e w2 => e = .returned (.bool (askI R.2.1 x.2.1)) ∧ w2 = w') ∧ (Calls Try.prog 49 #[vS, .int .i64 x.2.2.1] w' fun e w2 => e = .returned (.bool (askI R.2.2.1 x.2.2.1)) ∧ w2 = w') ∧ (Calls Try.prog 49 #[vL, .int .i64 x.2.2.2.1] w' fun e w2 => e = .returned (.bool (askI R.2.2.2 x.2.2.2.1)) ∧ w2 = w')) := fun w' x hb =>
    ⟨askS_any _ _ _ _ (hr.on hb).p l3.1, askI_any _ _ _ _ (hr.on hb).t l3.2.1, askI_any _ _ _ _ (hr.on hb).s l3.2.2.1, askI_any _ _ _ _ (hr.on hb).l l3.2.2.2⟩
  have ln := h.fits
  obtain ⟨a, cap, rfl⟩ := h.form
  have HC : Hid (∀ (w' : World) (i : Nat), Below w.heap.size w w' → i < L.length → ∃ b o, a = some ⟨b, o, none⟩ ∧ b < w.heap.size ∧ En.Cs w' b o L i) := fun w' i hb hi => (by
      rcases h with ⟨rfl, _⟩ | ⟨b, o, c, e, _, _, x, y⟩
      · simp at hi
      · simp at e; exact ⟨b, o, e.1, x, (y i hi).below hb x⟩)
  obtain ⟨pa, pc, hp⟩ := hr.p.form
  obtain ⟨ta, tc, ht⟩ := hr.t.form
  obtain ⟨sa, sc, hs⟩ := hr.s.form
  obtain ⟨la, lc, hl⟩ := hr.l.form
  generalize R.1.length = np at *
  generalize R.2.1.length = nt at *
  generalize R.2.2.1.length = ns at *
  generalize R.2.2.2.length = nl at *
  subst hp ht hs hl
  have RB : Hid (∀ w', Below w0.heap.size w0 w' → w'.cell? ⟨w.heap.size, 0, none⟩ = some (.slice pa np pc) ∧ w'.cell? ⟨w.heap.size, 1, none⟩ = some (.slice ta nt tc) ∧ w'.cell? ⟨w.heap.size, 2, none⟩ = some (.slice sa ns sc) ∧ w'.cell? ⟨w.heap.size, 3, none⟩ = some (.slice la nl lc)) := fun w' hb => (by
    have hz : w.heap.size < w0.heap.size := by rw [hw0]; simp
    refine ⟨?_, ?_, ?_, ?_⟩
    · rw [hb.cell (p := ⟨w.heap.size, 0, none⟩) hz, hw0]; simp [go_sem]
    · rw [hb.cell (p := ⟨w.heap.size, 1, none⟩) hz, hw0]; simp [go_sem]
    · rw [hb.cell (p := ⟨w.heap.size, 2, none⟩) hz, hw0]; simp [go_sem]
    · rw [hb.cell (p := ⟨w.heap.size, 3, none⟩) hz, hw0]; simp [go_sem])
  have HW : Hid (w0 = w.alloc (Obj.cells #[.slice pa np pc, .slice ta nt tc, .slice sa ns sc, .slice la nl lc] 47)) := hw0
  obtain ⟨m, hm⟩ : ∃ m, m = L.length := ⟨_, rfl⟩
  have HM : Hid (m = L.length) := hm
  rw [← hqa, ← hqr]
  rw [← hm] at ln HC CA ⊢
  have m300 : Hid (qa = true → m ≤ 300) := fun e => (by rw [HM.out]; exact okA_len (by rw [← HQ.out.1]; exact e))
  clear h hf hr l3 hqa hqr HB hw0 hm HQ HR
  go_enter Try.func23, Try.ntmps23
  go_wp2_with fail
  rw [← HW.out]
  refine CA.out.mono ?_
  rintro e w1 ⟨rfl, b1⟩
  have B1 : Hid (Below w0.heap.size w0 w1) := b1
  have BW1 : Hid (Below w.heap.size w w1) := BB.out.trans (b1.mono BB.out.size)
  clear b1 CA
  cases qa
  · go_wp2_with fail
    go_ret
    exact ⟨_, rfl, nil_rowE _ _, BW1.out⟩
  obtain ⟨r0, r1, r2, r3⟩ := RB.out w1 B1.out
  go_wp2_with fail
  refine (CR.out w1 BW1.out).mono ?_
  rintro e w2 ⟨rfl, b2⟩
  have B2 : Hid (Below w0.heap.size w0 w2) := B1.out.trans (b2.mono B1.out.size)
  have BW2 : Hid (Below w.heap.size w w2) := BW1.out.trans (b2.mono BW1.out.size)
  clear b2 CR r0 r1 r2 r3
  cases qr
  · go_wp2_with fail
    go_ret
    exact ⟨_, rfl, nil_rowE _ _, BW2.out⟩
  have m3 := m300.out (by trivial)
  have R0 : Hid (En.Row w2 w0.heap.size (.slice none 0 0) ((L.take 0).filter (asks R))) := nil_rowE _ _
  clear m300
  go_wp2_with fail
  go_loopw [5, 18] (fun u i wr => ∃ k : Nat, k ≤ m ∧ i = .int .i64 k ∧ Hid (En.Row wr w0.heap.size u ((L.take k).filter (asks R))) ∧ Hid (Below w0.heap.size w0 wr)) (fun _ i _ => m - (intOf i).toNat)
  case atStart => exact ⟨0, Nat.zero_le _, rfl, R0, B2⟩
  case round =>
    clear R0
    obtain ⟨k, hk, rfl, RR, B⟩ := hrel
    obtain ⟨u, hu⟩ : ∃ u, u = u5 := ⟨_, rfl⟩
    subst hu
    by_cases hlt : k < m
    · have i0 : (0 : Int) ≤ (k : Int) := by omega
      have i1 : (k : Int) < (m : Int) := by omega
      have BW : Hid (Below w.heap.size w wr) := BB.out.trans (B.out.mono BB.out.size)
      obtain ⟨b, o, rfl, hbw, q0, q1, q2, q3, q4⟩ := HC.out wr k BW.out hlt
      have NX0 : (L.take (k + 1)).filter (asks R) = (L.take k).filter (asks R) ++ (if asks R (en L k) then [en L k] else []) := take_filter_succ (asks R) L k (by rw [← HM.out]; exact hlt)
      have WW : asks R (en L k) = (askS R.1 (En.c0 L k) && (askI R.2.1 (En.c1 L k) && (askI R.2.2.1 (En.c2 L k) && askI R.2.2.2 (En.c3 L k)))) := rfl
      have HE : en L k = (En.c0 L k, En.c1 L k, En.c2 L k, En.c3 L k, En.c4 L k) := rfl
      have LN : Hid (((L.take k).filter (asks R)).length + 1 ≤ 1000) := (by
        have h1 := List.length_filter_le (asks R) (L.take k)
        have h2 := List.length_take_le k L
        show _ ≤ _
        omega)
      have NX : Hid ((L.take (k + 1)).filter (asks R) = (L.take k).filter (asks R) ++ (if (askS R.1 (En.c0 L k) && (askI R.2.1 (En.c1 L k) && (askI R.2.2.1 (En.c2 L k) && askI R.2.2.2 (En.c3 L k)))) then [(En.c0 L k, En.c1 L k, En.c2 L k, En.c3 L k, En.c4 L k)] else [])) := (by rw [WW, HE] at NX0; exact NX0)
      clear NX0 WW HE
      obtain ⟨we, hwe⟩ : ∃ we, we = wr.alloc (Obj.cells #[.string (En.c0 L k), .int .i64 (En.c1 L k), .int .i64 (En.c2 L k), .int .i64 (En.c3 L k), .int .i64 (En.c4 L k)] 31) := ⟨_, rfl⟩
      have BE : Below w0.heap.size w0 we := by rw [hwe]; exact B.out.alloc B.out.size _
      have RE : Hid (En.Row we w0.heap.size u ((L.take k).filter (asks R))) := (by show En.Row _ _ _ _; rw [hwe]; exact RR.out.on ((Below.refl _ _).alloc (Nat.le_refl _) _))
      have HBE : Hid (Below w0.heap.size w0 we) := BE
      have CC := HA.out we (En.c0 L k, En.c1 L k, En.c2 L k, En.c3 L k, En.c4 L k) (BB.out.trans (BE.mono BB.out.size))
      obtain ⟨r0, r1, r2, r3⟩ := RB.out we BE
      generalize En.c0 L k = x0 at *
      generalize En.c1 L k = x1 at *
      generalize En.c2 L k = x2 at *
      generalize En.c3 L k = x3 at *
      generalize En.c4 L k = x4 at *
      simp only at CC
      obtain ⟨c0, c1, c2, c3⟩ := CC
      generalize askS R.1 x0 = p0 at *
      generalize askI R.2.1 x1 = p1 at *
      generalize askI R.2.2.1 x2 = p2 at *
      generalize askI R.2.2.2 x3 = p3 at *
      have C0 : Hid (Calls Try.prog 48 #[.slice pa np pc, .string x0] we fun e w2 => e = .returned (.bool p0) ∧ w2 = we) := c0
      have C1 : Hid (Calls Try.prog 49 #[.slice ta nt tc, .int .i64 x1] we fun e w2 => e = .returned (.bool p1) ∧ w2 = we) := c1
      have C2 : Hid (Calls Try.prog 49 #[.slice sa ns sc, .int .i64 x2] we fun e w2 => e = .returned (.bool p2) ∧ w2 = we) := c2
      have C3 : Hid (Calls Try.prog 49 #[.slice la nl lc, .int .i64 x3] we fun e w2 => e = .returned (.bool p3) ∧ w2 = we) := c3
      have HWE : Hid (we = wr.alloc (Obj.cells #[.string x0, .int .i64 x1, .int .i64 x2, .int .i64 x3, .int .i64 x4] 31)) := hwe
      have e0 : we.cell? ⟨wr.heap.size, 0, none⟩ = some (.string x0) := by rw [hwe]; simp [go_sem]
      have e1 : we.cell? ⟨wr.heap.size, 1, none⟩ = some (.int .i64 x1) := by rw [hwe]; simp [go_sem]
      have e2 : we.cell? ⟨wr.heap.size, 2, none⟩ = some (.int .i64 x2) := by rw [hwe]; simp [go_sem]
      have e3 : we.cell? ⟨wr.heap.size, 3, none⟩ = some (.int .i64 x3) := by rw [hwe]; simp [go_sem]
      have e4 : we.cell? ⟨wr.heap.size, 4, none⟩ = some (.int .i64 x4) := by rw [hwe]; simp [go_sem]
      clear c0 c1 c2 c3 hwe BE RR B BW
      have NO : Hid ((p0 && (p1 && (p2 && p3))) = false → En.Row we w0.heap.size u ((L.take (k + 1)).filter (asks R))) := fun e => (by rw [NX.out, e]; simpa using RE.out)
      go_upto_region 7 with fail
      rw [← HWE.out]
      go_wp2_with fail
      refine C0.out.mono ?_
      rintro e w5 ⟨rfl, hw⟩
      subst hw
      cases p0
      · have RN := NO.out (by simp)
        clear NO
        have RN' : Hid (En.Row w5 w0.heap.size u ((L.take (k + 1)).filter (asks R))) := RN
        clear RN
        go_wp2_with fail
        go_roundw
        case rel => exact ⟨k + 1, by omega, by go_num, RN', HBE⟩
        case measure => simp [intOf]; omega
      go_wp2_with fail
      refine C1.out.mono ?_
      rintro e w5 ⟨rfl, hw⟩
      subst hw
      cases p1
      · have RN := NO.out (by simp)
        clear NO
        have RN' : Hid (En.Row w5 w0.heap.size u ((L.take (k + 1)).filter (asks R))) := RN
        clear RN
        go_wp2_with fail
        go_roundw
        case rel => exact ⟨k + 1, by omega, by go_num, RN', HBE⟩
        case measure => simp [intOf]; omega
      go_wp2_with fail
      refine C2.out.mono ?_
      rintro e w5 ⟨rfl, hw⟩
      subst hw
      cases p2
      · have RN := NO.out (by simp)
        clear NO
        have RN' : Hid (En.Row w5 w0.heap.size u ((L.take (k + 1)).filter (asks R))) := RN
        clear RN
        go_wp2_with fail
        go_roundw
        case rel => exact ⟨k + 1, by omega, by go_num, RN', HBE⟩
        case measure => simp [intOf]; omega
      go_wp2_with fail
      refine C3.out.mono ?_
      rintro e w5 ⟨rfl, hw⟩
      subst hw
      cases p3
      · have RN := NO.out (by simp)
        clear NO
        have RN' : Hid (En.Row w5 w0.heap.size u ((L.take (k + 1)).filter (asks R))) := RN
        clear RN
        go_wp2_with fail
        go_roundw
        case rel => exact ⟨k + 1, by omega, by go_num, RN', HBE⟩
        case measure => simp [intOf]; omega
      have z5 : w0.heap.size ≤ w5.heap.size := HBE.out.size
      have RV : Hid (En.Reads (w5.alloc (Obj.cells #[.string x0, .int .i64 x1, .int .i64 x2, .int .i64 x3, .int .i64 x4] 31)) (.slice (some ⟨w5.heap.size, 0, none⟩) 1 1) [(x0, x1, x2, x3, x4)]) := reads_one w5.heap.size x0 x1 x2 x3 x4 (by simp) (by simp [go_sem]) (by simp [go_sem]) (by simp [go_sem]) (by simp [go_sem]) (by simp [go_sem])
      have RA : Hid (En.Row (w5.alloc (Obj.cells #[.string x0, .int .i64 x1, .int .i64 x2, .int .i64 x3, .int .i64 x4] 31)) w0.heap.size u ((L.take k).filter (asks R))) := RE.out.on ((Below.refl _ _).alloc (Nat.le_refl _) _)
      clear NO
      go_wp2_with (at_builtin; refine En.wp_app rfl _ _ rfl (w5.alloc (Obj.cells #[.string x0, .int .i64 x1, .int .i64 x2, .int .i64 x3, .int .i64 x4] 31)) w0.heap.size u ((L.take k).filter (asks R)) [(x0, x1, x2, x3, x4)] rfl RA.out (.slice (some ⟨w5.heap.size, 0, none⟩) 1 1) rfl RV.out LN.out (by simp; omega) ?_)
      intro v' w6 hown hgrow
      have R6 : Hid (En.Row w6 w0.heap.size v' ((L.take (k + 1)).filter (asks R))) := (by show En.Row _ _ _ _; rw [NX.out]; simpa using hown)
      have B6 : Hid (Below w0.heap.size w0 w6) := (HBE.out.alloc z5 _).grown hgrow (by simp; omega) (fun c hc => (RA.out.lt c hc).1)
      clear hown hgrow
      go_wp2_with fail
      go_roundw
      case rel => exact ⟨k + 1, by omega, by go_num, R6, B6⟩
      case measure => simp [intOf]; omega
    · have e : k = m := by omega
      have j1 : ¬ (k : Int) < (m : Int) := by omega
      have RE : Hid (En.Row wr w.heap.size u (pick L R)) := (by
        show En.Row _ _ _ _
        have h1 := RR.out
        rw [e, HM.out, List.take_length] at h1
        obtain ⟨xs, ho, hg⟩ := h1
        exact ⟨xs, ho.mono BB.out.size, hg⟩)
      have BW : Hid (Below w.heap.size w wr) := BB.out.trans (B.out.mono BB.out.size)
      obtain ⟨ua, uc, hu⟩ := RE.out.form
      subst hu
      go_wp2_with fail
      go_ret
      exact ⟨_, rfl, RE.out, BW.out⟩
end Go.Proofs.Ytniejbefkijenaa.Ix
