/- WorstSight: the model. -/
import Derived.Test.YtmbhlmpdkkjedaaWw
import Derived.Test.YtmbhlmpdkkjedaaSc
import Derived.Deep.RegionWith
import Derived.Deep.RegionHeld3
import Derived.Deep.DrawnRows
import Derived.Deep.DeepMust
namespace Go.Proofs.Ytmbhlmpdkkjedaa.To
open Go.ChangeShapes Go.WideShapes Go.ChangeAt Go.RowKit
open Go.Proofs.Ytmbhlmpdkkjedaa.Al

theorem sb_newd {W w' : World} (hb : Below (W.alloc (.cells #[.int .i64 0, .int .i64 0, .int .i64 0, .string Sk.E, .string Sk.E, .int .i64 0] 32)).drew.heap.size (W.alloc (.cells #[.int .i64 0, .int .i64 0, .int .i64 0, .string Sk.E, .string Sk.E, .int .i64 0] 32)).drew w') : Sk.SB w' W.heap.size 0 0 0 Sk.E Sk.E 0 := (Sk.SB.new W 0 0 0 Sk.E Sk.E 0).on ⟨hb.os, hb.tape, hb.output, hb.size, hb.block⟩ (by simp)

set_option maxRecDepth 20000 in
set_option maxHeartbeats 4000000 in
theorem sworst_any (C : ByteArray) (I f t d p v : Int) (W O : ByteArray) (b : Int) (u : Value) (L : Ch.Ls) (w : World) (hL : Ch.Reads w u L) (hl : L.length ≤ 1048576) :
    Calls Try.prog 24 #[Tf.tv C I f t d p v W O b u] w fun e w' => e = .returned (.int .i64 (wst C I f t d p v W O b L)) ∧ Below w.heap.size w w' := by
  have C1 : Hid (∀ w', Below w.heap.size w w' → Calls Try.prog 8 #[Tf.tv C I f t d p v W O b u] w' fun e w'' => e = .returned (.bool (tok C I f t d p v W O b L)) ∧ Below w'.heap.size w' w'') := fun w' hb => staf_any C I f t d p v W O b u L w' (hL.on hb)
  have C2 : Hid (∀ w', Below w.heap.size w w' → Calls Try.prog 19 #[Tf.tv C I f t d p v W O b u] w' fun e w'' => ∃ v', e = .returned v' ∧ Pn.Row w'' w'.heap.size v' (pts C I f t d p v W O b L) ∧ Below w'.heap.size w' w'') := fun w' hb => sparts_any C I f t d p v W O b u L w' (hL.on hb)
  have C3 : Hid (tok C I f t d p v W O b L = true → ∀ k, k < (pts C I f t d p v W O b L).length → ∀ w', Below w.heap.size w w' → Calls Try.prog 12 #[Tf.tv C I f t d p v W O b u, .int .i64 (Pn.c0 (pts C I f t d p v W O b L) k)] w' fun e w'' => ∃ v', e = .returned (.tuple #[Sk.sv (tA (d, p, v, W, O, b) L (Pn.c0 (pts C I f t d p v W O b L) k)), v', .bool true]) ∧ Sy.Reads w'' v' (tM (d, p, v, W, O, b) L (Pn.c0 (pts C I f t d p v W O b L) k)) ∧ (0 < (tM (d, p, v, W, O, b) L (Pn.c0 (pts C I f t d p v W O b L) k)).length → ∀ g, v'.ownBlock = some g → w'.heap.size ≤ g) ∧ Below w'.heap.size w' w'') := fun ht k hk w' hb => by
    have h := sstate2_any C I f t d p v W O b u L (Pn.c0 (pts C I f t d p v W O b L) k) w' (hL.on hb) hl
    obtain ⟨g1, g2⟩ := pts_in ht k hk
    have e0 : sok C I f t d p v W O b L (Pn.c0 (pts C I f t d p v W O b L) k) = true := by unfold sok; rw [ht, decide_eq_true g1, decide_eq_true g2]; rfl
    have e1 : sA C I f t d p v W O b L (Pn.c0 (pts C I f t d p v W O b L) k) = tA (d, p, v, W, O, b) L (Pn.c0 (pts C I f t d p v W O b L) k) := by unfold sA; rw [if_pos e0]; rfl
    have e2 : sM C I f t d p v W O b L (Pn.c0 (pts C I f t d p v W O b L) k) = tM (d, p, v, W, O, b) L (Pn.c0 (pts C I f t d p v W O b L) k) := by unfold sM; rw [if_pos e0]; rfl
    rw [e0, e1, e2] at h
    exact h
  have HT : Hid (tok C I f t d p v W O b L = false → wst C I f t d p v W O b L = -1) := fun h => by unfold wst; rw [h]; rfl
  have HS : Hid (tok C I f t d p v W O b L = true → wst C I f t d p v W O b L = wsq (d, p, v, W, O, b) L (pts C I f t d p v W O b L) (pts C I f t d p v W O b L).length) := fun h => by unfold wst; rw [if_pos h]
  have HM : Hid (∀ x, (tM (d, p, v, W, O, b) L x).length ≤ 1048576) := fun x => Nat.le_trans (tM_len _ L x) hl
  generalize wst C I f t d p v W O b L = ans at *
  generalize tok C I f t d p v W O b L = b1 at *
  generalize pts C I f t d p v W O b L = P at *
  have HQ : Hid (∀ k, wsq (d, p, v, W, O, b) L P (k + 1) = mins (min (wsq (d, p, v, W, O, b) L P k) (tA (d, p, v, W, O, b) L (Pn.c0 P k)).2.2.1) (tM (d, p, v, W, O, b) L (Pn.c0 P k)) (tM (d, p, v, W, O, b) L (Pn.c0 P k)).length) := fun k => rfl
  have HQ0 : Hid (wsq (d, p, v, W, O, b) L P 0 = 9999) := rfl
  generalize hsk : (d, p, v, W, O, b) = S at *
  clear hsk
  generalize wsq S L P = wq at *
  obtain ⟨sa, sc, hu⟩ := hL.form
  subst hu
  obtain ⟨n, hn⟩ : ∃ n, n = L.length := ⟨_, rfl⟩
  rw [← hn] at C1 C2 C3 ⊢
  clear hn hL hl
  obtain ⟨wb, hwb⟩ : ∃ wb, wb = w.alloc (.cells #[.string C, .int .i64 I, .int .i64 f, .int .i64 t, .int .i64 d, .int .i64 p, .int .i64 v, .string W, .string O, .int .i64 b, (.slice sa n sc)] 35) := ⟨_, rfl⟩
  have HW : Hid (wb = w.alloc (.cells #[.string C, .int .i64 I, .int .i64 f, .int .i64 t, .int .i64 d, .int .i64 p, .int .i64 v, .string W, .string O, .int .i64 b, (.slice sa n sc)] 35)) := hwb
  have BW : Hid (Below w.heap.size w wb) := (by show Below _ _ _; rw [hwb]; exact (Below.refl _ _).alloc (Nat.le_refl _) _)
  have KT : Hid (Tf.TB wb w.heap.size C I f t d p v W O b (.slice sa n sc)) := (by show Tf.TB _ _ _ _ _ _ _ _ _ _ _ _ _; rw [hwb]; exact Tf.TB.new w C I f t d p v W O b (.slice sa n sc))
  clear hwb
  obtain ⟨c0, c1, c2, c3, c4, c5, c6, c7, c8, c9, c10, _⟩ := KT.out.cells
  go_enter Try.func24, Try.ntmps24
  go_wp2_with fail
  rw [← HW.out]
  refine (C1.out _ BW.out).mono ?_
  rintro e w1 ⟨rfl, hb⟩
  have T1 : Hid (Tf.TB w1 w.heap.size C I f t d p v W O b (.slice sa n sc)) := KT.out.on hb KT.out.lt
  have B1 : Hid (Below w.heap.size w w1) := BW.out.trans (hb.mono BW.out.size)
  clear c0 c1 c2 c3 c4 c5 c6 c7 c8 c9 c10 hb HW
  obtain ⟨c0, c1, c2, c3, c4, c5, c6, c7, c8, c9, c10, _⟩ := T1.out.cells
  cases b1
  · go_wp2_with fail
    go_ret
    exact ⟨by rw [HT.out (by first | trivial | rfl)]; rfl, B1.out⟩
  have HA : Hid (ans = wq P.length) := HS.out (by first | trivial | rfl)
  have HX0 : Hid (∀ k, k < P.length → ∀ w', Below w.heap.size w w' → Calls Try.prog 12 #[Tf.tv C I f t d p v W O b (.slice sa n sc), .int .i64 (Pn.c0 P k)] w' fun e w'' => ∃ v', e = .returned (.tuple #[Sk.sv (tA S L (Pn.c0 P k)), v', .bool true]) ∧ Sy.Reads w'' v' (tM S L (Pn.c0 P k)) ∧ (0 < (tM S L (Pn.c0 P k)).length → ∀ g, v'.ownBlock = some g → w'.heap.size ≤ g) ∧ Below w'.heap.size w' w'') := C3.out (by first | trivial | rfl)
  clear HT HS C3
  go_wp2_with fail
  refine (C2.out _ B1.out).mono ?_
  rintro e w2 ⟨vp, rfl, rp, hb⟩
  have T2 : Hid (Tf.TB w2 w.heap.size C I f t d p v W O b (.slice sa n sc)) := T1.out.on hb T1.out.lt
  have B2 : Hid (Below w.heap.size w w2) := B1.out.trans (hb.mono B1.out.size)
  obtain ⟨bp, op, hcp, hvp⟩ := reads_pn rp.reads
  have pf := rp.reads.fits
  obtain ⟨sp, cp, ep⟩ := rp.reads.form
  subst ep
  have HCP : Hid (∀ w', Below w2.heap.size w2 w' → ∀ i, i < P.length → Pn.Cs w' bp op P i) := hcp
  have HVP : Hid (0 < P.length → bp < w2.heap.size ∧ sp = some ⟨bp, op, none⟩) := fun hi => by
    obtain ⟨h1, c, h2⟩ := hvp hi
    simp at h2
    exact ⟨h1, h2.1⟩
  obtain ⟨np, hnp⟩ : ∃ np, np = P.length := ⟨_, rfl⟩
  rw [← hnp] at pf HCP HVP HA HX0 ⊢
  clear c0 c1 c2 c3 c4 c5 c6 c7 c8 c9 c10 hb rp hcp hvp hnp
  go_wp2_with fail
  go_loopw [3, 5] (fun s i wr => ∃ k : Nat, k ≤ np ∧ i = .int .i64 k ∧ s = .int .i64 (wq k) ∧ Hid (Below w2.heap.size w2 wr)) (fun _ i _ => np - (intOf i).toNat)
  case atStart => exact ⟨0, Nat.zero_le _, rfl, by rw [HQ0.out], Below.refl _ _⟩
  case round =>
    obtain ⟨wo, hwo⟩ : ∃ x : World, x = wr := ⟨_, rfl⟩
    subst hwo
    obtain ⟨k, hk, rfl, rfl, BB⟩ := hrel
    by_cases hlt : k < np
    · have TR : Hid (Tf.TB wo w.heap.size C I f t d p v W O b (.slice sa n sc)) := T2.out.on BB.out T2.out.lt
      have BR : Hid (Below w.heap.size w wo) := B2.out.trans (BB.out.mono B2.out.size)
      obtain ⟨hbp, hx⟩ := HVP.out (by omega)
      subst hx
      have QC : Hid (∀ w', Below wo.heap.size wo w' → Pn.Cs w' bp op P k) := fun w' hb => HCP.out w' (BB.out.trans (hb.mono BB.out.size)) k hlt
      obtain ⟨q0, q1⟩ := QC.out wo (Below.refl _ _)
      have i1 : (0 : Int) ≤ (k : Int) := by omega
      have i2 : (k : Int) < (np : Int) := by omega
      have HX : Hid (∀ w', Below w.heap.size w w' → Calls Try.prog 12 #[Tf.tv C I f t d p v W O b (.slice sa n sc), .int .i64 (Pn.c0 P k)] w' fun e w'' => ∃ v', e = .returned (.tuple #[Sk.sv (tA S L (Pn.c0 P k)), v', .bool true]) ∧ Sy.Reads w'' v' (tM S L (Pn.c0 P k)) ∧ (0 < (tM S L (Pn.c0 P k)).length → ∀ g, v'.ownBlock = some g → w'.heap.size ≤ g) ∧ Below w'.heap.size w' w'') := HX0.out k hlt
      have HK : Hid (wq (k + 1) = mins (min (wq k) (tA S L (Pn.c0 P k)).2.2.1) (tM S L (Pn.c0 P k)) (tM S L (Pn.c0 P k)).length) := HQ.out k
      have HZ : Hid ((tM S L (Pn.c0 P k)).length ≤ 1048576) := HM.out _
      have QX : Hid (∀ w', Below wo.heap.size wo w' → w'.cell? ⟨bp, op + k * 2, none⟩ = some (.int .i64 (Pn.c0 P k))) := fun w' hb => (QC.out w' hb).1
      clear QC
      generalize tM S L (Pn.c0 P k) = M at *
      generalize tA S L (Pn.c0 P k) = A at *
      generalize Pn.c0 P k = x at *
      generalize Pn.c1 P k = x' at *
      obtain ⟨a0, a1, a2, a3, a4, a5⟩ := A
      dsimp only [Sk.sv] at HX HK
      generalize hq : wq k = q at *
      clear hq q1
      obtain ⟨c0, c1, c2, c3, c4, c5, c6, c7, c8, c9, c10, _⟩ := TR.out.cells
      have zq : w.heap.size < wo.heap.size := TR.out.lt
      have nq : ¬ w.heap.size = wo.heap.size := by omega
      have nq2 : ¬ wo.heap.size = w.heap.size := by omega
      have bq : bp < wo.heap.size := Nat.lt_of_lt_of_le hbp BB.out.size
      have nb : ¬ bp = wo.heap.size := by omega
      have nb2 : ¬ wo.heap.size = bp := by omega
      go_upto_region 8 with fail
      go_cut [6, 7] (fun qq mm wx => ∃ (g : Nat) (vm : Value), qq = .pointer (some ⟨g, 0, none⟩) ∧ mm = vm ∧ Hid (Sk.SB wx g a0 a1 a2 a3 a4 a5) ∧ Hid (Sy.Reads wx vm M) ∧ Hid (Below wo.heap.size wo wx))
      case first =>
        go_region_held3 (fun w' => w'.cell? ⟨w.heap.size, 0, none⟩ = some (.string C) ∧ w'.cell? ⟨w.heap.size, 1, none⟩ = some (.int .i64 I) ∧ w'.cell? ⟨w.heap.size, 2, none⟩ = some (.int .i64 f) ∧ w'.cell? ⟨w.heap.size, 3, none⟩ = some (.int .i64 t) ∧ w'.cell? ⟨w.heap.size, 4, none⟩ = some (.int .i64 d) ∧ w'.cell? ⟨w.heap.size, 5, none⟩ = some (.int .i64 p) ∧ w'.cell? ⟨w.heap.size, 6, none⟩ = some (.int .i64 v) ∧ w'.cell? ⟨w.heap.size, 7, none⟩ = some (.string W) ∧ w'.cell? ⟨w.heap.size, 8, none⟩ = some (.string O) ∧ w'.cell? ⟨w.heap.size, 9, none⟩ = some (.int .i64 b) ∧ w'.cell? ⟨w.heap.size, 10, none⟩ = some (.slice sa n sc) ∧ w'.cell? ⟨bp, op + k * 2, none⟩ = some (.int .i64 x)) (go_keep)
          ((go_at_call 12; refine (HX.out _ (by first | exact BR.out.drew | exact (BR.out.alloc BR.out.size _).drew)).mono ?_; rintro e w1_ ⟨vm, rfl, rm, rl, hb1⟩; have P1 : Below wo.heap.size wo w1_ := (by first | exact (Below.refl _ _).drew.trans (hb1.mono (by simp)) | exact ((Below.refl _ _).alloc (Nat.le_refl _) _).drew.trans (hb1.mono (by simp))); have TT1 := TR.out.on P1 TR.out.lt; obtain ⟨f0, f1, f2, f3, f4, f5, f6, f7, f8, f9, f10, _⟩ := TT1.cells; have y0 := QX.out w1_ P1; have Z1 := P1.size; have za1 : w.heap.size < w1_.heap.size := (by omega); have na1 : ¬ w.heap.size = w1_.heap.size := (by omega); have nc1 : ¬ w1_.heap.size = w.heap.size := (by omega); have zb1 : bp < w1_.heap.size := (by omega); have nb1 : ¬ bp = w1_.heap.size := (by omega); have nd1 : ¬ w1_.heap.size = bp := (by omega); (try (have tt := sb_newd hb1; have s10 := tt; obtain ⟨r0, r1, r2, r3, r4, r5, r6⟩ := s10.cells; have h0 := r6 0; have h1 := r6 1; have h2 := r6 2; have h3 := r6 3; have h4 := r6 4; have h5 := r6 5; clear r6))))
        all_goals
          have y1 := P1.size
          go_wp2_with fail
          go_meet
        · exact ⟨_, _, rfl, rfl, Sk.SB.new _ _ _ _ _ _ _, rm.on ((Below.refl _ _).alloc (Nat.le_refl _) _), P1.alloc y1 _⟩
        · exact ⟨_, _, rfl, rfl, s10.all _ _ _ _ _ _, sy_off rm (fun hp g hg => by have := rl hp g hg; simp at this; omega) _ _ _ _ _ _, Sk.below_all P1 (Nat.le_refl _) _ _ _ _ _ _⟩
      case rest =>
        obtain ⟨w5, hw5⟩ : ∃ y : World, y = wc := ⟨_, rfl⟩
        subst hw5
        obtain ⟨g5, vm, rfl, rfl, S5, RM, B5⟩ := hcut
        have BB6 : Hid (Below w2.heap.size w2 w5) := BB.out.trans (B5.out.mono BB.out.size)
        clear c0 c1 c2 c3 c4 c5 c6 c7 c8 c9 c10 q0 zq nq nq2 bq nb nb2 HX
        obtain ⟨bm, om, hcm, hvm⟩ := reads_sy RM.out
        obtain ⟨sm, cm, em⟩ := RM.out.form
        subst em
        have HCM : Hid (∀ w', Below w5.heap.size w5 w' → ∀ i, i < M.length → Sy.Cs w' bm om M i) := hcm
        have HVM : Hid (0 < M.length → bm < w5.heap.size ∧ sm = some ⟨bm, om, none⟩) := fun hi => by
          obtain ⟨h1, c, h2⟩ := hvm hi
          simp at h2
          exact ⟨h1, h2.1⟩
        obtain ⟨nm, hnm⟩ : ∃ nm, nm = M.length := ⟨_, rfl⟩
        have mf : nm ≤ 1048576 := by rw [hnm]; exact HZ.out
        rw [← hnm] at HCM HVM HK ⊢
        clear hcm hvm hnm RM
        obtain ⟨s0, s1, s2, s3, s4, s5, _⟩ := S5.out.cells
        obtain ⟨q', hq'⟩ : ∃ q', q' = min q a2 := ⟨_, rfl⟩
        have HK' : Hid (wq (k + 1) = mins q' M nm) := (by show _ = _; rw [hq']; exact HK.out)
        have E : Hid (q' = min q a2) := hq'
        clear hq' HK
        go_wp2_with fail
        rw [← E.out]
        go_loopw [3, 9] (fun s i wi => ∃ j : Nat, j ≤ nm ∧ i = .int .i64 j ∧ s = .int .i64 (mins q' M j) ∧ Hid (wi = w5)) (fun _ i _ => nm - (intOf i).toNat)
        case atStart => exact ⟨0, Nat.zero_le _, rfl, rfl, rfl⟩
        case round =>
          obtain ⟨j, hj, rfl, rfl, WJ⟩ := hrel
          have wj := WJ.out
          subst wj
          by_cases hjl : j < nm
          · obtain ⟨hbm, hx⟩ := HVM.out (by omega)
            subst hx
            obtain ⟨r0, r1, r2, r3, r4, r5⟩ := HCM.out wr (Below.refl _ _) j hjl
            have j1 : (0 : Int) ≤ (j : Int) := by omega
            have j2 : (j : Int) < (nm : Int) := by omega
            have HJ : Hid (mins q' M (j + 1) = min (mins q' M j) (Sy.c2 M j)) := rfl
            generalize mins q' M j = g at *
            generalize Sy.c2 M j = e2 at *
            clear r0 r1 r3 r4 r5 s0 s1 s2 s3 s4 s5
            go_wp2_with fail
            go_roundw
            case rel => exact ⟨j + 1, by omega, by go_num, by rw [HJ.out], trivial⟩
            case measure => simp [intOf]; omega
          · have ej : j = nm := by omega
            subst ej
            go_wp2_with fail
            go_roundw
            case rel => exact ⟨k + 1, by omega, by go_num, by rw [HK'.out], BB6.out⟩
            case measure => simp [intOf]; omega
    · have ek : k = np := by omega
      subst ek
      have BR : Hid (Below w.heap.size w wo) := B2.out.trans (BB.out.mono B2.out.size)
      go_wp2_with fail
      go_ret
      exact ⟨by rw [HA.out]; rfl, BR.out⟩
end Go.Proofs.Ytmbhlmpdkkjedaa.To
