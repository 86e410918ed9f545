/- WorstSight: the program and the model. -/
import Derived.Test.YtmbhlmpdkkjedaaPs
import Derived.Test.YtmbhlmpdkkjedaaMa
import Derived.Test.YtmbhlmpdkkjedaaSb
namespace Go.Proofs.Ytmbhlmpdkkjedaa.To
open Go.ChangeShapes Go.WideShapes Go.ChangeAt Go.RowKit
open Go.Proofs.Ytmbhlmpdkkjedaa.Al

/-- The least of m and the sights of the first k skies. -/
def mins (m : Int) (S : Sy.Ls) : Nat → Int
  | 0 => m
  | k + 1 => min (mins m S k) (Sy.c2 S k)
def tA (s : Sk.Sky) (L : Ch.Ls) (x : Int) : Sk.Sky := hs s L x L.length
def tM (s : Sk.Sky) (L : Ch.Ls) (x : Int) : Sy.Ls := my (tA s L x) L x L.length
/-- The worst sight within the first k parts. -/
def wsq (s : Sk.Sky) (L : Ch.Ls) (P : Pn.Ls) : Nat → Int
  | 0 => 9999
  | k + 1 => mins (min (wsq s L P k) (tA s L (Pn.c0 P k)).2.2.1) (tM s L (Pn.c0 P k)) (tM s L (Pn.c0 P k)).length
def wst (C : ByteArray) (I f t d p v : Int) (W O : ByteArray) (b : Int) (L : Ch.Ls) : Int := if tok C I f t d p v W O b L = true then wsq (d, p, v, W, O, b) L (pts C I f t d p v W O b L) (pts C I f t d p v W O b L).length else -1
theorem tM_len (s : Sk.Sky) (L : Ch.Ls) (x : Int) : (tM s L x).length ≤ L.length := my_len _ L x L.length
theorem pts_in {C : ByteArray} {I f t d p v : Int} {W O : ByteArray} {b : Int} {L : Ch.Ls} (h : tok C I f t d p v W O b L = true) (k : Nat) (hk : k < (pts C I f t d p v W O b L).length) : f ≤ Pn.c0 (pts C I f t d p v W O b L) k ∧ Pn.c0 (pts C I f t d p v W O b L) k < t := by
  obtain ⟨v0, v1, v2, v3⟩ := tok_valid h
  have e : pts C I f t d p v W O b L = prs (Dn f t L (t - f).toNat) := by unfold pts; rw [if_pos h]
  rw [e] at hk ⊢
  rw [prs_len] at hk
  have hr := Dn_rise f t L (t - f).toNat
  unfold Pn.c0
  rw [prs_at _ k (by omega)]
  have m0 : (Dn f t L (t - f).toNat).getD k 0 ∈ Dn f t L (t - f).toNat := by
    rw [List.getD_eq_getElem?_getD, List.getElem?_eq_getElem (by omega : k < (Dn f t L (t - f).toNat).length)]
    exact List.getElem_mem _
  have m1 : (Dn f t L (t - f).toNat).getD (k + 1) 0 ∈ Dn f t L (t - f).toNat := by
    rw [List.getD_eq_getElem?_getD, List.getElem?_eq_getElem (by omega : k + 1 < (Dn f t L (t - f).toNat).length)]
    exact List.getElem_mem _
  have lt : (Dn f t L (t - f).toNat).getD k 0 < (Dn f t L (t - f).toNat).getD (k + 1) 0 := by
    rw [List.getD_eq_getElem?_getD, List.getD_eq_getElem?_getD, List.getElem?_eq_getElem (by omega : k < (Dn f t L (t - f).toNat).length), List.getElem?_eq_getElem (by omega : k + 1 < (Dn f t L (t - f).toNat).length)]
    exact List.pairwise_iff_getElem.1 hr k (k + 1) (by omega) (by omega) (by omega)
  have a0 := (Dn_mem f t L (t - f).toNat _).1 m0
  have a1 := (Dn_mem f t L (t - f).toNat _).1 m1
  show f ≤ (Dn f t L (t - f).toNat).getD k 0 ∧ (Dn f t L (t - f).toNat).getD k 0 < t
  omega
theorem reads_sy {w : World} {v : Value} {L : Sy.Ls} (h : Sy.Reads w v L) : ∃ b o, (∀ w', Below w.heap.size w w' → ∀ i, i < L.length → Sy.Cs w' b o L i) ∧ (0 < L.length → b < w.heap.size ∧ ∃ cap, v = .slice (some ⟨b, o, none⟩) L.length cap) := by
  rcases h with ⟨rfl, _⟩ | ⟨b, o, cap, h1, h2, h3, h4, h5⟩
  · exact ⟨0, 0, fun _ _ i hi => by simp at hi, fun hi => by simp at hi⟩
  · exact ⟨b, o, fun w' hb i hi => (h5 i hi).below hb h4, fun _ => ⟨h4, cap, h1⟩⟩
theorem reads_pn {w : World} {v : Value} {L : Pn.Ls} (h : Pn.Reads w v L) : ∃ b o, (∀ w', Below w.heap.size w w' → ∀ i, i < L.length → Pn.Cs w' b o L i) ∧ (0 < L.length → b < w.heap.size ∧ ∃ cap, v = .slice (some ⟨b, o, none⟩) L.length cap) := by
  rcases h with ⟨rfl, _⟩ | ⟨b, o, cap, h1, h2, h3, h4, h5⟩
  · exact ⟨0, 0, fun _ _ i hi => by simp at hi, fun hi => by simp at hi⟩
  · exact ⟨b, o, fun w' hb i hi => (h5 i hi).below hb h4, fun _ => ⟨h4, cap, h1⟩⟩

set_option maxRecDepth 20000 in
set_option maxHeartbeats 4000000 in
theorem iworst_any (C : ByteArray) (I f t d p v : Int) (W O : ByteArray) (b : Int) (u : Value) (L : Ch.Ls) (w : World) (hL : Ch.Reads w u L) (hl : L.length ≤ 1048576) :
    Calls Try.prog 25 #[Tf.tv C I f t d p v W O b u] w fun e w' => e = .returned (.int .i64 (wst C I f t d p v W O b L)) ∧ Below w.heap.size w w' := by
  have C1 : Hid (∀ w', Below w.heap.size w w' → Calls Try.prog 10 #[Tf.tv C I f t d p v W O b u] w' fun e w'' => e = .returned (.bool (tok C I f t d p v W O b L)) ∧ Below w'.heap.size w' w'') := fun w' hb => itaf_any C I f t d p v W O b u L w' (hL.on hb)
  have C2 : Hid (∀ w', Below w.heap.size w w' → Calls Try.prog 20 #[Tf.tv C I f t d p v W O b u] w' fun e w'' => ∃ v', e = .returned v' ∧ Pn.Row w'' w'.heap.size v' (pts C I f t d p v W O b L) ∧ Below w'.heap.size w' w'') := fun w' hb => iparts_any C I f t d p v W O b u L w' (hL.on hb)
  have C3 : Hid (∀ w' x, Below w.heap.size w w' → Calls Try.prog 46 #[Tf.tv C I f t d p v W O b u, .int .i64 x] w' fun e w'' => e = .returned (Sk.sv (tA (d, p, v, W, O, b) L x)) ∧ Below w'.heap.size w' w'') := fun w' x hb => iholds_any C I f t d p v W O b u L x w' (hL.on hb)
  have C4 : Hid (∀ w' x, Below w.heap.size w w' → Calls Try.prog 47 #[Tf.tv C I f t d p v W O b u, .int .i64 x, Sk.sv (tA (d, p, v, W, O, b) L x)] w' fun e w'' => ∃ v', e = .returned v' ∧ Sy.Row w'' w'.heap.size v' (tM (d, p, v, W, O, b) L x) ∧ Below w'.heap.size w' w'') := fun w' x hb => imay_any C I f t d p v W O b u _ _ _ _ _ _ L x w' (hL.on hb) hl
  have HT : Hid (tok C I f t d p v W O b L = false → wst C I f t d p v W O b L = -1) := fun h => by unfold wst; rw [h]; rfl
  have HS : Hid (tok C I f t d p v W O b L = true → wst C I f t d p v W O b L = wsq (d, p, v, W, O, b) L (pts C I f t d p v W O b L) (pts C I f t d p v W O b L).length) := fun h => by unfold wst; rw [if_pos h]
  have HM : Hid (∀ x, (tM (d, p, v, W, O, b) L x).length ≤ 1048576) := fun x => Nat.le_trans (tM_len _ L x) hl
  generalize wst C I f t d p v W O b L = ans at *
  generalize tok C I f t d p v W O b L = b1 at *
  generalize pts C I f t d p v W O b L = P at *
  have HQ : Hid (∀ k, wsq (d, p, v, W, O, b) L P (k + 1) = mins (min (wsq (d, p, v, W, O, b) L P k) (tA (d, p, v, W, O, b) L (Pn.c0 P k)).2.2.1) (tM (d, p, v, W, O, b) L (Pn.c0 P k)) (tM (d, p, v, W, O, b) L (Pn.c0 P k)).length) := fun k => rfl
  have HQ0 : Hid (wsq (d, p, v, W, O, b) L P 0 = 9999) := rfl
  generalize hsk : (d, p, v, W, O, b) = S at *
  clear hsk
  generalize wsq S L P = wq at *
  obtain ⟨sa, sc, hu⟩ := hL.form
  subst hu
  obtain ⟨n, hn⟩ : ∃ n, n = L.length := ⟨_, rfl⟩
  rw [← hn] at C1 C2 C3 C4 ⊢
  clear hn hL hl
  obtain ⟨wb, hwb⟩ : ∃ wb, wb = w.alloc (.cells #[.string C, .int .i64 I, .int .i64 f, .int .i64 t, .int .i64 d, .int .i64 p, .int .i64 v, .string W, .string O, .int .i64 b, (.slice sa n sc)] 35) := ⟨_, rfl⟩
  have HW : Hid (wb = w.alloc (.cells #[.string C, .int .i64 I, .int .i64 f, .int .i64 t, .int .i64 d, .int .i64 p, .int .i64 v, .string W, .string O, .int .i64 b, (.slice sa n sc)] 35)) := hwb
  have BW : Hid (Below w.heap.size w wb) := (by show Below _ _ _; rw [hwb]; exact (Below.refl _ _).alloc (Nat.le_refl _) _)
  have KT : Hid (Tf.TB wb w.heap.size C I f t d p v W O b (.slice sa n sc)) := (by show Tf.TB _ _ _ _ _ _ _ _ _ _ _ _ _; rw [hwb]; exact Tf.TB.new w C I f t d p v W O b (.slice sa n sc))
  clear hwb
  obtain ⟨c0, c1, c2, c3, c4, c5, c6, c7, c8, c9, c10, _⟩ := KT.out.cells
  go_enter Try.func25, Try.ntmps25
  go_wp2_with fail
  rw [← HW.out]
  refine (C1.out _ BW.out).mono ?_
  rintro e w1 ⟨rfl, hb⟩
  have T1 : Hid (Tf.TB w1 w.heap.size C I f t d p v W O b (.slice sa n sc)) := KT.out.on hb KT.out.lt
  have B1 : Hid (Below w.heap.size w w1) := BW.out.trans (hb.mono BW.out.size)
  clear c0 c1 c2 c3 c4 c5 c6 c7 c8 c9 c10 hb HW
  obtain ⟨c0, c1, c2, c3, c4, c5, c6, c7, c8, c9, c10, _⟩ := T1.out.cells
  cases b1
  · go_wp2_with fail
    go_ret
    exact ⟨by rw [HT.out (by first | trivial | rfl)]; rfl, B1.out⟩
  have HA : Hid (ans = wq P.length) := HS.out (by first | trivial | rfl)
  clear HT HS
  go_wp2_with fail
  refine (C2.out _ B1.out).mono ?_
  rintro e w2 ⟨vp, rfl, rp, hb⟩
  have T2 : Hid (Tf.TB w2 w.heap.size C I f t d p v W O b (.slice sa n sc)) := T1.out.on hb T1.out.lt
  have B2 : Hid (Below w.heap.size w w2) := B1.out.trans (hb.mono B1.out.size)
  obtain ⟨bp, op, hcp, hvp⟩ := reads_pn rp.reads
  have pf := rp.reads.fits
  obtain ⟨sp, cp, ep⟩ := rp.reads.form
  subst ep
  have HCP : Hid (∀ w', Below w2.heap.size w2 w' → ∀ i, i < P.length → Pn.Cs w' bp op P i) := hcp
  have HVP : Hid (0 < P.length → bp < w2.heap.size ∧ sp = some ⟨bp, op, none⟩) := fun hi => by
    obtain ⟨h1, c, h2⟩ := hvp hi
    simp at h2
    exact ⟨h1, h2.1⟩
  obtain ⟨np, hnp⟩ : ∃ np, np = P.length := ⟨_, rfl⟩
  rw [← hnp] at pf HCP HVP HA ⊢
  clear c0 c1 c2 c3 c4 c5 c6 c7 c8 c9 c10 hb rp hcp hvp hnp
  go_wp2_with fail
  go_loopw [3, 15] (fun s i wr => ∃ k : Nat, k ≤ np ∧ i = .int .i64 k ∧ s = .int .i64 (wq k) ∧ Hid (Below w2.heap.size w2 wr)) (fun _ i _ => np - (intOf i).toNat)
  case atStart => exact ⟨0, Nat.zero_le _, rfl, by rw [HQ0.out], Below.refl _ _⟩
  case round =>
    obtain ⟨wo, hwo⟩ : ∃ x : World, x = wr := ⟨_, rfl⟩
    subst hwo
    obtain ⟨k, hk, rfl, rfl, BB⟩ := hrel
    by_cases hlt : k < np
    · have TR : Hid (Tf.TB wo w.heap.size C I f t d p v W O b (.slice sa n sc)) := T2.out.on BB.out T2.out.lt
      have BR : Hid (Below w.heap.size w wo) := B2.out.trans (BB.out.mono B2.out.size)
      obtain ⟨hbp, hx⟩ := HVP.out (by omega)
      subst hx
      obtain ⟨q0, q1⟩ := HCP.out wo BB.out k hlt
      have i1 : (0 : Int) ≤ (k : Int) := by omega
      have i2 : (k : Int) < (np : Int) := by omega
      have HX : Hid (∀ w', Below w.heap.size w w' → Calls Try.prog 46 #[Tf.tv C I f t d p v W O b (.slice sa n sc), .int .i64 (Pn.c0 P k)] w' fun e w'' => e = .returned (Sk.sv (tA S L (Pn.c0 P k))) ∧ Below w'.heap.size w' w'') := fun w' hb => C3.out w' _ hb
      have HY : Hid (∀ w', Below w.heap.size w w' → Calls Try.prog 47 #[Tf.tv C I f t d p v W O b (.slice sa n sc), .int .i64 (Pn.c0 P k), Sk.sv (tA S L (Pn.c0 P k))] w' fun e w'' => ∃ v', e = .returned v' ∧ Sy.Row w'' w'.heap.size v' (tM S L (Pn.c0 P k)) ∧ Below w'.heap.size w' w'') := fun w' hb => C4.out w' _ hb
      have HK : Hid (wq (k + 1) = mins (min (wq k) (tA S L (Pn.c0 P k)).2.2.1) (tM S L (Pn.c0 P k)) (tM S L (Pn.c0 P k)).length) := HQ.out k
      have HZ : Hid ((tM S L (Pn.c0 P k)).length ≤ 1048576) := HM.out _
      generalize tM S L (Pn.c0 P k) = M at *
      generalize tA S L (Pn.c0 P k) = A at *
      generalize Pn.c0 P k = x at *
      generalize Pn.c1 P k = x' at *
      obtain ⟨a0, a1, a2, a3, a4, a5⟩ := A
      dsimp only [Sk.sv] at HX HY HK
      obtain ⟨w3, hw3⟩ : ∃ y, y = wo.alloc (.cells #[.int .i64 x, .int .i64 x'] 31) := ⟨_, rfl⟩
      have HW3 : Hid (w3 = wo.alloc (.cells #[.int .i64 x, .int .i64 x'] 31)) := hw3
      have b3 : Below wo.heap.size wo w3 := by rw [hw3]; exact (Below.refl _ _).alloc (Nat.le_refl _) _
      have T3 : Hid (Tf.TB w3 w.heap.size C I f t d p v W O b (.slice sa n sc)) := TR.out.on b3 TR.out.lt
      have B3 : Hid (Below w.heap.size w w3) := BR.out.trans (b3.mono BR.out.size)
      have X3 : Hid (w3.cell? ⟨wo.heap.size, 0, none⟩ = some (.int .i64 x) ∧ w3.cell? ⟨wo.heap.size, 1, none⟩ = some (.int .i64 x')) := (by show _ ∧ _; rw [hw3]; simp [go_sem])
      have Z3 : Hid (w3.heap.size = wo.heap.size + 1) := (by show _ = _; rw [hw3]; simp)
      clear hw3 b3
      generalize hq : wq k = q at *
      clear hq
      obtain ⟨c0, c1, c2, c3, c4, c5, c6, c7, c8, c9, c10, _⟩ := T3.out.cells
      obtain ⟨y0, y1⟩ := X3.out
      go_upto_region 7 with fail
      rw [← HW3.out]
      go_wp2_with fail
      refine (HX.out _ B3.out).mono ?_
      rintro e w4 ⟨rfl, hb⟩
      have T4 : Hid (Tf.TB w4 w.heap.size C I f t d p v W O b (.slice sa n sc)) := T3.out.on hb T3.out.lt
      have B4 : Hid (Below w.heap.size w w4) := B3.out.trans (hb.mono B3.out.size)
      have X4 : Hid (w4.cell? ⟨wo.heap.size, 0, none⟩ = some (.int .i64 x)) := (hb.cell (p := ⟨wo.heap.size, 0, none⟩) (by have := Z3.out; show wo.heap.size < _; omega)).trans X3.out.1
      have L4 : Hid (wo.heap.size < w4.heap.size) := Nat.lt_of_lt_of_le (by rw [Z3.out]; exact Nat.lt_succ_self _) hb.size
      have BB4 : Hid (Below w2.heap.size w2 w4) := (by
        have h1 : Below w2.heap.size w2 w3 := BB.out.trans (by rw [HW3.out]; exact ((Below.refl _ _).alloc (Nat.le_refl _) _ : Below wo.heap.size wo _).mono BB.out.size)
        exact h1.trans (hb.mono h1.size))
      clear c0 c1 c2 c3 c4 c5 c6 c7 c8 c9 c10 y0 y1 hb HX HW3 q0 q1
      obtain ⟨w5, hw5⟩ : ∃ y, y = w4.alloc (.cells #[.int .i64 a0, .int .i64 a1, .int .i64 a2, .string a3, .string a4, .int .i64 a5] 32) := ⟨_, rfl⟩
      have HW5 : Hid (w5 = w4.alloc (.cells #[.int .i64 a0, .int .i64 a1, .int .i64 a2, .string a3, .string a4, .int .i64 a5] 32)) := hw5
      have b5 : Below w4.heap.size w4 w5 := by rw [hw5]; exact (Below.refl _ _).alloc (Nat.le_refl _) _
      have T5 : Hid (Tf.TB w5 w.heap.size C I f t d p v W O b (.slice sa n sc)) := T4.out.on b5 T4.out.lt
      have B5 : Hid (Below w.heap.size w w5) := B4.out.trans (b5.mono B4.out.size)
      have BB5 : Hid (Below w2.heap.size w2 w5) := BB4.out.trans (b5.mono BB4.out.size)
      have X5 : Hid (w5.cell? ⟨wo.heap.size, 0, none⟩ = some (.int .i64 x)) := (b5.cell (p := ⟨wo.heap.size, 0, none⟩) L4.out).trans X4.out
      have S5 : Hid (Sk.SB w5 w4.heap.size a0 a1 a2 a3 a4 a5) := (by show Sk.SB _ _ _ _ _ _ _ _; rw [hw5]; exact Sk.SB.new w4 a0 a1 a2 a3 a4 a5)
      clear hw5 b5
      go_upto_region 8 with fail
      rw [← HW5.out]
      clear HW5
      obtain ⟨c0, c1, c2, c3, c4, c5, c6, c7, c8, c9, c10, _⟩ := T5.out.cells
      obtain ⟨s0, s1, s2, s3, s4, s5, _⟩ := S5.out.cells
      have y0 := X5.out
      obtain ⟨q', hq'⟩ : ∃ q', q' = min q a2 := ⟨_, rfl⟩
      have HK' : Hid (wq (k + 1) = mins q' M M.length) := (by show _ = _; rw [hq']; exact HK.out)
      go_cut [3] (fun s wx => s = .int .i64 q' ∧ wx = w5)
      case first =>
        have E : Hid (q' = min q a2) := hq'
        clear hq'
        go_wp2_with fail
        go_meet
        exact ⟨by rw [E.out], rfl⟩
      case rest =>
        obtain ⟨rfl, hcw⟩ := hcut
        subst hcw
        clear hq' HK
        go_wp2_with fail
        refine (HY.out _ B5.out).mono ?_
        rintro e w6 ⟨vm, rfl, rm, hb⟩
        have BB6 : Hid (Below w2.heap.size w2 w6) := BB5.out.trans (hb.mono BB5.out.size)
        obtain ⟨bm, om, hcm, hvm⟩ := reads_sy rm.reads
        obtain ⟨sm, cm, em⟩ := rm.reads.form
        subst em
        have HCM : Hid (∀ w', Below w6.heap.size w6 w' → ∀ i, i < M.length → Sy.Cs w' bm om M i) := hcm
        have HVM : Hid (0 < M.length → bm < w6.heap.size ∧ sm = some ⟨bm, om, none⟩) := fun hi => by
          obtain ⟨h1, c, h2⟩ := hvm hi
          simp at h2
          exact ⟨h1, h2.1⟩
        obtain ⟨nm, hnm⟩ : ∃ nm, nm = M.length := ⟨_, rfl⟩
        have mf : nm ≤ 1048576 := by rw [hnm]; exact HZ.out
        rw [← hnm] at HCM HVM HK' ⊢
        clear c0 c1 c2 c3 c4 c5 c6 c7 c8 c9 c10 s0 s1 s2 s3 s4 s5 y0 hb rm hcm hvm hnm HY
        go_wp2_with fail
        go_loopw [3, 33] (fun s i wi => ∃ j : Nat, j ≤ nm ∧ i = .int .i64 j ∧ s = .int .i64 (mins q' M j) ∧ Hid (Below w6.heap.size w6 wi)) (fun _ i _ => nm - (intOf i).toNat)
        case atStart => exact ⟨0, Nat.zero_le _, rfl, rfl, Below.refl _ _⟩
        case round =>
          obtain ⟨j, hj, rfl, rfl, BJ⟩ := hrel
          by_cases hjl : j < nm
          · obtain ⟨hbm, hx⟩ := HVM.out (by omega)
            subst hx
            obtain ⟨r0, r1, r2, r3, r4, r5⟩ := HCM.out wr BJ.out j hjl
            have j1 : (0 : Int) ≤ (j : Int) := by omega
            have j2 : (j : Int) < (nm : Int) := by omega
            have HJ : Hid (mins q' M (j + 1) = min (mins q' M j) (Sy.c2 M j)) := rfl
            generalize mins q' M j = g at *
            generalize Sy.c0 M j = e0 at *
            generalize Sy.c1 M j = e1 at *
            generalize Sy.c2 M j = e2 at *
            generalize Sy.c3 M j = e3 at *
            generalize Sy.c4 M j = e4 at *
            generalize Sy.c5 M j = e5 at *
            have BN : Hid (∀ o, Below w6.heap.size w6 (wr.alloc o)) := fun o => BJ.out.alloc BJ.out.size _
            go_wp2_with fail
            go_roundw
            case rel => exact ⟨j + 1, by omega, by go_num, by rw [HJ.out], BN.out _⟩
            case measure => simp [intOf]; omega
          · have ej : j = nm := by omega
            subst ej
            go_wp2_with fail
            go_roundw
            case rel => exact ⟨k + 1, by omega, by go_num, by rw [HK'.out], BB6.out.trans (BJ.out.mono BB6.out.size)⟩
            case measure => simp [intOf]; omega
    · have ek : k = np := by omega
      subst ek
      have BR : Hid (Below w.heap.size w wo) := B2.out.trans (BB.out.mono B2.out.size)
      go_wp2_with fail
      go_ret
      exact ⟨by rw [HA.out]; rfl, BR.out⟩
end Go.Proofs.Ytmbhlmpdkkjedaa.To
