/- The law FnPacked, walked. -/
import Derived.Test.YtgajajpcjbpalaaZm
namespace Go.Proofs.Ytgajajpcjbpalaa.Pkd
open Go.ChangeShapes Go.WideShapes Go.ChangeAt Go.RowKit
open Go.Proofs.Ytgajajpcjbpalaa.Lists Go.Proofs.Ytgajajpcjbpalaa.Flt Go.Proofs.Ytgajajpcjbpalaa.Fls

theorem leafA (ra rb : Int) (ex : Nat) (g1 : 2 * ((ra - rb).natAbs : Int) ≤ 2 ^ ex) (g2 : (ra - rb).natAbs ≤ 8000000000000) :
    ∃ df : Int, IntKind.i64.wrap (ra - rb) = df ∧ 2 * (df.natAbs : Int) ≤ 2 ^ ex ∧ df.natAbs ≤ 8000000000000 := by
  exact ⟨ra - rb, IntWalk.i64_in _ (by omega), g1, g2⟩

theorem leafB (df : Int) (ex : Nat) (g1 : 2 * (df.natAbs : Int) ≤ 2 ^ ex) (g2 : df.natAbs ≤ 8000000000000) (he2 : ex ≤ 41) :
    df.natAbs ≤ 9000000000000000 ∧ IntKind.i64.wrap (2 * (df.natAbs : Int)) = 2 * (df.natAbs : Int) ∧ IntKind.i64.wrap (2 ^ ex) = (2 : Int) ^ ex ∧ wrap64 (2 ^ ex) = (2 : Int) ^ ex ∧ decide ((2 : Int) ^ ex < 2 * (df.natAbs : Int)) = false ∧ ¬ ((2 : Int) ^ ex < 2 * (df.natAbs : Int)) ∧ min (IntKind.u64.wrap (ex : Int)).toNat 64 = ex := by
  obtain ⟨p0, p1⟩ := pow42 ex (by omega)
  refine ⟨by omega, IntWalk.i64_in _ (by omega), IntWalk.i64_in _ (by omega), IntWalk.wrap64_in _ (by omega), decide_eq_false (by omega), by omega, ?_⟩
  have eu : IntKind.u64.wrap (ex : Int) = (ex : Int) := IntWalk.u64_in _ (by omega)
  rw [eu]
  omega


theorem reads_one {w : World} {b o i cap n : Nat} {L : List Nat} (hb : b < w.heap.size) (hi : i < n) (hc : n ≤ cap) (hm : cap ≤ maxLen) (h : ∀ j, j < n → w.cell? ⟨b, o + j, none⟩ = some (.float .f64 (L.getD j 0))) (k : Nat) (hk : k = cap - i) :
    Fls.Reads w (.slice (some ⟨b, o + i, none⟩) 1 k) [L.getD i 0] :=
  .inr ⟨b, o + i, k, rfl, by simp; omega, by omega, hb, fun j hj => by
    have : j = 0 := by simp at hj; omega
    subst this
    exact h i hi⟩
theorem ord_eq (x : Nat) : (ord x x == some .eq) = !nan x := by
  have := self_ne x
  cases hn : nan x
  · rw [hn] at this; simpa using this
  · rw [hn] at this
    have h2 : ¬ (ord x x = some .eq) := by simpa using this
    simpa using h2
/-- What the law asks of one value. -/
theorem Good.one {L : List Nat} {b dec r : Int} {e : Nat} {cd : List Int} (h : Good L b dec r e cd) (x : Nat) (hx : x ∈ L) (hn : nan x = false) (pa pb : Pk) (ha : Res [x] 24 dec pa 0) (hb : Res [Pkd.bk dec r e x] 24 dec pb 0) :
    2 * ((pa.ref - pb.ref).natAbs : Int) ≤ 2 ^ e ∧ (pa.ref - pb.ref).natAbs ≤ 8000000000000 := by
  have hw := h.wh _ (mem_ws hx hn)
  have hf := h.fits _ (mem_ws hx hn)
  obtain ⟨k1, k2⟩ := h.bk x hx
  have ea := res_one ha hn
  have eb := res_one hb (by rw [k1]; exact hn)
  rw [(k2 hn).2] at eb
  rw [ea, eb]
  have h1 : (2 : Int) ^ e = ((2 ^ e : Nat) : Int) := by push_cast; rfl
  rw [h1]
  omega

set_option maxHeartbeats 4000000 in
set_option maxRecDepth 20000 in
theorem packedLaw (a : Option Addr) (n0 cap0 : Nat) (w : World) (hC : Rd.Code w a n0 cap0) (hm : n0 < 9223372036854775808) : Calls Try.prog 4 #[.slice a n0 cap0] w fun e w' => e = .returned (.bool true) ∧ Below w.heap.size w w' := by
  by_cases hb : 1048576 < n0
  · have HB := Rd.big_yes a n0 cap0 w hb hm
    go_enter Try.func4, Try.ntmps4
    go_wp2_with fail
    refine HB.mono ?_
    rintro e w' ⟨rfl, hw⟩; subst hw
    go_wp2_with fail
    go_ret
    exact ⟨rfl, Below.refl _ _⟩
  have HB : Hid (Calls Try.prog 13 #[.slice a n0 cap0] w fun e w' => e = .returned (.bool false) ∧ w' = w) := Rd.big_no a n0 cap0 w (by omega)
  have HD : Hid (Calls Try.prog 14 #[.slice a n0 cap0] w fun e w' => ∃ v L b d, e = .returned (.tuple #[v, .int .i64 b, .int .i64 d]) ∧ Fls.Reads w' v L ∧ Below w.heap.size w w') := Rd.draw_any a n0 cap0 w hC (by omega)
  clear hC hb
  go_enter Try.func4, Try.ntmps4
  go_wp2_with fail
  refine HB.out.mono ?_
  rintro e w' ⟨rfl, hw⟩; subst w'
  go_wp2_with fail
  refine HD.out.mono ?_
  rintro e w1 ⟨v, L, b, dec, rfl, hR, b1⟩
  have B1 : Hid (Below w.heap.size w w1) := b1
  have s1 := b1.size
  obtain ⟨x, cap, bb, o, rfl, hx, hc, hmx⟩ := Reads.fopened hR
  have RV : Hid (Fls.Reads w1 (.slice x L.length cap) L) := hR
  have CP : Hid (0 < L.length → L.length ≤ cap ∧ cap ≤ maxLen) := (by
    rcases hR with ⟨h, _⟩ | ⟨_, _, c, h1, h2, h3, _⟩
    · intro hp; rw [h] at hp; exact absurd hp (by simp)
    · simp at h1; intro _; rw [h1.2]; exact ⟨h2, h3⟩)
  obtain ⟨n, hn⟩ : ∃ n, n = L.length := ⟨_, rfl⟩
  have HN : Hid (n = L.length) := hn
  rw [← hn] at RV CP hx hc ⊢
  have HX : Hid (0 < n → x = some ⟨bb, o, none⟩ ∧ bb < w1.heap.size) := hx
  have HC : Hid (∀ i, i < n → w1.cell? ⟨bb, o + i, none⟩ = some (.float .f64 (L.getD i 0))) := hc
  clear b1 HB HD hR hx hc hmx hn
  by_cases hbig : 200 < n
  · have l1 : (200 : Int) < (n : Int) := by omega
    go_wp2_with fail
    go_ret
    exact ⟨rfl, B1.out⟩
  have l1 : (n : Int) ≤ 200 := by omega
  have SP : Hid (Calls Try.prog 5 #[.slice x n cap, .int .i64 b, .int .i64 dec] w1 (Post L b dec w1)) := spack_any _ L b dec w1 RV.out
  go_wp2_with fail
  refine SP.out.mono ?_
  rintro e w2 ⟨p, tv, cv, c, hp, rfl, ot, oc, b2⟩
  obtain ⟨t0, u0, et⟩ : ∃ a c, tv = .slice a p.th.length c := row_form ot
  obtain ⟨c0, d0, ec⟩ : ∃ a c, cv = .slice a p.cd.length c := row_form oc
  subst et ec
  have HP : Hid (Res L b dec p c) := hp
  have IP : Hid (∀ wx, Below w1.heap.size w1 wx → Calls Try.prog 7 #[.slice x n cap, .int .i64 b, .int .i64 dec] wx fun y w' => ∃ tv cv, y = .returned (.tuple #[pkv p tv cv, .int .i64 c]) ∧ w'.ownsRow wx.heap.size 5 1 tv p.th.length (Bytes.bys p.th) ∧ w'.ownsRow wx.heap.size 2 1 cv p.cd.length (ints p.cd) ∧ Below wx.heap.size wx w') := fun wx hb => (ipack_any _ L b dec wx (RV.out.on hb)).mono fun y w' ⟨p', tv, cv, c', h1, h2, h3, h4, h5⟩ => by
    obtain ⟨e1, e2⟩ := hp.same h1
    subst e1 e2
    exact ⟨tv, cv, h2, h3, h4, h5⟩
  have hcc : (c != c) = false := by simp
  have s2 := b2.size
  obtain ⟨wa, hwa⟩ : ∃ wa, wa = w2.alloc (.cells #[.int .i64 p.cnt, .int .i64 p.dec, .int .i64 p.ref, .int .i64 p.exp, .int .i64 p.bits, .slice t0 p.th.length u0, .slice c0 p.cd.length d0] 26) := ⟨_, rfl⟩
  have Hwa : Hid (wa = w2.alloc (.cells #[.int .i64 p.cnt, .int .i64 p.dec, .int .i64 p.ref, .int .i64 p.exp, .int .i64 p.bits, .slice t0 p.th.length u0, .slice c0 p.cd.length d0] 26)) := hwa
  have bwa : Below w2.heap.size w2 wa := (by rw [hwa]; exact (Below.refl _ _).alloc (Nat.le_refl _) _)
  have zwa : w2.heap.size < wa.heap.size := (by rw [hwa]; simp)
  have Xwa : Box7 wa w2.heap.size (.int .i64 p.cnt) (.int .i64 p.dec) (.int .i64 p.ref) (.int .i64 p.exp) (.int .i64 p.bits) (.slice t0 p.th.length u0) (.slice c0 p.cd.length d0) := (by rw [hwa]; unfold Box7; simp [go_sem])
  have BA1 : Hid (Below w1.heap.size w1 wa) := b2.trans (bwa.mono s2)
  have X0 : Hid (Bx wa p w2.heap.size w1.heap.size (.slice t0 p.th.length u0) (.slice c0 p.cd.length d0)) := ⟨Xwa, row_later ot bwa (Nat.le_refl _), row_later oc bwa (Nat.le_refl _)⟩
  clear ot oc b2 hwa bwa Xwa SP hp
  unfold pkv at IP ⊢
  go_upto_region 7 with fail
  rw [← Hwa.out]
  go_wp2_with fail
  refine (IP.out wa BA1.out).mono ?_
  rintro e w4 ⟨tv, cv, rfl, ot, oc, b4⟩
  obtain ⟨t1, u1, et⟩ : ∃ a c, tv = .slice a p.th.length c := row_form ot
  obtain ⟨c1, d1, ec⟩ : ∃ a c, cv = .slice a p.cd.length c := row_form oc
  subst et ec
  have s4 := b4.size
  obtain ⟨wb, hwb⟩ : ∃ wb, wb = w4.alloc (.cells #[.int .i64 p.cnt, .int .i64 p.dec, .int .i64 p.ref, .int .i64 p.exp, .int .i64 p.bits, .slice t1 p.th.length u1, .slice c1 p.cd.length d1] 26) := ⟨_, rfl⟩
  have Hwb : Hid (wb = w4.alloc (.cells #[.int .i64 p.cnt, .int .i64 p.dec, .int .i64 p.ref, .int .i64 p.exp, .int .i64 p.bits, .slice t1 p.th.length u1, .slice c1 p.cd.length d1] 26)) := hwb
  have bwb : Below w4.heap.size w4 wb := (by rw [hwb]; exact (Below.refl _ _).alloc (Nat.le_refl _) _)
  have zwb : w4.heap.size < wb.heap.size := (by rw [hwb]; simp)
  have Xwb : Box7 wb w4.heap.size (.int .i64 p.cnt) (.int .i64 p.dec) (.int .i64 p.ref) (.int .i64 p.exp) (.int .i64 p.bits) (.slice t1 p.th.length u1) (.slice c1 p.cd.length d1) := (by rw [hwb]; unfold Box7; simp [go_sem])
  have bab : Below wa.heap.size wa wb := b4.trans (bwb.mono s4)
  have BB1 : Hid (Below w1.heap.size w1 wb) := BA1.out.trans (bab.mono (by omega))
  have XB0 : Hid (Bx wb p w2.heap.size w1.heap.size (.slice t0 p.th.length u0) (.slice c0 p.cd.length d0)) := X0.out.on bab
  have XB1 : Hid (Bx wb p w4.heap.size wa.heap.size (.slice t1 p.th.length u1) (.slice c1 p.cd.length d1)) := ⟨Xwb, row_later ot bwb (Nat.le_refl _), row_later oc bwb (Nat.le_refl _)⟩
  clear ot oc b4 hwb bwb Xwb bab X0 BA1 Hwa
  go_upto_region 8 with fail
  rw [← Hwb.out]
  obtain ⟨x0, x1, x2, x3, x4, x5, x6⟩ := XB0.out.bx
  obtain ⟨y0, y1, y2, y3, y4, y5, y6⟩ := XB1.out.bx
  go_wp2_with fail
  refine (samep_any p _ _ _ _ _ _ _ _ wb XB1.out.rt XB0.out.rt XB1.out.rc XB0.out.rc).mono ?_
  rintro e w5 ⟨rfl, b5⟩
  have s5 := b5.size
  have B5 : Hid (Below w1.heap.size w1 w5) := BB1.out.trans (b5.mono (by omega))
  have X50 : Hid (Bx w5 p w2.heap.size w1.heap.size (.slice t0 p.th.length u0) (.slice c0 p.cd.length d0)) := XB0.out.on b5
  have X51 : Hid (Bx w5 p w4.heap.size wa.heap.size (.slice t1 p.th.length u1) (.slice c1 p.cd.length d1)) := XB1.out.on b5
  have BW5 : Hid (Below w.heap.size w w5) := B1.out.trans (B5.out.mono s1)
  clear b5 x0 x1 x2 x3 x4 x5 x6 y0 y1 y2 y3 y4 y5 y6 XB0 XB1 BB1 Hwb
  by_cases hc0 : c = 0
  case neg =>
    have hne : (c != 0) = true := by simpa using hc0
    go_wp2_with fail
    go_ret
    exact ⟨rfl, BW5.out⟩
  subst hc0
  obtain ⟨r, ex, cd, hg, hpe⟩ := Res.good HP.out
  have HG : Hid (Good L b dec r ex cd) := hg
  have HPE : Hid (p = ⟨L.length, dec, r, (ex : Nat), b, if (rl L).length < L.length then ths L else [], cd⟩) := hpe
  obtain ⟨BK, hBK⟩ : ∃ BK, BK = L.map (bk dec r ex) := ⟨_, rfl⟩
  have HBK : Hid (BK = L.map (bk dec r ex)) := hBK
  have HUP : Hid (ups p = BK) := (by show _ = _; rw [hpe, hBK]; exact hg.ups)
  have HOK : Hid (okI p = true) := (by show _ = _; rw [hpe]; exact hg.ok)
  have HBY : Hid (byts p.th) := (by
    show byts _
    rw [hpe]
    show byts (if (rl L).length < L.length then ths L else [])
    split
    · exact ths_byts L
    · intro y hy; cases hy)
  have HEX : Hid (p.exp = (ex : Int) ∧ ex ≤ 41) := (by show _ ∧ _; rw [hpe]; exact ⟨rfl, hg.rng.2.2.1⟩)
  have hln := res_len HP.out
  have UP : Hid (Calls Try.prog 16 #[pkv p (.slice t1 p.th.length u1) (.slice c1 p.cd.length d1)] w5 fun e w' => ∃ v, e = .returned (.tuple #[v, .bool true]) ∧ w'.ownsRow w5.heap.size 40 1 v n (flts BK) ∧ Below w5.heap.size w5 w') := (by
    have h := iup_any p _ _ w5 (Bytes.reads_row X51.out.rt) (Lists.reads_row X51.out.rc) HBY.out (by omega) (by omega)
    rw [HOK.out, HUP.out] at h
    have hl : BK.length = n := by rw [hBK, List.length_map]; exact HN.out.symm
    rw [hl] at h
    exact h)
  clear hg hpe hBK hcc hln IP
  obtain ⟨y0, y1, y2, y3, y4, y5, y6⟩ := X51.out.bx
  unfold pkv at UP
  go_wp2_with fail
  refine UP.out.mono ?_
  rintro e w6 ⟨bv, rfl, ob, b6⟩
  have s6 := b6.size
  obtain ⟨ba, bc, eb⟩ : ∃ a c, bv = .slice a n c := row_form ob
  subst eb
  have OB : Hid (w6.ownsRow w5.heap.size 40 1 (.slice ba n bc) n (flts BK)) := ob
  have B6 : Hid (Below w1.heap.size w1 w6) := B5.out.trans (b6.mono (by omega))
  have X60 : Hid (Bx w6 p w2.heap.size w1.heap.size (.slice t0 p.th.length u0) (.slice c0 p.cd.length d0)) := X50.out.on b6
  have X61 : Hid (Bx w6 p w4.heap.size wa.heap.size (.slice t1 p.th.length u1) (.slice c1 p.cd.length d1)) := X51.out.on b6
  clear y0 y1 y2 y3 y4 y5 y6 b6 ob X50 X51 B5 UP
  go_wp2_with fail
  have HBL : Hid (BK.length = n) := (by show _ = _; rw [HBK.out, List.length_map]; exact HN.out.symm)
  have HBX : Hid (0 < n → ∃ bg, ba = some ⟨bg, 0, none⟩ ∧ bg < w6.heap.size ∧ n ≤ bc ∧ bc ≤ maxLen ∧ ∀ i, i < n → w6.cell? ⟨bg, 0 + i, none⟩ = some (.float .f64 (BK.getD i 0))) := fun hp => (by
    have h := OB.out
    have hl := HBL.out
    rw [← hl] at h
    rcases Fls.row_cases h with ⟨h1, _⟩ | ⟨g, c, h1, h2, h3, h4, h5⟩
    · rw [h1] at hl; simp at hl; omega
    · rw [h1] at h
      simp at h1
      refine ⟨g, h1.1, h3, by omega, by rw [h1.2]; exact h5, fun i hi => ?_⟩
      rw [Nat.zero_add]
      exact Fls.row_cell h i (by omega))
  go_loopw [12] (fun i wr => ∃ k : Nat, k ≤ n ∧ i = .int .i64 k ∧ Hid (Below w6.heap.size w6 wr)) (fun i _ => n - (intOf i).toNat)
  case atStart => exact ⟨0, Nat.zero_le _, rfl, Below.refl _ _⟩
  case round =>
    obtain ⟨k, hk, rfl, BR⟩ := hrel
    by_cases hlt : k < n
    · obtain ⟨hx, hbb⟩ := HX.out (by omega)
      obtain ⟨bg, hba, hbg, hbc, hbm, HBC⟩ := HBX.out (by omega)
      obtain ⟨hcp, hcm⟩ := CP.out (by omega)
      subst hx hba
      have sr := BR.out.size
      have s16 := B6.out.size
      have BV : Below w1.heap.size w1 wr := B6.out.trans (BR.out.mono s16)
      have qx := (BV.cell (p := ⟨bb, o + k, none⟩) hbb).trans (HC.out k hlt)
      have qy := (BR.out.cell (p := ⟨bg, 0 + k, none⟩) hbg).trans (HBC k hlt)
      rw [Nat.zero_add] at qy
      have hxm : L.getD k 0 ∈ L := fmem L k (by rw [← HN.out]; exact hlt)
      have hyx : BK.getD k 0 = bk dec r ex (L.getD k 0) := by
        rw [HBK.out]
        have : k < L.length := by rw [← HN.out]; exact hlt
        simp [List.getD_eq_getElem?_getD, this]
      have hnn := (HG.out.bk _ hxm).1
      have R1 : Hid (∀ wz, Below w1.heap.size w1 wz → ∀ q, q = cap - k → Fls.Reads wz (.slice (some ⟨bb, o + k, none⟩) 1 q) [L.getD k 0]) := fun wz hz q hq => reads_one (Nat.lt_of_lt_of_le hbb hz.size) hlt hcp hcm (fun j hj => (hz.cell (p := ⟨bb, o + j, none⟩) hbb).trans (HC.out j hj)) q hq
      have R2 : Hid (∀ wz, Below w6.heap.size w6 wz → ∀ q, q = bc - k → Fls.Reads wz (.slice (some ⟨bg, k, none⟩) 1 q) [BK.getD k 0]) := fun wz hz q hq => (by
        have := reads_one (w := wz) (b := bg) (o := 0) (L := BK) (Nat.lt_of_lt_of_le hbg hz.size) hlt hbc hbm (fun j hj => (hz.cell (p := ⟨bg, 0 + j, none⟩) hbg).trans (HBC j hj)) q hq
        rw [Nat.zero_add] at this
        exact this)
      have ONE : Hid (nan (L.getD k 0) = false → ∀ pa pb, Res [L.getD k 0] 24 dec pa 0 → Res [BK.getD k 0] 24 dec pb 0 → 2 * ((pa.ref - pb.ref).natAbs : Int) ≤ 2 ^ ex ∧ (pa.ref - pb.ref).natAbs ≤ 8000000000000) := fun h pa pb ha hb => (by rw [hyx] at hb; exact HG.out.one _ hxm h pa pb ha hb)
      rw [← hyx] at hnn
      clear hxm hyx HBC
      generalize L.getD k 0 = xx at *
      generalize BK.getD k 0 = yy at *
      have o1 := ord_eq xx
      have o2 := ord_eq yy
      have n1 := self_ne xx
      have n2 := self_ne yy
      rw [hnn] at o2 n2
      have j0 : (0 : Int) ≤ (k : Int) := by omega
      have j1 : (k : Int) < (n : Int) := by omega
      clear hnn
      cases hnx : nan xx
      · rw [hnx] at o1 o2 n1 n2
        have NX : Hid (nan xx = false) := hnx
        clear hnx
        go_wp2_with fail
        go_quiet (fail)
        have BQ : Hid (Below w6.heap.size w6 (wr.drewN nq)) := below_drewN BR.out nq
        have qy2 : (wr.drewN nq).cell? ⟨bg, k, none⟩ = some (.float .f64 yy) := qy
        clear BR qy qx BV
        generalize wr.drewN nq = wa1 at *
        go_wp2_with fail
        go_quiet (fail)
        have BQ2 : Hid (Below w6.heap.size w6 (wa1.drewN nq)) := below_drewN BQ.out nq
        clear BQ qy2
        generalize wa1.drewN nq = wa2 at *
        go_wp2_with fail
        refine (spack_any _ [xx] 24 dec wa2 (R1.out wa2 (B6.out.trans (BQ2.out.mono s16)) _ rfl)).mono ?_
        rintro e w7 ⟨pa, tv, cv, ca, hra, rfl, ot, oc, b7⟩
        obtain ⟨t2, u2', et⟩ : ∃ a c, tv = .slice a pa.th.length c := row_form ot
        obtain ⟨c2, d2, ec⟩ : ∃ a c, cv = .slice a pa.cd.length c := row_form oc
        subst et ec
        have HRA : Hid (Res [xx] 24 dec pa ca) := hra
        have s26 := BQ2.out.size
        have s7 := b7.size
        obtain ⟨wc, hwc⟩ : ∃ wc, wc = w7.alloc (.cells #[.int .i64 pa.cnt, .int .i64 pa.dec, .int .i64 pa.ref, .int .i64 pa.exp, .int .i64 pa.bits, .slice t2 pa.th.length u2', .slice c2 pa.cd.length d2] 26) := ⟨_, rfl⟩
        have Hwc : Hid (wc = w7.alloc (.cells #[.int .i64 pa.cnt, .int .i64 pa.dec, .int .i64 pa.ref, .int .i64 pa.exp, .int .i64 pa.bits, .slice t2 pa.th.length u2', .slice c2 pa.cd.length d2] 26)) := hwc
        have bwc : Below w7.heap.size w7 wc := (by rw [hwc]; exact (Below.refl _ _).alloc (Nat.le_refl _) _)
        have zwc : w7.heap.size < wc.heap.size := (by rw [hwc]; simp)
        have Xwc : Box7 wc w7.heap.size (.int .i64 pa.cnt) (.int .i64 pa.dec) (.int .i64 pa.ref) (.int .i64 pa.exp) (.int .i64 pa.bits) (.slice t2 pa.th.length u2') (.slice c2 pa.cd.length d2) := (by rw [hwc]; unfold Box7; simp [go_sem])
        have BC : Hid (Below w6.heap.size w6 wc) := BQ2.out.trans ((b7.trans (bwc.mono s7)).mono s26)
        have XC : Hid (Box7 wc w7.heap.size (.int .i64 pa.cnt) (.int .i64 pa.dec) (.int .i64 pa.ref) (.int .i64 pa.exp) (.int .i64 pa.bits) (.slice t2 pa.th.length u2') (.slice c2 pa.cd.length d2)) := Xwc
        clear ot oc b7 hwc bwc Xwc hra BQ2
        unfold pkv
        go_upto_region 22 with fail
        rw [← Hwc.out]
        go_wp2_with fail
        refine (spack_any _ [yy] 24 dec wc (R2.out wc BC.out _ rfl)).mono ?_
        rintro e w8 ⟨pb, tv, cv, cb, hrb, rfl, ot, oc, b8⟩
        obtain ⟨t3, u3, et⟩ : ∃ a c, tv = .slice a pb.th.length c := row_form ot
        obtain ⟨c3, d3, ec⟩ : ∃ a c, cv = .slice a pb.cd.length c := row_form oc
        subst et ec
        have HRB : Hid (Res [yy] 24 dec pb cb) := hrb
        have s8 := b8.size
        have sc := BC.out.size
        obtain ⟨wd, hwd⟩ : ∃ wd, wd = w8.alloc (.cells #[.int .i64 pb.cnt, .int .i64 pb.dec, .int .i64 pb.ref, .int .i64 pb.exp, .int .i64 pb.bits, .slice t3 pb.th.length u3, .slice c3 pb.cd.length d3] 26) := ⟨_, rfl⟩
        have Hwd : Hid (wd = w8.alloc (.cells #[.int .i64 pb.cnt, .int .i64 pb.dec, .int .i64 pb.ref, .int .i64 pb.exp, .int .i64 pb.bits, .slice t3 pb.th.length u3, .slice c3 pb.cd.length d3] 26)) := hwd
        have bwd : Below w8.heap.size w8 wd := (by rw [hwd]; exact (Below.refl _ _).alloc (Nat.le_refl _) _)
        have zwd : w8.heap.size < wd.heap.size := (by rw [hwd]; simp)
        have Xwd : Box7 wd w8.heap.size (.int .i64 pb.cnt) (.int .i64 pb.dec) (.int .i64 pb.ref) (.int .i64 pb.exp) (.int .i64 pb.bits) (.slice t3 pb.th.length u3) (.slice c3 pb.cd.length d3) := (by rw [hwd]; unfold Box7; simp [go_sem])
        have bcd : Below wc.heap.size wc wd := b8.trans (bwd.mono s8)
        have BD : Hid (Below w6.heap.size w6 wd) := BC.out.trans (bcd.mono sc)
        have XD1 : Hid (Box7 wd w7.heap.size (.int .i64 pa.cnt) (.int .i64 pa.dec) (.int .i64 pa.ref) (.int .i64 pa.exp) (.int .i64 pa.bits) (.slice t2 pa.th.length u2') (.slice c2 pa.cd.length d2)) := XC.out.on bcd (by omega)
        have XD2 : Hid (Box7 wd w8.heap.size (.int .i64 pb.cnt) (.int .i64 pb.dec) (.int .i64 pb.ref) (.int .i64 pb.exp) (.int .i64 pb.bits) (.slice t3 pb.th.length u3) (.slice c3 pb.cd.length d3)) := Xwd
        have XD0 : Hid (wd.cell? ⟨w2.heap.size, 3, none⟩ = some (.int .i64 p.exp)) := (BD.out.cell (p := ⟨w2.heap.size, 3, none⟩) X60.out.lt).trans X60.out.bx.2.2.2.1
        clear ot oc b8 hwd bwd Xwd hrb BC bcd XC
        unfold pkv
        go_upto_region 23 with fail
        rw [← Hwd.out]
        clear Hwd Hwc
        by_cases ha : ca = 0
        · by_cases hb : cb = 0
          · subst ha hb
            obtain ⟨g1, g2⟩ := ONE.out NX.out pa pb HRA.out HRB.out
            have r1 := XD1.out.2.2.1
            have r2 := XD2.out.2.2.1
            have r3 := XD0.out
            obtain ⟨he1, he2⟩ := HEX.out
            rw [he1] at r3
            obtain ⟨df, ed, g3, g4⟩ := leafA _ _ ex g1 g2
            obtain ⟨d0, em, ep, ep', ng, ng2, esh⟩ := leafB df ex g3 g4 he2
            have CA : Hid (∀ w, Calls Try.prog 17 #[.int .i64 df] w fun e w' => e = .returned (.int .i64 (df.natAbs : Int)) ∧ w' = w) := fun w => abs_any df w d0
            clear g1 g2 g3 g4 d0 he1 he2 NX ONE
            generalize (df.natAbs : Int) = ab at CA em ng ng2
            go_quiet ((go_at_call 17; exact Calls.quiet_of_same (CA.out _)))
            have BE : Hid (Below w6.heap.size w6 (wd.drewN nq)) := below_drewN BD.out nq
            clear BD XD0 XD1 XD2 r1 r2 r3
            generalize wd.drewN nq = we at *
            go_wp2_with fail
            go_roundw
            case rel => exact ⟨k + 1, by omega, by go_num, BE⟩
            case measure => simp [intOf]; omega
          · have ha0 : (ca == 0) = true := by simpa using ha
            have hb0 : (cb == 0) = false := by simpa using hb
            go_quiet (fail)
            have BE : Hid (Below w6.heap.size w6 (wd.drewN nq)) := below_drewN BD.out nq
            clear BD XD0 XD1 XD2
            generalize wd.drewN nq = we at *
            go_wp2_with fail
            go_roundw
            case rel => exact ⟨k + 1, by omega, by go_num, BE⟩
            case measure => simp [intOf]; omega
        · have ha0 : (ca == 0) = false := by simpa using ha
          go_quiet (fail)
          have BE : Hid (Below w6.heap.size w6 (wd.drewN nq)) := below_drewN BD.out nq
          clear BD XD0 XD1 XD2
          generalize wd.drewN nq = we at *
          go_wp2_with fail
          go_roundw
          case rel => exact ⟨k + 1, by omega, by go_num, BE⟩
          case measure => simp [intOf]; omega
      · rw [hnx] at o1 o2 n1 n2
        clear hnx
        go_wp2_with fail
        go_quiet (fail)
        have BQ : Hid (Below w6.heap.size w6 (wr.drewN nq)) := below_drewN BR.out nq
        have qy2 : (wr.drewN nq).cell? ⟨bg, k, none⟩ = some (.float .f64 yy) := qy
        clear BR qy qx BV
        generalize wr.drewN nq = wa1 at *
        go_wp2_with fail
        go_quiet (fail)
        have BQ2 : Hid (Below w6.heap.size w6 (wa1.drewN nq)) := below_drewN BQ.out nq
        clear BQ qy2
        generalize wa1.drewN nq = wa2 at *
        go_wp2_with fail
        go_roundw
        case rel => exact ⟨k + 1, by omega, by go_num, BQ2⟩
        case measure => simp [intOf]; omega
    · skip
      have hkn : k = n := by omega
      subst hkn
      have s16 := B6.out.size
      have sr := BR.out.size
      have RB0 : Hid (∀ wz, Below wr.heap.size wr wz → Fls.Reads wz (.slice ba k bc) BK) := fun wz hz => (Fls.reads_row (by rw [HBL.out]; exact row_later OB.out (BR.out.trans (hz.mono sr)) (Nat.le_refl _)))
      have XE : Hid (Bx wr p w4.heap.size wa.heap.size (.slice t1 p.th.length u1) (.slice c1 p.cd.length d1)) := X61.out.on BR.out
      have BWR : Hid (Below w.heap.size w wr) := B1.out.trans ((B6.out.trans (BR.out.mono s16)).mono s1)
      clear BR OB X60 X61
      go_wp2_with fail
      refine (spack_any _ BK b dec wr (RB0.out wr (Below.refl _ _))).mono ?_
      rintro e w7 ⟨p2, tv, cv, cc, hr2, rfl, ot, oc, b7⟩
      obtain ⟨t2, u2', et⟩ : ∃ a c, tv = .slice a p2.th.length c := row_form ot
      obtain ⟨c2, d2, ec⟩ : ∃ a c, cv = .slice a p2.cd.length c := row_form oc
      subst et ec
      have HR2 : Hid (Res BK b dec p2 cc) := hr2
      have s7 := b7.size
      obtain ⟨wc, hwc⟩ : ∃ wc, wc = w7.alloc (.cells #[.int .i64 p2.cnt, .int .i64 p2.dec, .int .i64 p2.ref, .int .i64 p2.exp, .int .i64 p2.bits, .slice t2 p2.th.length u2', .slice c2 p2.cd.length d2] 26) := ⟨_, rfl⟩
      have Hwc : Hid (wc = w7.alloc (.cells #[.int .i64 p2.cnt, .int .i64 p2.dec, .int .i64 p2.ref, .int .i64 p2.exp, .int .i64 p2.bits, .slice t2 p2.th.length u2', .slice c2 p2.cd.length d2] 26)) := hwc
      have bwc : Below w7.heap.size w7 wc := (by rw [hwc]; exact (Below.refl _ _).alloc (Nat.le_refl _) _)
      have zwc : w7.heap.size < wc.heap.size := (by rw [hwc]; simp)
      have Xwc : Box7 wc w7.heap.size (.int .i64 p2.cnt) (.int .i64 p2.dec) (.int .i64 p2.ref) (.int .i64 p2.exp) (.int .i64 p2.bits) (.slice t2 p2.th.length u2') (.slice c2 p2.cd.length d2) := (by rw [hwc]; unfold Box7; simp [go_sem])
      have BC : Hid (Below wr.heap.size wr wc) := b7.trans (bwc.mono s7)
      have XC : Hid (Bx wc p w4.heap.size wa.heap.size (.slice t1 p.th.length u1) (.slice c1 p.cd.length d1)) := XE.out.on BC.out
      have BWC : Hid (Below w.heap.size w wc) := BWR.out.trans (BC.out.mono BWR.out.size)
      clear ot oc b7 hwc bwc Xwc hr2 XE BWR
      unfold pkv
      go_upto_region 26 with fail
      rw [← Hwc.out]
      by_cases hq : cc = 0
      · subst hq
        have HEQ : Hid (p2 = p) := (by
          have h := HR2.out
          rw [HBK.out] at h
          have := HG.out.again h
          show p2 = p
          rw [this, HPE.out])
        have IP2 : Hid (Calls Try.prog 7 #[.slice ba k bc, .int .i64 b, .int .i64 dec] wc fun y w' => ∃ tv cv, y = .returned (.tuple #[pkv p tv cv, .int .i64 0]) ∧ w'.ownsRow wc.heap.size 5 1 tv p.th.length (Bytes.bys p.th) ∧ w'.ownsRow wc.heap.size 2 1 cv p.cd.length (ints p.cd) ∧ Below wc.heap.size wc w') := ((ipack_any _ BK b dec wc (RB0.out wc BC.out)).mono fun y w' ⟨p', tv, cv, c', h1, h2, h3, h4, h5⟩ => by
          obtain ⟨e1, e2⟩ := HR2.out.same h1
          subst e2
          have e3 : p' = p := e1.symm.trans HEQ.out
          subst e3
          exact ⟨tv, cv, h2, h3, h4, h5⟩)
        go_wp2_with fail
        refine IP2.out.mono ?_
        rintro e w8 ⟨tv, cv, rfl, ot, oc, b8⟩
        obtain ⟨t3, u3, et⟩ : ∃ a c, tv = .slice a p.th.length c := row_form ot
        obtain ⟨c3, d3, ec⟩ : ∃ a c, cv = .slice a p.cd.length c := row_form oc
        subst et ec
        have s8 := b8.size
        obtain ⟨wd, hwd⟩ : ∃ wd, wd = w8.alloc (.cells #[.int .i64 p.cnt, .int .i64 p.dec, .int .i64 p.ref, .int .i64 p.exp, .int .i64 p.bits, .slice t3 p.th.length u3, .slice c3 p.cd.length d3] 26) := ⟨_, rfl⟩
        have Hwd : Hid (wd = w8.alloc (.cells #[.int .i64 p.cnt, .int .i64 p.dec, .int .i64 p.ref, .int .i64 p.exp, .int .i64 p.bits, .slice t3 p.th.length u3, .slice c3 p.cd.length d3] 26)) := hwd
        have bwd : Below w8.heap.size w8 wd := (by rw [hwd]; exact (Below.refl _ _).alloc (Nat.le_refl _) _)
        have zwd : w8.heap.size < wd.heap.size := (by rw [hwd]; simp)
        have Xwd : Box7 wd w8.heap.size (.int .i64 p.cnt) (.int .i64 p.dec) (.int .i64 p.ref) (.int .i64 p.exp) (.int .i64 p.bits) (.slice t3 p.th.length u3) (.slice c3 p.cd.length d3) := (by rw [hwd]; unfold Box7; simp [go_sem])
        have bcd : Below wc.heap.size wc wd := b8.trans (bwd.mono s8)
        have XD1 : Hid (Bx wd p w4.heap.size wa.heap.size (.slice t1 p.th.length u1) (.slice c1 p.cd.length d1)) := XC.out.on bcd
        have XD3 : Hid (Bx wd p w8.heap.size wc.heap.size (.slice t3 p.th.length u3) (.slice c3 p.cd.length d3)) := ⟨Xwd, row_later ot bwd (Nat.le_refl _), row_later oc bwd (Nat.le_refl _)⟩
        have BWD : Hid (Below w.heap.size w wd) := BWC.out.trans (bcd.mono BWC.out.size)
        clear ot oc b8 hwd bwd Xwd IP2
        unfold pkv
        go_upto_region 29 with fail
        rw [← Hwd.out]
        obtain ⟨x0, x1, x2, x3, x4, x5, x6⟩ := XD1.out.bx
        obtain ⟨y0, y1, y2, y3, y4, y5, y6⟩ := XD3.out.bx
        go_wp2_with fail
        refine (samep_any p _ _ _ _ _ _ _ _ wd XD3.out.rt XD1.out.rt XD3.out.rc XD1.out.rc).mono ?_
        rintro e w9 ⟨rfl, b9⟩
        have BW9 : Hid (Below w.heap.size w w9) := BWD.out.trans (b9.mono BWD.out.size)
        clear b9 x0 x1 x2 x3 x4 x5 x6 y0 y1 y2 y3 y4 y5 y6
        go_wp2_with fail
        go_ret
        exact ⟨rfl, BW9.out⟩
      · have hne : (cc != 0) = true := by simpa using hq
        go_wp2_with fail
        go_ret
        exact ⟨rfl, BWC.out⟩

end Go.Proofs.Ytgajajpcjbpalaa.Pkd
