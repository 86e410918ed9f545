/- A sky drawn of a code: the walk. -/
import Derived.Test.YtgfcimbhfbgnfaaDr
namespace Go.Proofs.Ytgfcimbhfbgnfaa.Sk
open Go.ChangeShapes Go.WideShapes Go.ChangeAt Go.RowKit
open Go.Proofs.Ytgfcimbhfbgnfaa.Al Go.Proofs.Ytgfcimbhfbgnfaa.Rd

theorem turn_all {r : Nat} {w wx : World} (h : Turn r w wx) (hr : r < w.heap.size) (x0 x1 x2 x3 x4 x5 : Value) : Turn r w ((((((wx.setCell ⟨w.heap.size, 0, none⟩ x0).setCell ⟨w.heap.size, 1, none⟩ x1).setCell ⟨w.heap.size, 2, none⟩ x2).setCell ⟨w.heap.size, 3, none⟩ x3).setCell ⟨w.heap.size, 4, none⟩ x4).setCell ⟨w.heap.size, 5, none⟩ x5) := (((((h.setCell (p := ⟨w.heap.size, 0, none⟩) (Nat.le_refl _) hr _).setCell (p := ⟨w.heap.size, 1, none⟩) (Nat.le_refl _) hr _).setCell (p := ⟨w.heap.size, 2, none⟩) (Nat.le_refl _) hr _).setCell (p := ⟨w.heap.size, 3, none⟩) (Nat.le_refl _) hr _).setCell (p := ⟨w.heap.size, 4, none⟩) (Nat.le_refl _) hr _).setCell (p := ⟨w.heap.size, 5, none⟩) (Nat.le_refl _) hr _
theorem rd_all {r B : Nat} {wx : World} (h : Rd r wx) (hr : r < B) (x0 x1 x2 x3 x4 x5 : Value) : Rd r ((((((wx.setCell ⟨B, 0, none⟩ x0).setCell ⟨B, 1, none⟩ x1).setCell ⟨B, 2, none⟩ x2).setCell ⟨B, 3, none⟩ x3).setCell ⟨B, 4, none⟩ x4).setCell ⟨B, 5, none⟩ x5) := h.kept (below_all (Below.refl (r + 1) wx) (by omega) _ _ _ _ _ _) (by omega)

set_option maxHeartbeats 1000000 in
theorem next_fix (r : Nat) (w : World) (h : Rd r w) : ∃ u : Nat, u ≤ 255 ∧ ∀ m, Calls Try.prog 24 #[.pointer (some ⟨r, 0, none⟩)] (w.drewN m) fun e w' => e = .returned (.int .i64 u) ∧ Rd r w' ∧ Turn r (w.drewN m) w' := by
  have h' := h
  obtain ⟨a, n, cap, p, h1, h2, h3, h4, h5, h6, h7⟩ := h
  by_cases hp : p = n
  · subst hp
    refine ⟨0, by omega, fun m => ?_⟩
    have h8 : (p : Int) ≤ (p : Int) := by omega
    have H7 : Hid (Rd r (w.drewN m)) := h'.drewN m
    have h2' : (w.drewN m).cell? ⟨r, 0, none⟩ = some (.slice a p cap) := h2
    have h3' : (w.drewN m).cell? ⟨r, 1, none⟩ = some (.int .i64 p) := h3
    have h4' : (w.drewN m).frozen? ⟨r, 1, none⟩ = false := h4
    clear h7 h' h5 h6 h1 h2 h3 h4
    generalize w.drewN m = wn at *
    go_enter Try.func24, Try.ntmps24
    go_wp2_with fail
    go_region
    go_wp2_with fail
    go_ret
    exact ⟨rfl, H7.out.kept (Below.refl (r + 1) wn).drew (by omega), ⟨(Below.refl _ _).drew, fun _ _ _ => rfl⟩⟩
  · have hlt : p < n := by omega
    have h7s := h7
    rcases h7 with h7 | ⟨b, o, rfl, q2, q3, q4, q5⟩
    · omega
    · obtain ⟨u, g1, g2⟩ := q5 p hlt
      refine ⟨u, g1, fun m => ?_⟩
      have H7 : Hid (n = 0 ∨ ∃ b' o', (some ⟨b, o, none⟩ : Option Addr) = some ⟨b', o', none⟩ ∧ b' < r ∧ n ≤ cap ∧ cap ≤ maxLen ∧ ∀ i, i < n → ∃ u : Nat, u ≤ 255 ∧ (w.drewN m).cell? ⟨b', o' + i, none⟩ = some (.int .u8 u)) := h7s
      have h1' : r < (w.drewN m).heap.size := h1
      have h2' : (w.drewN m).cell? ⟨r, 0, none⟩ = some (.slice (some ⟨b, o, none⟩) n cap) := h2
      have h3' : (w.drewN m).cell? ⟨r, 1, none⟩ = some (.int .i64 p) := h3
      have h4' : (w.drewN m).frozen? ⟨r, 1, none⟩ = false := h4
      have g2' : (w.drewN m).cell? ⟨b, o + p, none⟩ = some (.int .u8 u) := g2
      have hbr : ¬ (b = r) := by omega
      have hbr2 : ¬ (r = b) := by omega
      have i1 : (p : Int) < (n : Int) := by omega
      have i0 : (0 : Int) ≤ (p : Int) := by omega
      clear q5 h' hp h7s h1 h2 h3 h4 g2
      generalize w.drewN m = wn at *
      go_enter Try.func24, Try.ntmps24
      go_wp2_with fail
      go_region
      go_wp2_with fail
      go_region
      go_wp2_with fail
      go_ret
      have hb : Below r wn ((wn.setCell ⟨r, 1, none⟩ (.int .i64 ((p : Int) + 1))).drew.drew) := ((Below.refl _ _).setCell (p := ⟨r, 1, none⟩) (Nat.le_refl _) _).drew.drew
      refine ⟨rfl, Rd.on (w := wn) (some ⟨b, o, none⟩) n cap (p + 1) (by simpa using h1') (by simpa [go_sem] using h2') (by simp [go_sem, h3']) (by simpa [go_sem] using h4') (by omega) h6 H7.out hb, ⟨hb, fun k h1 h2 => ?_⟩⟩
      exact Below.heap_setCell wn _ _ k (by simp; omega)
set_option maxHeartbeats 1000000 in
theorem once_fix (r : Nat) (w : World) (h : Rd r w) : ∃ u : Bool, ∀ m, Calls Try.prog 12 #[.pointer (some ⟨r, 0, none⟩), .int .i64 2] (w.drewN m) fun e w' => e = .returned (.bool u) ∧ Rd r w' ∧ Turn r (w.drewN m) w' := by
  obtain ⟨u, hu, hc⟩ := next_fix r w h
  have B : ∀ m, Calls Try.prog 22 #[.pointer (some ⟨r, 0, none⟩), .int .i64 2] (w.drewN m) fun e w' => e = .returned (.int .i64 ((u : Int) % 2)) ∧ Rd r w' ∧ Turn r (w.drewN m) w' := fun m => (by
    have C : Hid (Calls Try.prog 24 #[.pointer (some ⟨r, 0, none⟩)] (w.drewN m) fun e w' => e = .returned (.int .i64 u) ∧ Rd r w' ∧ Turn r (w.drewN m) w') := hc m
    clear hc
    generalize w.drewN m = wn at *
    go_enter Try.func22, Try.ntmps22
    go_wp2_with fail
    refine C.out.mono ?_
    rintro e w1 ⟨rfl, k1, k2⟩
    go_wp2_with fail
    go_ret
    exact ⟨rfl, k1, k2⟩)
  refine ⟨((u : Int) % 2 == 1), fun m => ?_⟩
  have C : Hid (Calls Try.prog 22 #[.pointer (some ⟨r, 0, none⟩), .int .i64 2] (w.drewN m) fun e w' => e = .returned (.int .i64 ((u : Int) % 2)) ∧ Rd r w' ∧ Turn r (w.drewN m) w') := B m
  clear B hc
  generalize w.drewN m = wn at *
  generalize (u : Int) % 2 = z at *
  go_enter Try.func12, Try.ntmps12
  go_wp2_with fail
  refine C.out.mono ?_
  rintro e w1 ⟨rfl, k1, k2⟩
  go_wp2_with fail
  go_ret
  exact ⟨rfl, k1, k2⟩

set_option maxRecDepth 20000 in
set_option maxHeartbeats 4000000 in
theorem dsky_any (r : Nat) (full : Bool) (w : World) (h : Rd r w) : Calls Try.prog 11 #[.pointer (some ⟨r, 0, none⟩), .bool full] w fun e w' => (∃ d p v Wt C b, e = .returned (sk d p v Wt C b)) ∧ Rd r w' ∧ Turn r w w' := by
  have U0 : Hid (∀ w, Calls Try.prog 21 #[] w fun e w' => e = .returned (sk (-1) 0 (-1) E E 0) ∧ Below w.heap.size w w') := fun w => sunsaid_any w
  have H : Hid (Rd r w) := h
  clear h
  go_enter Try.func11, Try.ntmps11
  go_wp2_with fail
  refine (U0.out _).mono ?_
  rintro e w1 ⟨rfl, hb⟩
  have S0 : Hid (Some r w1.heap.size w (w1.alloc (.cells #[.int .i64 (-1), .int .i64 0, .int .i64 (-1), .string E, .string E, .int .i64 0] 25))) := ⟨_, _, _, _, _, _, SK.start H.out hb _ _ _ _ _ _⟩
  clear hb H
  go_upto_region 2 with fail
  obtain ⟨s, hs⟩ : ∃ s, s = w1.heap.size := ⟨_, rfl⟩
  rw [← hs] at S0 ⊢
  obtain ⟨wz, hwz⟩ : ∃ wz, wz = w1.alloc (.cells #[.int .i64 (-1), .int .i64 0, .int .i64 (-1), .string E, .string E, .int .i64 0] 25) := ⟨_, rfl⟩
  rw [← hwz] at S0 ⊢
  clear hs hwz
  go_cut [11] (fun q wx => ∃ u : Bool, q = .bool u ∧ Hid (Some r s w wx))
  case first =>
    obtain ⟨d, p, v, Wt, C, b, S⟩ := S0.out
    have SH : Hid (SK r s w d p v Wt C b _) := S
    clear S
    cases full
    · go_wp2_with fail
      refine (once_any r _ SH.out.rd 2 (by omega) (by omega)).mono ?_
      rintro e w2 ⟨⟨u, rfl⟩, ku, tu⟩
      have S2 : Hid (Some r s w w2) := ⟨_, _, _, _, _, _, SH.out.turn tu ku⟩
      clear tu ku SH
      go_wp2_with fail
      go_meet
      exact ⟨u, rfl, S2⟩
    · have S2 : Hid (Some r s w _) := ⟨_, _, _, _, _, _, SH.out⟩
      go_wp2_with fail
      go_meet
      exact ⟨true, rfl, S2⟩
  case rest =>
    obtain ⟨v1, hq⟩ : ∃ q : World, q = wc := ⟨_, rfl⟩
    subst hq
    obtain ⟨u, rfl, X1⟩ := hcut
    clear S0
    go_upto_if 11 with fail
    go_cut [] (fun wx => Hid (Some r s w wx))
    case first =>
      cases u
      · go_wp2_with fail
        go_meet
        exact X1
      · have X := X1
        obtain ⟨d, p, v, Wt, C, b, S⟩ := X.out
        have SH : Hid (SK r s w d p v Wt C b _) := S
        clear S
        go_wp2_with fail
        refine (Go.Proofs.Ytgfcimbhfbgnfaa.Rd.below_all r _ SH.out.rd 36 (by omega) (by omega)).mono ?_
        rintro e w2 ⟨⟨a, ⟨ha1, ha2⟩, rfl⟩, ka, ta⟩
        have S2 : Hid (SK r s w d p v Wt C b w2) := SH.out.turn ta ka
        clear ta ka SH
        go_wp2_with fail
        refine (Go.Proofs.Ytgfcimbhfbgnfaa.Rd.below_all r _ (S2.out.alloc _).rd 3 (by omega) (by omega)).mono ?_
        rintro e w3 ⟨⟨z, ⟨hz1, hz2⟩, rfl⟩, kz, tz⟩
        have S3 : Hid (SK r s w d p v Wt C b w3) := (S2.out.alloc _).turn tz kz
        obtain ⟨q, hq⟩ : ∃ q, w3.cell? ⟨w2.heap.size, z.toNat, none⟩ = some (.int .i64 q) := (by
          obtain ⟨q, hq⟩ := pk3 (1 + a) z hz1 hz2
          exact ⟨q, (tz.cell _ (by simp) (by have := S2.out.rd.lt; omega)).trans (hq w2)⟩)
        have hz3 : z < 3 := hz2
        obtain ⟨c0, c1, c2, c3, c4, c5, f0, f1, f2, f3, f4, f5⟩ := S3.out.cells
        have S4 : Hid (SK r s w q p v Wt C b (w3.setCell ⟨s, 0, none⟩ (.int .i64 q))) := S3.out.s0 q
        clear tz kz S2 hz2
        go_wp2_with fail
        clear c0 c1 c2 c3 c4 c5 f0 f1 f2 f3 f4 f5 S3
        refine (Go.Proofs.Ytgfcimbhfbgnfaa.Rd.below_all r _ S4.out.rd 60 (by omega) (by omega)).mono ?_
        rintro e w5 ⟨⟨y, ⟨hy1, hy2⟩, rfl⟩, ky, ty⟩
        have S5 : Hid (SK r s w q p v Wt C b w5) := S4.out.turn ty ky
        obtain ⟨c0, c1, c2, c3, c4, c5, f0, f1, f2, f3, f4, f5⟩ := S5.out.cells
        have S6 : Hid (SK r s w q (1 + y) v Wt C b (w5.setCell ⟨s, 1, none⟩ (.int .i64 (1 + y)))) := S5.out.s1 _
        have S7 : Hid (SK r s w q 0 v Wt C b ((w5.setCell ⟨s, 1, none⟩ (.int .i64 (1 + y))).setCell ⟨s, 1, none⟩ (.int .i64 0))) := S6.out.s1 _
        clear ty ky S4
        by_cases hq0 : q = 0
        · have hqb : (q == 0) = true := by simpa using hq0
          have SX : Hid (Some r s w _) := ⟨_, _, _, _, _, _, S7.out⟩
          go_wp2_with fail
          go_meet
          exact SX
        · have hqb : (q == 0) = false := by simpa using hq0
          have SX : Hid (Some r s w _) := ⟨_, _, _, _, _, _, S6.out⟩
          go_wp2_with fail
          go_meet
          exact SX
    case rest =>
      obtain ⟨v2, hq⟩ : ∃ q : World, q = wc := ⟨_, rfl⟩
      subst hq
      have X2 : Hid (Some r s w v2) := hcut
      clear hcut X1 u
      go_upto_region 7 with fail
      go_cut [33] (fun q wx => ∃ u : Bool, q = .bool u ∧ Hid (Some r s w wx))
      case first =>
        obtain ⟨d, p, v, Wt, C, b, S⟩ := X2.out
        have SH : Hid (SK r s w d p v Wt C b _) := S
        clear S
        cases full
        · go_wp2_with fail
          refine (once_any r _ SH.out.rd 2 (by omega) (by omega)).mono ?_
          rintro e w2 ⟨⟨u, rfl⟩, ku, tu⟩
          have S2 : Hid (Some r s w w2) := ⟨_, _, _, _, _, _, SH.out.turn tu ku⟩
          clear tu ku SH
          go_wp2_with fail
          go_meet
          exact ⟨u, rfl, S2⟩
        · have S2 : Hid (Some r s w _) := ⟨_, _, _, _, _, _, SH.out⟩
          go_wp2_with fail
          go_meet
          exact ⟨true, rfl, S2⟩
      case rest =>
        obtain ⟨v3, hq⟩ : ∃ q : World, q = wc := ⟨_, rfl⟩
        subst hq
        obtain ⟨u, rfl, X3⟩ := hcut
        clear X2
        go_upto_if 33 with fail
        go_cut [] (fun wx => Hid (Some r s w wx))
        case first =>
          cases u
          · go_wp2_with fail
            go_meet
            exact X3
          · have X := X3
            obtain ⟨d, p, v, Wt, C, b, S⟩ := X.out
            have SH : Hid (SK r s w d p v Wt C b _) := S
            clear S
            go_wp2_with fail
            refine (Go.Proofs.Ytgfcimbhfbgnfaa.Rd.below_all r _ SH.out.rd 100 (by omega) (by omega)).mono ?_
            rintro e w2 ⟨⟨a, ⟨ha1, ha2⟩, rfl⟩, ka, ta⟩
            have S2 : Hid (SK r s w d p v Wt C b w2) := SH.out.turn ta ka
            clear ta ka SH
            obtain ⟨c0, c1, c2, c3, c4, c5, f0, f1, f2, f3, f4, f5⟩ := S2.out.cells
            have S3 : Hid (SK r s w d p (a * 100) Wt C b (w2.setCell ⟨s, 2, none⟩ (.int .i64 (a * 100)))) := S2.out.s2 _
            have j1 : IntKind.i64.wrap (a * 100) = a * 100 := IntWalk.i64_in _ (by omega)
            go_wp2_with fail
            clear c0 c1 c2 c3 c4 c5 f0 f1 f2 f3 f4 f5
            refine (once_any r _ S3.out.rd 3 (by omega) (by omega)).mono ?_
            rintro e w3 ⟨⟨u, rfl⟩, ku, tu⟩
            have S4 : Hid (SK r s w d p (a * 100) Wt C b w3) := S3.out.turn tu ku
            obtain ⟨c0, c1, c2, c3, c4, c5, f0, f1, f2, f3, f4, f5⟩ := S4.out.cells
            have S5 : Hid (SK r s w d p 9999 Wt C b (w3.setCell ⟨s, 2, none⟩ (.int .i64 9999))) := S4.out.s2 _
            clear tu ku S3 S2
            cases u
            · have SX : Hid (Some r s w _) := ⟨_, _, _, _, _, _, S4.out⟩
              go_wp2_with fail
              go_meet
              exact SX
            · have SX : Hid (Some r s w _) := ⟨_, _, _, _, _, _, S5.out⟩
              go_wp2_with fail
              go_meet
              exact SX
        case rest =>
          obtain ⟨v4, hq⟩ : ∃ q : World, q = wc := ⟨_, rfl⟩
          subst hq
          have X4 : Hid (Some r s w v4) := hcut
          clear hcut X3 u
          go_upto_region 11 with fail
          go_cut [45] (fun q wx => ∃ u : Bool, q = .bool u ∧ Hid (Some r s w wx))
          case first =>
            obtain ⟨d, p, v, Wt, C, b, S⟩ := X4.out
            have SH : Hid (SK r s w d p v Wt C b _) := S
            clear S
            cases full
            · go_wp2_with fail
              refine (once_any r _ SH.out.rd 2 (by omega) (by omega)).mono ?_
              rintro e w2 ⟨⟨u, rfl⟩, ku, tu⟩
              have S2 : Hid (Some r s w w2) := ⟨_, _, _, _, _, _, SH.out.turn tu ku⟩
              clear tu ku SH
              go_wp2_with fail
              go_meet
              exact ⟨u, rfl, S2⟩
            · have S2 : Hid (Some r s w _) := ⟨_, _, _, _, _, _, SH.out⟩
              go_wp2_with fail
              go_meet
              exact ⟨true, rfl, S2⟩
          case rest =>
            obtain ⟨v5, hq⟩ : ∃ q : World, q = wc := ⟨_, rfl⟩
            subst hq
            obtain ⟨u, rfl, X5⟩ := hcut
            clear X4
            go_upto_if 45 with fail
            go_cut [] (fun wx => Hid (Some r s w wx))
            case first =>
              cases u
              · go_wp2_with fail
                go_meet
                exact X5
              · have X := X5
                obtain ⟨d, p, v, Wt, C, b, S⟩ := X.out
                have SH : Hid (SK r s w d p v Wt C b v5) := S
                clear S
                go_wp2_with fail
                refine (Go.Proofs.Ytgfcimbhfbgnfaa.Rd.below_all r _ (SH.out.alloc _).rd 10 (by omega) (by omega)).mono ?_
                rintro e w2 ⟨⟨z, ⟨hz1, hz2⟩, rfl⟩, kz, tz⟩
                have S2 : Hid (SK r s w d p v Wt C b w2) := (SH.out.alloc _).turn tz kz
                obtain ⟨q, hq⟩ : ∃ q, w2.cell? ⟨v5.heap.size, z.toNat, none⟩ = some (.string q) := (by
                  obtain ⟨q, hq⟩ := pkW z hz1 hz2
                  exact ⟨q, (tz.cell _ (by simp) (by have := SH.out.rd.lt; omega)).trans (hq v5)⟩)
                have hz3 : z < 10 := hz2
                obtain ⟨c0, c1, c2, c3, c4, c5, f0, f1, f2, f3, f4, f5⟩ := S2.out.cells
                have SX : Hid (Some r s w (w2.setCell ⟨s, 3, none⟩ (.string q))) := ⟨_, _, _, _, _, _, S2.out.s3 q⟩
                clear tz kz SH hz2
                go_wp2_with fail
                go_meet
                exact SX
            case rest =>
              obtain ⟨v6, hq⟩ : ∃ q : World, q = wc := ⟨_, rfl⟩
              subst hq
              have X6 : Hid (Some r s w v6) := hcut
              clear hcut X5 u
              go_upto_region 13 with fail
              go_cut [61] (fun q wx => ∃ u : Bool, q = .bool u ∧ Hid (Some r s w wx))
              case first =>
                obtain ⟨d, p, v, Wt, C, b, S⟩ := X6.out
                have SH : Hid (SK r s w d p v Wt C b v6) := S
                clear S
                cases full
                · have SD : Hid (∀ n, Rd r (v6.drewN n)) := fun n => SH.out.rd.drewN n
                  obtain ⟨c0, c1, c2, c3, c4, c5, _⟩ := SH.out.cells
                  have EQ := eqlU d p v Wt C b (-1) 0 (-1) E E 0
                  have GU := guard25
                  generalize sm d p v Wt C b (-1) 0 (-1) E E 0 = bb at *
                  obtain ⟨uu, huu⟩ := once_fix r v6 SH.out.rd
                  have OF : Hid (∀ m, Calls Try.prog 12 #[.pointer (some ⟨r, 0, none⟩), .int .i64 2] (v6.drewN m) fun e w' => e = .returned (.bool uu) ∧ Rd r w' ∧ Turn r (v6.drewN m) w') := huu
                  clear huu
                  cases uu
                  · go_region_with (first | (go_at_call 12; refine (OF.out _).mono ?_; rintro e w2 ⟨rfl, ku, tu⟩; have S2 : Hid (SK r s w d p v Wt C b w2) := (SH.out.drewN _).turn tu ku; clear ku tu c0 c1 c2 c3 c4 c5; obtain ⟨c0, c1, c2, c3, c4, c5, _⟩ := S2.out.cells) | (go_at_call 21; refine (U0.out _).mono ?_; rintro e w3 ⟨rfl, hb⟩; have S3 : Hid (SK r s w d p v Wt C b w3) := S2.out.on hb; clear hb c0 c1 c2 c3 c4 c5; obtain ⟨c0, c1, c2, c3, c4, c5, _⟩ := S3.out.cells))
                    all_goals
                      have SX : Hid (Some r s w w3) := ⟨_, _, _, _, _, _, S3.out⟩
                      go_wp2_with fail
                      go_meet
                      exact ⟨bb, rfl, SX⟩
                  · go_region_with (go_at_call 12; refine (OF.out _).mono ?_; rintro e w2 ⟨rfl, ku, tu⟩; have S2 : Hid (SK r s w d p v Wt C b w2) := (SH.out.drewN _).turn tu ku; clear ku tu)
                    all_goals
                      have SX : Hid (Some r s w w2) := ⟨_, _, _, _, _, _, S2.out⟩
                      go_wp2_with fail
                      go_meet
                      exact ⟨true, rfl, SX⟩
                · have S2 : Hid (∀ n, Some r s w (v6.drewN n)) := fun n => ⟨_, _, _, _, _, _, SH.out.drewN n⟩
                  go_quiet (fail)
                  go_wp2_with fail
                  go_meet
                  exact ⟨true, rfl, S2.out _⟩
              case rest =>
                obtain ⟨v7, hq⟩ : ∃ q : World, q = wc := ⟨_, rfl⟩
                subst hq
                obtain ⟨u, rfl, X7⟩ := hcut
                clear X6
                go_upto_if 61 with fail
                go_cut [] (fun wx => Hid (Some r s w wx))
                case first =>
                  cases u
                  · go_wp2_with fail
                    go_meet
                    exact X7
                  · have X := X7
                    obtain ⟨d, p, v, Wt, C, b, S⟩ := X.out
                    have SH : Hid (SK r s w d p v Wt C b v7) := S
                    clear S
                    go_wp2_with fail
                    refine (Go.Proofs.Ytgfcimbhfbgnfaa.Rd.below_all r _ (SH.out.alloc _).rd 5 (by omega) (by omega)).mono ?_
                    rintro e w2 ⟨⟨z, ⟨hz1, hz2⟩, rfl⟩, kz, tz⟩
                    have S2 : Hid (SK r s w d p v Wt C b w2) := (SH.out.alloc _).turn tz kz
                    obtain ⟨q, hq⟩ : ∃ q, w2.cell? ⟨v7.heap.size, z.toNat, none⟩ = some (.string q) := (by
                      obtain ⟨q, hq⟩ := pkC z hz1 hz2
                      exact ⟨q, (tz.cell _ (by simp) (by have := SH.out.rd.lt; omega)).trans (hq v7)⟩)
                    have hz3 : z < 5 := hz2
                    obtain ⟨c0, c1, c2, c3, c4, c5, f0, f1, f2, f3, f4, f5⟩ := S2.out.cells
                    have S3 : Hid (SK r s w d p v Wt q b (w2.setCell ⟨s, 4, none⟩ (.string q))) := S2.out.s4 q
                    clear tz kz SH hz2
                    cases hb : (q.toList == [83, 75, 67])
                    · have hb2 : (q.toList != [83, 75, 67]) = true := by show (!(q.toList == [83, 75, 67])) = _; rw [hb]; rfl
                      go_wp2_with fail
                      refine (Go.Proofs.Ytgfcimbhfbgnfaa.Rd.below_all r _ S3.out.rd 200 (by omega) (by omega)).mono ?_
                      rintro e w5 ⟨⟨y, ⟨hy1, hy2⟩, rfl⟩, ky, ty⟩
                      have S5 : Hid (SK r s w d p v Wt q b w5) := S3.out.turn ty ky
                      clear c0 c1 c2 c3 c4 c5 f0 f1 f2 f3 f4 f5
                      obtain ⟨c0, c1, c2, c3, c4, c5, f0, f1, f2, f3, f4, f5⟩ := S5.out.cells
                      have SX : Hid (Some r s w (w5.setCell ⟨s, 5, none⟩ (.int .i64 (1 + y)))) := ⟨_, _, _, _, _, _, S5.out.s5 _⟩
                      clear ty ky
                      go_wp2_with fail
                      go_meet
                      exact SX
                    · have hb2 : (q.toList != [83, 75, 67]) = false := by show (!(q.toList == [83, 75, 67])) = _; rw [hb]; rfl
                      have SX : Hid (Some r s w (w2.setCell ⟨s, 4, none⟩ (.string q))) := ⟨_, _, _, _, _, _, S3.out⟩
                      go_wp2_with fail
                      go_meet
                      exact SX
                case rest =>
                  obtain ⟨v8, hq⟩ : ∃ q : World, q = wc := ⟨_, rfl⟩
                  subst hq
                  obtain ⟨d, p, v, Wt, C, b, S⟩ := hcut.out
                  have SH : Hid (SK r s w d p v Wt C b v8) := S
                  clear S hcut X7 u
                  obtain ⟨c0, c1, c2, c3, c4, c5, _⟩ := SH.out.cells
                  obtain ⟨r0, r1, r2, r3, r4, r5, r6⟩ := SH.out.an.cells
                  have f0 := r6 0
                  have f1 := r6 1
                  have f2 := r6 2
                  have f3 := r6 3
                  have f4 := r6 4
                  have f5 := r6 5
                  clear r6
                  go_wp2_with fail
                  exact bodyPost_ret (v := sk d p v Wt C b) (results_cell_row Try.results11 _ _ w.heap.size 25 _ (0, 0) _ rfl (SH.out.an.all d p v Wt C b) Try.underlying25 rfl size26) rfl ⟨⟨_, _, _, _, _, _, rfl⟩, rd_all SH.out.rd SH.out.lt _ _ _ _ _ _, turn_all SH.out.tn SH.out.lt _ _ _ _ _ _⟩
end Go.Proofs.Ytgfcimbhfbgnfaa.Sk
