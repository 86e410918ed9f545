/- The model's Wave. -/
import Derived.Test.YtpokbicnogcijaaWvS
namespace Go.Proofs.Ytpokbicnogcijaa.Lists
open Go.ChangeShapes Go.WideShapes Go.ChangeAt Go.RowKit

theorem row_low {w : World} {base base' n : Nat} {v : Value} {xs : List Value} (h : w.ownsRow base 2 1 v n xs) (hb : base' ≤ base) : w.ownsRow base' 2 1 v n xs := by
  refine ⟨h.1, ?_⟩
  rcases h.2 with h | ⟨g, cap, cur, h1, h2, h3⟩
  · exact .inl h
  · exact .inr ⟨g, cap, cur, h1, Nat.le_trans hb h2, h3⟩
theorem ints_from {w : World} {g o : Nat} {X : List Int} (K : ∀ i, i < X.length → w.cell? ⟨g, o + i, none⟩ = some (.int .i64 (X.getD i 0))) : ∀ j u, (ints X)[j]? = some u → w.cell? ((⟨g, o, none⟩ : Addr).add j) = some u := by
  intro j u hj
  have hl : j < X.length := by
    have := (List.getElem?_eq_some_iff.1 hj).1
    simpa [ints] using this
  have e : (⟨g, o, none⟩ : Addr).add j = ⟨g, o + j, none⟩ := by
    unfold Addr.add
    split
    · rename_i h; subst h; rfl
    · rfl
  rw [e, K j hl]
  simp [ints, List.getElem?_map, List.getElem?_eq_getElem hl] at hj
  rw [← hj]
  simp [List.getElem?_eq_getElem hl]
def mns (Y : List Int) (k : Nat) : List Int := (List.range k).map (mnA Y)
def dfs (Y : List Int) (k : Nat) : List Int := (List.range k).map (dfA Y)
theorem mns_succ (Y : List Int) (k : Nat) : mns Y (k + 1) = mns Y k ++ [mnA Y k] := by simp [mns, List.range_succ]
theorem dfs_succ (Y : List Int) (k : Nat) : dfs Y (k + 1) = dfs Y k ++ [dfA Y k] := by simp [dfs, List.range_succ]
theorem dfs_len (Y : List Int) (k : Nat) : (dfs Y k).length = k := by simp [dfs]
theorem step_cat' (f : Nat) (Y : List Int) (hf : f ≤ Y.length) : stepW f Y = mns Y (f / 2) ++ (if f / 2 < f - f / 2 then [Y.getD (f - 1) 0] else []) ++ dfs Y (f / 2) ++ Y.drop f := step_cat f Y hf
theorem row_at {w : World} {base g n cap : Nat} {L : List Int} (h : w.ownsRow base 2 1 (.slice (some ⟨g, 0, none⟩) n cap) n (ints L)) (hl : L.length = n) (i : Nat) (hi : i < n) : w.cell? ⟨g, i, none⟩ = some (.int .i64 (L.getD i 0)) := by subst hl; exact row_cell h i hi

set_option maxHeartbeats 1000000 in
theorem swave_no (w : World) (s : Int) (g cap : Nat) (X : List Int) (hg : g < w.heap.size) (hc : X.length ≤ cap) (hcm : cap ≤ maxLen) (K : ∀ i, i < X.length → w.cell? ⟨g, i, none⟩ = some (.int .i64 (X.getD i 0))) (ho : wvb X s = false) :
    Calls Try.prog 13 #[.slice (some ⟨g, 0, none⟩) X.length cap, .int .i64 s] w fun e w' => ∃ v, e = .returned (.tuple #[v, .bool false]) ∧ w'.ownsRow w.heap.size 2 1 v 0 (ints []) ∧ Below w.heap.size w w' := by
  have R : Reads w (.slice (some ⟨g, 0, none⟩) X.length cap) X := .inr ⟨g, 0, cap, rfl, hc, hcm, hg, fun i hi => by rw [Nat.zero_add]; exact K i hi⟩
  have HI : Hid (Calls Try.prog 16 #[.slice (some ⟨g, 0, none⟩) X.length cap, .int .u64 40] w fun e w' => e = .returned (.bool (sml 1099511627776 X)) ∧ w' = w) := ssml_any w _ X R (by unfold maxLen at hcm; omega)
  have ER : Hid ((w.alloc (.cells #[] 2)).ownsRow w.heap.size 2 1 (.slice (some ⟨w.heap.size, 0, none⟩) 0 0) 0 []) := empty_row 2
  have BE : Hid (Below w.heap.size w (w.alloc (.cells #[] 2))) := (Below.refl _ _).alloc (Nat.le_refl _) _
  cases hs : sml 1099511627776 X
  · rw [hs] at HI
    clear K R ho hs
    go_enter Try.func13, Try.ntmps13
    go_wp2_with (go_at_call 16; refine HI.out.mono ?_; rintro e w' ⟨rfl, hw⟩; have hw' := hw.symm; subst hw')
    go_ret2
    exact ⟨_, rfl, ER.out, BE.out⟩
  · rw [hs] at HI
    have HO : Hid (okS s = false) := (by show _ = _; unfold wvb at ho; rw [hs] at ho; simpa using ho)
    clear K R ho hs
    go_enter Try.func13, Try.ntmps13
    go_wp2_with (first | (go_at_call 16; refine HI.out.mono ?_; rintro e w' ⟨rfl, hw⟩; have hw' := hw.symm; subst hw') | (go_at_call 17; refine (sin_any _ _ _ _).mono ?_; rintro e w' ⟨rfl, hw⟩; have hw' := hw.symm; subst hw'; rw [show (decide (1 ≤ s) && decide (s ≤ 12)) = false from HO.out]))
    go_ret2
    exact ⟨_, rfl, ER.out, BE.out⟩

set_option maxRecDepth 20000 in
set_option maxHeartbeats 1000000 in
theorem swave_yes (w : World) (t : Nat) (g cap : Nat) (X : List Int) (hg : g < w.heap.size) (hc : X.length ≤ cap) (hcm : cap ≤ maxLen) (K : ∀ i, i < X.length → w.cell? ⟨g, i, none⟩ = some (.int .i64 (X.getD i 0))) (ho : okS (t : Int) = true) (hs : sml 1099511627776 X = true) :
    Calls Try.prog 13 #[.slice (some ⟨g, 0, none⟩) X.length cap, .int .i64 (t : Int)] w fun e w' => ∃ v, e = .returned (.tuple #[v, .bool true]) ∧ w'.ownsRow w.heap.size 2 1 v X.length (ints (wav t X.length X)) ∧ Below w.heap.size w w' := by
  obtain ⟨i0, hi, hz0, hz1, hz2⟩ := info_parts Try.info2
  have R : Reads w (.slice (some ⟨g, 0, none⟩) X.length cap) X := .inr ⟨g, 0, cap, rfl, hc, hcm, hg, fun i hi => by rw [Nat.zero_add]; exact K i hi⟩
  have HI : Hid (Calls Try.prog 16 #[.slice (some ⟨g, 0, none⟩) X.length cap, .int .u64 40] w fun e w' => e = .returned (.bool true) ∧ w' = w) := (by have := ssml_any w _ X R (by unfold maxLen at hcm; omega); rw [hs] at this; exact this)
  obtain ⟨sl, sb⟩ := sml_iff.1 hs
  have HB : Hid (bnd X.length X) := sb
  have ER : Hid ((w.alloc (.cells #[] 2)).ownsRow w.heap.size 2 1 (.slice (some ⟨w.heap.size, 0, none⟩) 0 0) 0 []) := empty_row 2
  have HO : Hid (okS (t : Int) = true) := ho
  have ht12 : t ≤ 12 := by unfold okS at ho; simp at ho; omega
  obtain ⟨n, hn⟩ : ∃ n, n = X.length := ⟨_, rfl⟩
  have HX : Hid (X.length = n) := hn.symm
  have HK : Hid (∀ j u, (ints X)[j]? = some u → (w.alloc (.cells #[] 2)).cell? ((⟨g, 0, none⟩ : Addr).add j) = some u) := ints_at' hn.symm fun i hi => by rw [World.cell?_alloc_lt _ _ _ hg]; exact K i (by omega)
  rw [← hn] at sl HI HB hc ⊢
  clear K R ho hs sb hn
  unfold maxLen at hcm
  go_enter Try.func13, Try.ntmps13
  go_wp2_with (first | (go_at_call 16; refine HI.out.mono ?_; rintro e w' ⟨rfl, hw⟩; have hw' := hw.symm; subst hw') | (go_at_call 17; refine (sin_any _ _ _ _).mono ?_; rintro e w' ⟨rfl, hw⟩; have hw' := hw.symm; subst hw'; rw [show (decide ((1 : Int) ≤ (t : Int)) && decide ((t : Int) ≤ 12)) = true from HO.out]) | (at_builtin; refine wpList_append_own_at _ rfl _ _ 22 rfl w.heap.size 2 i0 (.int .i64 0) 1 8 Try.underlying22 hi hz0 hz1 hz2 rfl (by decide) _ _ _ rfl ER.out ⟨g, 0, none⟩ n cap (ints X) rfl (by rw [List.length_map, HX.out]; omega) HK.out (one_cell X) ?c3 ?c4 ?c5 ?_))
  case c3 => unfold maxLen; omega
  case c4 => omega
  case c5 => simp
  intro v' w1 hown hgrow hnil hat
  obtain ⟨g0, c0, rfl, q1, q2, q3, q4⟩ := row_some hown hnil
  have O1 : Hid (w1.ownsRow w.heap.size 2 1 (.slice (some ⟨g0, 0, none⟩) n c0) n (ints (wav 0 n X))) := hown
  have B1 : Hid (Below w.heap.size w w1) := ((Below.refl _ _).alloc (Nat.le_refl _) _).grown hgrow (by simp) (fun k hk => by simp [Value.ownBlock] at hk; omega)
  clear hown hgrow hnil hat HK HI ER q1 q2 q3 q4
  go_wp2_with fail
  go_loopw [6, 7, 8, 9, 10, 11, 12, 13] (fun vo m k _ _ _ _ _ wr => ∃ j go co : Nat, j ≤ t ∧ vo = .slice (some ⟨go, 0, none⟩) n co ∧ m = .int .i64 (ft j n) ∧ k = .int .i64 j ∧ Hid (wr.ownsRow w.heap.size 2 1 (.slice (some ⟨go, 0, none⟩) n co) n (ints (wav j n X))) ∧ Hid (Below w.heap.size w wr)) (fun _ _ k _ _ _ _ _ _ => t - (intOf k).toNat)
  case atStart => exact ⟨0, g0, c0, Nat.zero_le _, rfl, rfl, rfl, O1, B1⟩
  case round =>
    obtain ⟨j, go, co, hj, rfl, rfl, rfl, O, BB⟩ := hrel
    obtain ⟨f, hf⟩ : ∃ f, f = ft j n := ⟨_, rfl⟩
    have hfn : f ≤ n := by have := ft_le j n; omega
    have FF : Hid (f = ft j n) := hf
    rw [← hf]
    clear hf
    by_cases hjt : j < t
    · have a1 : (j : Int) < (t : Int) := by omega
      by_cases hf1 : 1 < f
      · have a2 : (1 : Int) < (f : Int) := by omega
        obtain ⟨wo, hwo⟩ : ∃ x, x = wr := ⟨_, rfl⟩
        subst hwo
        obtain ⟨Y, hY⟩ : ∃ Y, Y = wav j n X := ⟨_, rfl⟩
        have HYE : Hid (Y = wav j n X) := hY
        have HY : Hid (Y.length = n) := (by show _ = _; rw [hY, wav_len, HX.out])
        have HBY : Hid (bnd f Y) := (by rw [hY, FF.out]; exact wav_bnd (by rw [HX.out]; exact Nat.le_refl _) HB.out)
        obtain ⟨p, hp⟩ : ∃ p, p = f / 2 := ⟨_, rfl⟩
        have HP : Hid (p = f / 2) := hp
        have hpf : 2 * p ≤ f ∧ f ≤ 2 * p + 1 := by omega
        have OY : w.heap.size ≤ go ∧ go < wo.heap.size := O.out.lt go rfl
        have KO : Hid (go < wo.heap.size ∧ ∀ i, i < n → wo.cell? ⟨go, i, none⟩ = some (.int .i64 (Y.getD i 0))) := ⟨OY.2, fun i hi => by rw [hY]; exact row_at O.out (by rw [wav_len, HX.out]) i hi⟩
        have hco : n ≤ co ∧ co ≤ maxLen := (by
          obtain ⟨gx, cx, e, _, _, h3, h4⟩ := row_some O.out (by simp)
          injection e with _ _ e3
          subst e3
          exact ⟨h3, h4⟩)
        unfold maxLen at hco
        clear hY hp O
        have ER0 : ((wo.alloc (.cells #[] 2)).alloc (.cells #[] 2)).ownsRow wo.heap.size 2 1 (.slice (some ⟨wo.heap.size, 0, none⟩) 0 0) 0 (ints (mns Y 0)) := (empty_row 2).alloc _
        have ER1 : ((wo.alloc (.cells #[] 2)).alloc (.cells #[] 2)).ownsRow wo.heap.size 2 1 (.slice (some ⟨wo.heap.size + 1, 0, none⟩) 0 0) 0 (ints (dfs Y 0)) := (by
          have h := row_low (empty_row (W := wo.alloc (.cells #[] 2)) 2) (base' := wo.heap.size) (by simp)
          rw [show (wo.alloc (.cells #[] 2)).heap.size = wo.heap.size + 1 by simp] at h
          exact h)
        have E0 : Hid (((wo.alloc (.cells #[] 2)).alloc (.cells #[] 2)).ownsRow wo.heap.size 2 1 (.slice (some ⟨wo.heap.size, 0, none⟩) 0 0) 0 (ints (mns Y 0))) := ER0
        have E1 : Hid (((wo.alloc (.cells #[] 2)).alloc (.cells #[] 2)).ownsRow wo.heap.size 2 1 (.slice (some ⟨wo.heap.size + 1, 0, none⟩) 0 0) 0 (ints (dfs Y 0))) := ER1
        have BE : Hid (Below wo.heap.size wo ((wo.alloc (.cells #[] 2)).alloc (.cells #[] 2))) := ((Below.refl _ _).alloc (Nat.le_refl _) _).alloc (by simp) _
        clear ER0 ER1
        go_wp2_with fail
        go_loopw [9, 10, 11, 12] (fun vm vd i _ wx => ∃ k gm cm gd cd : Nat, k ≤ p ∧ gm ≠ gd ∧ vm = .slice (some ⟨gm, 0, none⟩) k cm ∧ vd = .slice (some ⟨gd, 0, none⟩) k cd ∧ (∃ k2 : Nat, i = .int .i64 k2 ∧ Hid (k2 = 2 * k)) ∧ Hid (wx.ownsRow wo.heap.size 2 1 (.slice (some ⟨gm, 0, none⟩) k cm) k (ints (mns Y k))) ∧ Hid (wx.ownsRow wo.heap.size 2 1 (.slice (some ⟨gd, 0, none⟩) k cd) k (ints (dfs Y k))) ∧ Hid (Below wo.heap.size wo wx)) (fun _ _ i _ _ => f - (intOf i).toNat)
        case atStart => exact ⟨0, wo.heap.size, 0, wo.heap.size + 1, 0, Nat.zero_le _, by omega, rfl, rfl, ⟨0, rfl, rfl⟩, E0, E1, BE⟩
        case round =>
          obtain ⟨k, gm, cm, gd, cd, hk, hne, rfl, rfl, ⟨k2, rfl, K2⟩, OM, OD, BW⟩ := hrel
          have hk2 := K2.out
          by_cases hkp : k < p
          · obtain ⟨k3, hk3⟩ : ∃ k3, k3 = 2 * k + 1 := ⟨_, rfl⟩
            have b1 : (k2 : Int) + 1 = (k3 : Int) := by omega
            have b2 : (k3 : Int) < (f : Int) := by omega
            have b3 : (k3 : Int) < (n : Int) := by omega
            have b4 : (k2 : Int) < (n : Int) := by omega
            have b5 : (0 : Int) ≤ (k2 : Int) := by omega
            have b6 : (0 : Int) ≤ (k3 : Int) := by omega
            obtain ⟨x, hx⟩ : ∃ x, x = Y.getD (2 * k) 0 := ⟨_, rfl⟩
            obtain ⟨y, hy⟩ : ∃ y, y = Y.getD (2 * k + 1) 0 := ⟨_, rfl⟩
            have r1 : wr.cell? ⟨go, k2, none⟩ = some (.int .i64 x) := (by rw [hx, hk2, BW.out.cell (p := ⟨go, 2 * k, none⟩) KO.out.1]; exact KO.out.2 (2 * k) (by omega))
            have r2 : wr.cell? ⟨go, k3, none⟩ = some (.int .i64 y) := (by rw [hy, hk3, BW.out.cell (p := ⟨go, 2 * k + 1, none⟩) KO.out.1]; exact KO.out.2 (2 * k + 1) (by omega))
            have bx := HBY.out (2 * k) (by omega)
            have bym := HBY.out (2 * k + 1) (by omega)
            rw [← hx] at bx
            rw [← hy] at bym
            have EM : Hid (x + (y - x) / 2 = mnA Y k ∧ y - x = dfA Y k) := (by rw [hx, hy]; exact ⟨rfl, rfl⟩)
            have K3 : Hid (k3 = 2 * k + 1) := hk3
            have szz := BW.out.size
            have gmz := (OM.out.lt gm rfl)
            have gdz := (OD.out.lt gd rfl)
            clear hx hy hk3 hk2
            go_wp2_with fail
            go_quiet (fail)
            have OMd : Hid ((wr.drewN nq).ownsRow wo.heap.size 2 1 (.slice (some ⟨gm, 0, none⟩) k cm) k (ints (mns Y k))) := OM.out
            have ODd : Hid ((wr.drewN nq).ownsRow wo.heap.size 2 1 (.slice (some ⟨gd, 0, none⟩) k cd) k (ints (dfs Y k))) := OD.out
            have BWd : Hid (Below wo.heap.size wo (wr.drewN nq)) := ⟨BW.out.os, BW.out.tape, BW.out.output, BW.out.size, BW.out.block⟩
            have szd : (wr.drewN nq).heap.size = wr.heap.size := rfl
            have r1d : (wr.drewN nq).cell? ⟨go, k2, none⟩ = some (.int .i64 x) := r1
            generalize hwd : wr.drewN nq = wd at *
            rw [← szd] at szz gmz gdz
            clear OM OD BW szd hwd r1 r2
            go_wp2_with (at_builtin; refine wpList_append_own_at _ rfl _ _ 22 rfl wo.heap.size 2 i0 (.int .i64 0) 1 8 Try.underlying22 hi hz0 hz1 hz2 rfl (by decide) _ _ _ rfl (OMd.out.alloc _) ⟨wd.heap.size, 0, none⟩ 1 1 [.int .i64 (x + (y - x) / 2)] rfl rfl (cell_one_new _ _ _) ?c2 ?c3 ?c4 ?c5 ?_)
            case c2 => intro u hu; simp at hu; subst hu; rfl
            case c3 => unfold maxLen; omega
            case c4 => omega
            case c5 => simp; omega
            intro v3 w3 hown3 hgrow3 hnil3 hat3
            obtain ⟨g3, c3', rfl, s1, s2, s3, s4⟩ := row_some hown3 hnil3
            have G3 : (wd.alloc (.cells #[.int .i64 (x + (y - x) / 2)] 2)).grownBy w3 (some gm) := hgrow3
            have OM3 : Hid (w3.ownsRow wo.heap.size 2 1 (.slice (some ⟨g3, 0, none⟩) (k + 1) c3') (k + 1) (ints (mns Y (k + 1)))) := (by show World.ownsRow _ _ _ _ _ _ _; rw [mns_succ, ints_snoc, ← EM.out.1]; exact hown3)
            have OD3 : Hid (w3.ownsRow wo.heap.size 2 1 (.slice (some ⟨gd, 0, none⟩) k cd) k (ints (dfs Y k))) := (ODd.out.alloc _).kept G3 (.inr (by simp [Value.ownBlock]; omega))
            have B3 : Hid (Below wo.heap.size wo w3) := (BWd.out.alloc BWd.out.size _).grown G3 (by simp; omega) (fun k hk => by simp at hk; omega)
            have n3 : g3 ≠ gd := (by
              rcases hat3 with h | h
              · simp [Value.ownBlock] at h; omega
              · simp [Value.ownBlock] at h; omega)
            have sz3 := B3.out.size
            have gdz3 := (OD3.out.lt gd rfl)
            have gmz3 := (OM3.out.lt g3 rfl)
            clear hown3 hgrow3 hnil3 hat3 G3 OMd ODd BWd
            go_wp2_with (at_builtin; refine wpList_append_own_at _ rfl _ _ 22 rfl wo.heap.size 2 i0 (.int .i64 0) 1 8 Try.underlying22 hi hz0 hz1 hz2 rfl (by decide) _ _ _ rfl (OD3.out.alloc _) ⟨w3.heap.size, 0, none⟩ 1 1 [.int .i64 (y - x)] rfl rfl (cell_one_new _ _ _) ?c2 ?c3 ?c4 ?c5 ?_)
            case c2 => intro u hu; simp at hu; subst hu; rfl
            case c3 => unfold maxLen; omega
            case c4 => omega
            case c5 => simp; omega
            intro v4 w4 hown4 hgrow4 hnil4 hat4
            obtain ⟨g4, c4', rfl, t1, t2, t3, t4⟩ := row_some hown4 hnil4
            have G4 : (w3.alloc (.cells #[.int .i64 (y - x)] 2)).grownBy w4 (some gd) := hgrow4
            have OD4 : Hid (w4.ownsRow wo.heap.size 2 1 (.slice (some ⟨g4, 0, none⟩) (k + 1) c4') (k + 1) (ints (dfs Y (k + 1)))) := (by show World.ownsRow _ _ _ _ _ _ _; rw [dfs_succ, ints_snoc, ← EM.out.2]; exact hown4)
            have OM4 : Hid (w4.ownsRow wo.heap.size 2 1 (.slice (some ⟨g3, 0, none⟩) (k + 1) c3') (k + 1) (ints (mns Y (k + 1)))) := (OM3.out.alloc _).kept G4 (.inr (by simp [Value.ownBlock]; omega))
            have B4 : Hid (Below wo.heap.size wo w4) := (B3.out.alloc B3.out.size _).grown G4 (by simp; omega) (fun k hk => by simp at hk; omega)
            have n4 : g3 ≠ g4 := (by
              rcases hat4 with h | h
              · simp [Value.ownBlock] at h; omega
              · simp [Value.ownBlock] at h; omega)
            clear hown4 hgrow4 hnil4 hat4 G4 OM3 OD3 B3
            go_wp2_with fail
            go_roundw
            case rel => exact ⟨k + 1, g3, c3', g4, c4', by omega, n4, rfl, rfl, ⟨k2 + 2, by go_num, (by have := K2.out; show _ = _; omega)⟩, OM4, OD4, B4⟩
            case measure => have := K2.out; simp [intOf]; omega
          · have hkp' : p = k := by omega
            subst hkp'
            have b0 : ¬ ((k2 : Int) + 1 < (f : Int)) := by omega
            have szk : f ≤ 4096 := by omega
            have hk2b : k2 ≤ 8192 := by omega
            clear E0 E1 BE hk2 HB HBY
            by_cases hodd : f = 2 * p + 1
            · obtain ⟨f1, hf1'⟩ : ∃ f1, f1 = f - 1 := ⟨_, rfl⟩
              have m1 : Int.tmod (f : Int) 2 = 1 := (by have h : Int.tmod (f : Int) 2 = ((f % 2 : Nat) : Int) := rfl; rw [h]; omega)
              have b1 : (f : Int) - 1 = (f1 : Int) := by omega
              have b2 : (f1 : Int) < (n : Int) := by omega
              have b3 : (0 : Int) ≤ (f1 : Int) := by omega
              obtain ⟨x, hx⟩ : ∃ x, x = Y.getD (f - 1) 0 := ⟨_, rfl⟩
              have r1 : wr.cell? ⟨go, f1, none⟩ = some (.int .i64 x) := (by rw [hx, hf1', BW.out.cell (p := ⟨go, f - 1, none⟩) KO.out.1]; exact KO.out.2 (f - 1) (by omega))
              have HXX : Hid (x = Y.getD (f - 1) 0) := hx
              have szz0 := BW.out.size
              have gmz0 := (OM.out.lt gm rfl)
              have gdz0 := (OD.out.lt gd rfl)
              have HODD : Hid (f = 2 * p + 1) := hodd
              clear hx hf1' hodd
              go_wp2_with (at_builtin; refine wpList_append_own_at _ rfl _ _ 22 rfl wo.heap.size 2 i0 (.int .i64 0) 1 8 Try.underlying22 hi hz0 hz1 hz2 rfl (by decide) _ _ _ rfl (OM.out.alloc _) ⟨wr.heap.size, 0, none⟩ 1 1 [.int .i64 x] rfl rfl (cell_one_new _ _ _) ?c2 ?c3 ?c4 ?c5 ?_)
              case c2 => first | rfl | (intro u hu; simp at hu; subst hu; rfl)
              case c3 => unfold maxLen; omega
              case c4 => omega
              case c5 => first | omega | (simp; omega)
              intro v3 wz hown3 hgrow3 hnil3 hat3
              obtain ⟨g3, c3', rfl, s1, s2, s3, s4⟩ := row_some hown3 hnil3
              have G3 : (wr.alloc (.cells #[.int .i64 x] 2)).grownBy wz (some gm) := hgrow3
              have OM3 : Hid (wz.ownsRow wo.heap.size 2 1 (.slice (some ⟨g3, 0, none⟩) (p + 1) c3') (p + 1) (ints (mns Y p ++ [Y.getD (f - 1) 0]))) := (by show World.ownsRow _ _ _ _ _ _ _; rw [ints_snoc, ← HXX.out]; exact hown3)
              have OD3 : Hid (wz.ownsRow wo.heap.size 2 1 (.slice (some ⟨gd, 0, none⟩) p cd) p (ints (dfs Y p))) := (OD.out.alloc _).kept G3 (.inr (by simp [Value.ownBlock]; omega))
              have BW3 : Hid (Below wo.heap.size wo wz) := (BW.out.alloc BW.out.size _).grown G3 (by simp; omega) (fun k hk => by simp at hk; omega)
              have hodd : 2 * p + 1 ≤ f := (by have := HODD.out; omega)
              obtain ⟨M1, hM1⟩ : ∃ M1, M1 = mns Y p ++ [Y.getD (f - 1) 0] := ⟨_, rfl⟩
              rw [← hM1] at OM3
              have HM1 : Hid (M1 = mns Y p ++ [Y.getD (f - 1) 0]) := hM1
              clear hown3 hgrow3 hnil3 hat3 G3 OM OD BW r1 HODD hM1
              by_cases hcf : co = f
              · have hcf' := hcf.symm
                subst hcf'
                have szz := BW3.out.size
                have gmz := (OM3.out.lt g3 rfl)
                have gdz := (OD3.out.lt gd rfl)
                have KD : Hid (∀ i u, (ints (dfs Y p))[i]? = some u → (wz.alloc (.cells #[] 2)).cell? ((⟨gd, 0, none⟩ : Addr).add i) = some u) := ints_at' (dfs_len Y p) fun i hi' => by rw [World.cell?_alloc_lt _ _ _ gdz.2]; exact row_at OD3.out (dfs_len Y p) i hi'
                have a9 : (f : Int) ≤ (n : Int) := by omega
                have a9' : (0 : Int) ≤ (f : Int) := by omega
                go_wp2_with (at_builtin; refine wpList_append_own_at _ rfl _ _ 22 rfl wo.heap.size 2 i0 (.int .i64 0) 1 8 Try.underlying22 hi hz0 hz1 hz2 rfl (by decide) _ _ _ rfl (OM3.out.alloc _) ⟨gd, 0, none⟩ p cd (ints (dfs Y p)) rfl (by rw [List.length_map, dfs_len]; omega) (KD.out) (one_cell _) (by unfold maxLen; omega) (by omega) (by first | omega | (simp; done) | (simp; omega)) ?_)
                intro v7 w7 hown7 hgrow7 hnil7 hat7
                obtain ⟨g7, c7, rfl, s1, s2, s3, s4⟩ := row_some hown7 hnil7
                have G7 : (wz.alloc (.cells #[] 2)).grownBy w7 (some g3) := hgrow7
                have B8 : Hid (Below w.heap.size w w7) := BB.out.trans ((((BW3.out.alloc BW3.out.size _)).grown G7 (by simp; omega) (fun k hk => by simp at hk; omega)).mono BB.out.size)
                have O8 : Hid (w7.ownsRow w.heap.size 2 1 (.slice (some ⟨g7, 0, none⟩) n c7) n (ints (wav (j + 1) n X))) := (by
                  show World.ownsRow _ _ _ _ _ _ _
                  have hz : Y.drop f = [] := List.drop_eq_nil_of_le (by rw [HY.out]; omega)
                  have eL : wav (j + 1) n X = M1 ++ dfs Y p := (by rw [wav_snoc, ← FF.out, ← HYE.out, step_cat' f Y (by rw [HY.out]; exact hfn), ← HP.out, hz, List.append_nil]; rw [if_pos (by omega), HM1.out])
                  have e1 : ints (wav (j + 1) n X) = ints M1 ++ ints (dfs Y p) := by rw [eL]; exact List.map_append
                  have e2 : (p + 1) + p = n := by omega
                  rw [e1]
                  have h := row_low hown7 BB.out.size
                  rw [e2] at h
                  exact h)
                rw [show (p + 1) + p = n by omega]
                clear hown7 hgrow7 hnil7 hat7 G7 OM3 OD3 KD BW3
                go_wp2_with fail
                go_roundw
                case rel => exact ⟨j + 1, g7, c7, by omega, rfl, (by rw [ft_succ, ← FF.out]; congr 1; have := HP.out; omega), by go_num, O8, B8⟩
                case measure => simp [intOf]; omega
              · have hf0 : ¬ f = 0 := by omega
                have ER : Hid ((wz.alloc (.cells #[] 2)).ownsRow wz.heap.size 2 1 (.slice (some ⟨wz.heap.size, 0, none⟩) 0 0) 0 []) := empty_row 2
                have szz := BW3.out.size
                have gmz := (OM3.out.lt g3 rfl)
                have gdz := (OD3.out.lt gd rfl)
                obtain ⟨Z, hZ⟩ : ∃ Z, Z = Y.drop f := ⟨_, rfl⟩
                have KR : Hid (∀ i u, (ints Z)[i]? = some u → (wz.alloc (.cells #[] 2)).cell? ((⟨go, f, none⟩ : Addr).add i) = some u) := ints_from fun i hi' => by
                  rw [hZ] at hi'
                  have hin : f + i < n := by have := HY.out; simp at hi'; omega
                  rw [World.cell?_alloc_lt _ _ _ (by show go < _; have := KO.out.1; omega), BW3.out.cell (p := ⟨go, f + i, none⟩) KO.out.1, KO.out.2 (f + i) hin, hZ]
                  simp [List.getD_eq_getElem?_getD]
                have hdl : Z.length = n - f := by rw [hZ, List.length_drop, HY.out]
                have HZ : Hid (Z = Y.drop f ∧ Z.length = n - f) := ⟨hZ, hdl⟩
                have a9 : (f : Int) ≤ (n : Int) := by omega
                have a9' : (0 : Int) ≤ (f : Int) := by omega
                clear hZ hdl
                go_wp2_with (at_builtin; refine wpList_append_own_at _ rfl _ _ 22 rfl wz.heap.size 2 i0 (.int .i64 0) 1 8 Try.underlying22 hi hz0 hz1 hz2 rfl (by decide) _ _ _ rfl (ER.out) ⟨go, f, none⟩ (n - f) _ (ints Z) rfl (by rw [List.length_map, HZ.out.2]; omega) (KR.out) (one_cell _) (by unfold maxLen; omega) (by omega) (by first | omega | (simp; done) | (simp; omega)) ?_)
                intro v6 w6 hown6 hgrow6 hnil6 hat6
                obtain ⟨gr, cr, rfl, r1, r2, r3, r4⟩ := row_some hown6 hnil6
                have OR : Hid (w6.ownsRow wz.heap.size 2 1 (.slice (some ⟨gr, 0, none⟩) (n - f) cr) (n - f) (ints Z)) := hown6
                have B6 : Hid (Below wz.heap.size wz w6) := ((Below.refl _ _).alloc (Nat.le_refl _) _).grown hgrow6 (by simp) (fun k hk => by simp [Value.ownBlock] at hk; omega)
                have OM6 : Hid (w6.ownsRow wo.heap.size 2 1 (.slice (some ⟨g3, 0, none⟩) (p + 1) c3') (p + 1) (ints M1)) := OM3.out.kept (row := none) (Below.grownBy B6.out none) (.inr (by simp [Value.ownBlock]))
                have OD6 : Hid (w6.ownsRow wo.heap.size 2 1 (.slice (some ⟨gd, 0, none⟩) p cd) p (ints (dfs Y p))) := OD3.out.kept (row := none) (Below.grownBy B6.out none) (.inr (by simp [Value.ownBlock]))
                have sz6 := B6.out.size
                have KD : Hid (∀ i u, (ints (dfs Y p))[i]? = some u → w6.cell? ((⟨gd, 0, none⟩ : Addr).add i) = some u) := ints_at' (dfs_len Y p) fun i hi' => row_at OD6.out (dfs_len Y p) i hi'
                clear hown6 hgrow6 hnil6 hat6 OM3 OD3 ER KR
                go_wp2_with (at_builtin; refine wpList_append_own_at _ rfl _ _ 22 rfl wo.heap.size 2 i0 (.int .i64 0) 1 8 Try.underlying22 hi hz0 hz1 hz2 rfl (by decide) _ _ _ rfl (OM6.out) ⟨gd, 0, none⟩ p cd (ints (dfs Y p)) rfl (by rw [List.length_map, dfs_len]; omega) (KD.out) (one_cell _) (by unfold maxLen; omega) (by omega) (by first | omega | (simp; done) | (simp; omega)) ?_)
                intro v7 w7 hown7 hgrow7 hnil7 hat7
                obtain ⟨g7, c7, rfl, s1, s2, s3, s4⟩ := row_some hown7 hnil7
                have G7 : w6.grownBy w7 (some g3) := hgrow7
                obtain ⟨MD, hMD⟩ : ∃ MD, MD = M1 ++ dfs Y p := ⟨_, rfl⟩
                have O7 : Hid (w7.ownsRow wo.heap.size 2 1 (.slice (some ⟨g7, 0, none⟩) ((p + 1) + p) c7) ((p + 1) + p) (ints MD)) := (by rw [hMD]; show World.ownsRow _ _ _ _ _ _ _; have e : ints (M1 ++ dfs Y p) = ints M1 ++ ints (dfs Y p) := List.map_append; rw [e]; exact hown7)
                have HMD : Hid (MD = M1 ++ dfs Y p) := hMD
                have OR7 : Hid (w7.ownsRow wz.heap.size 2 1 (.slice (some ⟨gr, 0, none⟩) (n - f) cr) (n - f) (ints Z)) := OR.out.kept G7 (.inr (by simp [Value.ownBlock]; omega))
                have B7 : Hid (Below wo.heap.size wo w7) := (BW3.out.trans (B6.out.mono szz)).grown G7 (by omega) (fun k hk => by simp at hk; omega)
                have KR7 : Hid (∀ i u, (ints Z)[i]? = some u → w7.cell? ((⟨gr, 0, none⟩ : Addr).add i) = some u) := ints_at' HZ.out.2 fun i hi' => row_at OR7.out HZ.out.2 i hi'
                have sz7 := B7.out.size
                clear hown7 hgrow7 hnil7 hat7 G7 OM6 OD6 OR KD B6 BW3 hMD
                go_wp2_with (at_builtin; refine wpList_append_own_at _ rfl _ _ 22 rfl wo.heap.size 2 i0 (.int .i64 0) 1 8 Try.underlying22 hi hz0 hz1 hz2 rfl (by decide) _ _ _ rfl (O7.out) ⟨gr, 0, none⟩ (n - f) cr (ints Z) rfl (by rw [List.length_map, HZ.out.2]; omega) (KR7.out) (one_cell _) (by unfold maxLen; omega) (by omega) (by first | omega | (simp; done) | (simp; omega)) ?_)
                intro v8 w8 hown8 hgrow8 hnil8 hat8
                obtain ⟨g8, c8, rfl, t1, t2, t3, t4⟩ := row_some hown8 hnil8
                have G8 : w7.grownBy w8 (some g7) := hgrow8
                have B8 : Hid (Below w.heap.size w w8) := BB.out.trans (((B7.out.grown G8 (by omega) (fun k hk => by simp at hk; omega))).mono BB.out.size)
                have O8 : Hid (w8.ownsRow w.heap.size 2 1 (.slice (some ⟨g8, 0, none⟩) n c8) n (ints (wav (j + 1) n X))) := (by
                  show World.ownsRow _ _ _ _ _ _ _
                  have eL : wav (j + 1) n X = MD ++ Z := (by rw [wav_snoc, ← FF.out, ← HYE.out, step_cat' f Y (by rw [HY.out]; exact hfn), ← HP.out, HMD.out, HZ.out.1]; rw [if_pos (by omega), HM1.out])
                  have e1 : ints (wav (j + 1) n X) = ints MD ++ ints Z := by rw [eL]; simp [ints]
                  have e2 : (p + 1) + p + (n - f) = n := by omega
                  rw [e1]
                  have h := row_low hown8 BB.out.size
                  rw [e2] at h
                  exact h)
                rw [show (p + 1) + p + (n - f) = n by omega]
                clear hown8 hgrow8 hnil8 hat8 G8 O7 OR7 KR7 B7
                go_wp2_with fail
                go_roundw
                case rel => exact ⟨j + 1, g8, c8, by omega, rfl, (by rw [ft_succ, ← FF.out]; congr 1; have := HP.out; omega), by go_num, O8, B8⟩
                case measure => simp [intOf]; omega
            · have m1 : Int.tmod (f : Int) 2 = 0 := (by have h : Int.tmod (f : Int) 2 = ((f % 2 : Nat) : Int) := rfl; rw [h]; omega)
              obtain ⟨wz, hwz⟩ : ∃ x, x = wr := ⟨_, rfl⟩
              subst hwz
              by_cases hcf : co = f
              · have hcf' := hcf.symm
                subst hcf'
                have szz := BW.out.size
                have gmz := (OM.out.lt gm rfl)
                have gdz := (OD.out.lt gd rfl)
                have KD : Hid (∀ i u, (ints (dfs Y p))[i]? = some u → (wz.alloc (.cells #[] 2)).cell? ((⟨gd, 0, none⟩ : Addr).add i) = some u) := ints_at' (dfs_len Y p) fun i hi' => by rw [World.cell?_alloc_lt _ _ _ gdz.2]; exact row_at OD.out (dfs_len Y p) i hi'
                have a9 : (f : Int) ≤ (n : Int) := by omega
                have a9' : (0 : Int) ≤ (f : Int) := by omega
                go_wp2_with (at_builtin; refine wpList_append_own_at _ rfl _ _ 22 rfl wo.heap.size 2 i0 (.int .i64 0) 1 8 Try.underlying22 hi hz0 hz1 hz2 rfl (by decide) _ _ _ rfl (OM.out.alloc _) ⟨gd, 0, none⟩ p cd (ints (dfs Y p)) rfl (by rw [List.length_map, dfs_len]; omega) (KD.out) (one_cell _) (by unfold maxLen; omega) (by omega) (by first | omega | (simp; done) | (simp; omega)) ?_)
                intro v7 w7 hown7 hgrow7 hnil7 hat7
                obtain ⟨g7, c7, rfl, s1, s2, s3, s4⟩ := row_some hown7 hnil7
                have G7 : (wz.alloc (.cells #[] 2)).grownBy w7 (some gm) := hgrow7
                have B8 : Hid (Below w.heap.size w w7) := BB.out.trans ((((BW.out.alloc BW.out.size _)).grown G7 (by simp; omega) (fun k hk => by simp at hk; omega)).mono BB.out.size)
                have O8 : Hid (w7.ownsRow w.heap.size 2 1 (.slice (some ⟨g7, 0, none⟩) n c7) n (ints (wav (j + 1) n X))) := (by
                  show World.ownsRow _ _ _ _ _ _ _
                  have hz : Y.drop f = [] := List.drop_eq_nil_of_le (by rw [HY.out]; omega)
                  have eL : wav (j + 1) n X = (mns Y p) ++ dfs Y p := (by rw [wav_snoc, ← FF.out, ← HYE.out, step_cat' f Y (by rw [HY.out]; exact hfn), ← HP.out, hz, List.append_nil]; rw [if_neg (by omega), List.append_nil])
                  have e1 : ints (wav (j + 1) n X) = ints (mns Y p) ++ ints (dfs Y p) := by rw [eL]; exact List.map_append
                  have e2 : p + p = n := by omega
                  rw [e1]
                  have h := row_low hown7 BB.out.size
                  rw [e2] at h
                  exact h)
                rw [show p + p = n by omega]
                clear hown7 hgrow7 hnil7 hat7 G7 OM OD KD BW
                go_wp2_with fail
                go_roundw
                case rel => exact ⟨j + 1, g7, c7, by omega, rfl, (by rw [ft_succ, ← FF.out]; congr 1; have := HP.out; omega), by go_num, O8, B8⟩
                case measure => simp [intOf]; omega
              · have hf0 : ¬ f = 0 := by omega
                have ER : Hid ((wz.alloc (.cells #[] 2)).ownsRow wz.heap.size 2 1 (.slice (some ⟨wz.heap.size, 0, none⟩) 0 0) 0 []) := empty_row 2
                have szz := BW.out.size
                have gmz := (OM.out.lt gm rfl)
                have gdz := (OD.out.lt gd rfl)
                obtain ⟨Z, hZ⟩ : ∃ Z, Z = Y.drop f := ⟨_, rfl⟩
                have KR : Hid (∀ i u, (ints Z)[i]? = some u → (wz.alloc (.cells #[] 2)).cell? ((⟨go, f, none⟩ : Addr).add i) = some u) := ints_from fun i hi' => by
                  rw [hZ] at hi'
                  have hin : f + i < n := by have := HY.out; simp at hi'; omega
                  rw [World.cell?_alloc_lt _ _ _ (by show go < _; have := KO.out.1; omega), BW.out.cell (p := ⟨go, f + i, none⟩) KO.out.1, KO.out.2 (f + i) hin, hZ]
                  simp [List.getD_eq_getElem?_getD]
                have hdl : Z.length = n - f := by rw [hZ, List.length_drop, HY.out]
                have HZ : Hid (Z = Y.drop f ∧ Z.length = n - f) := ⟨hZ, hdl⟩
                have a9 : (f : Int) ≤ (n : Int) := by omega
                have a9' : (0 : Int) ≤ (f : Int) := by omega
                clear hZ hdl
                go_wp2_with (at_builtin; refine wpList_append_own_at _ rfl _ _ 22 rfl wz.heap.size 2 i0 (.int .i64 0) 1 8 Try.underlying22 hi hz0 hz1 hz2 rfl (by decide) _ _ _ rfl (ER.out) ⟨go, f, none⟩ (n - f) _ (ints Z) rfl (by rw [List.length_map, HZ.out.2]; omega) (KR.out) (one_cell _) (by unfold maxLen; omega) (by omega) (by first | omega | (simp; done) | (simp; omega)) ?_)
                intro v6 w6 hown6 hgrow6 hnil6 hat6
                obtain ⟨gr, cr, rfl, r1, r2, r3, r4⟩ := row_some hown6 hnil6
                have OR : Hid (w6.ownsRow wz.heap.size 2 1 (.slice (some ⟨gr, 0, none⟩) (n - f) cr) (n - f) (ints Z)) := hown6
                have B6 : Hid (Below wz.heap.size wz w6) := ((Below.refl _ _).alloc (Nat.le_refl _) _).grown hgrow6 (by simp) (fun k hk => by simp [Value.ownBlock] at hk; omega)
                have OM6 : Hid (w6.ownsRow wo.heap.size 2 1 (.slice (some ⟨gm, 0, none⟩) p cm) p (ints (mns Y p))) := OM.out.kept (row := none) (Below.grownBy B6.out none) (.inr (by simp [Value.ownBlock]))
                have OD6 : Hid (w6.ownsRow wo.heap.size 2 1 (.slice (some ⟨gd, 0, none⟩) p cd) p (ints (dfs Y p))) := OD.out.kept (row := none) (Below.grownBy B6.out none) (.inr (by simp [Value.ownBlock]))
                have sz6 := B6.out.size
                have KD : Hid (∀ i u, (ints (dfs Y p))[i]? = some u → w6.cell? ((⟨gd, 0, none⟩ : Addr).add i) = some u) := ints_at' (dfs_len Y p) fun i hi' => row_at OD6.out (dfs_len Y p) i hi'
                clear hown6 hgrow6 hnil6 hat6 OM OD ER KR
                go_wp2_with (at_builtin; refine wpList_append_own_at _ rfl _ _ 22 rfl wo.heap.size 2 i0 (.int .i64 0) 1 8 Try.underlying22 hi hz0 hz1 hz2 rfl (by decide) _ _ _ rfl (OM6.out) ⟨gd, 0, none⟩ p cd (ints (dfs Y p)) rfl (by rw [List.length_map, dfs_len]; omega) (KD.out) (one_cell _) (by unfold maxLen; omega) (by omega) (by first | omega | (simp; done) | (simp; omega)) ?_)
                intro v7 w7 hown7 hgrow7 hnil7 hat7
                obtain ⟨g7, c7, rfl, s1, s2, s3, s4⟩ := row_some hown7 hnil7
                have G7 : w6.grownBy w7 (some gm) := hgrow7
                obtain ⟨MD, hMD⟩ : ∃ MD, MD = (mns Y p) ++ dfs Y p := ⟨_, rfl⟩
                have O7 : Hid (w7.ownsRow wo.heap.size 2 1 (.slice (some ⟨g7, 0, none⟩) (p + p) c7) (p + p) (ints MD)) := (by rw [hMD]; show World.ownsRow _ _ _ _ _ _ _; have e : ints ((mns Y p) ++ dfs Y p) = ints (mns Y p) ++ ints (dfs Y p) := List.map_append; rw [e]; exact hown7)
                have HMD : Hid (MD = (mns Y p) ++ dfs Y p) := hMD
                have OR7 : Hid (w7.ownsRow wz.heap.size 2 1 (.slice (some ⟨gr, 0, none⟩) (n - f) cr) (n - f) (ints Z)) := OR.out.kept G7 (.inr (by simp [Value.ownBlock]; omega))
                have B7 : Hid (Below wo.heap.size wo w7) := (BW.out.trans (B6.out.mono szz)).grown G7 (by omega) (fun k hk => by simp at hk; omega)
                have KR7 : Hid (∀ i u, (ints Z)[i]? = some u → w7.cell? ((⟨gr, 0, none⟩ : Addr).add i) = some u) := ints_at' HZ.out.2 fun i hi' => row_at OR7.out HZ.out.2 i hi'
                have sz7 := B7.out.size
                clear hown7 hgrow7 hnil7 hat7 G7 OM6 OD6 OR KD B6 BW hMD
                go_wp2_with (at_builtin; refine wpList_append_own_at _ rfl _ _ 22 rfl wo.heap.size 2 i0 (.int .i64 0) 1 8 Try.underlying22 hi hz0 hz1 hz2 rfl (by decide) _ _ _ rfl (O7.out) ⟨gr, 0, none⟩ (n - f) cr (ints Z) rfl (by rw [List.length_map, HZ.out.2]; omega) (KR7.out) (one_cell _) (by unfold maxLen; omega) (by omega) (by first | omega | (simp; done) | (simp; omega)) ?_)
                intro v8 w8 hown8 hgrow8 hnil8 hat8
                obtain ⟨g8, c8, rfl, t1, t2, t3, t4⟩ := row_some hown8 hnil8
                have G8 : w7.grownBy w8 (some g7) := hgrow8
                have B8 : Hid (Below w.heap.size w w8) := BB.out.trans (((B7.out.grown G8 (by omega) (fun k hk => by simp at hk; omega))).mono BB.out.size)
                have O8 : Hid (w8.ownsRow w.heap.size 2 1 (.slice (some ⟨g8, 0, none⟩) n c8) n (ints (wav (j + 1) n X))) := (by
                  show World.ownsRow _ _ _ _ _ _ _
                  have eL : wav (j + 1) n X = MD ++ Z := (by rw [wav_snoc, ← FF.out, ← HYE.out, step_cat' f Y (by rw [HY.out]; exact hfn), ← HP.out, HMD.out, HZ.out.1]; rw [if_neg (by omega), List.append_nil])
                  have e1 : ints (wav (j + 1) n X) = ints MD ++ ints Z := by rw [eL]; simp [ints]
                  have e2 : p + p + (n - f) = n := by omega
                  rw [e1]
                  have h := row_low hown8 BB.out.size
                  rw [e2] at h
                  exact h)
                rw [show p + p + (n - f) = n by omega]
                clear hown8 hgrow8 hnil8 hat8 G8 O7 OR7 KR7 B7
                go_wp2_with fail
                go_roundw
                case rel => exact ⟨j + 1, g8, c8, by omega, rfl, (by rw [ft_succ, ← FF.out]; congr 1; have := HP.out; omega), by go_num, O8, B8⟩
                case measure => simp [intOf]; omega
      · have a2 : ¬ ((1 : Int) < (f : Int)) := by omega
        have a2' : decide ((1 : Int) < (f : Int)) = false := by simp; omega
        have OE : Hid (wr.ownsRow w.heap.size 2 1 (.slice (some ⟨go, 0, none⟩) n co) n (ints (wav t n X))) := (by show World.ownsRow _ _ _ _ _ _ _; rw [wav_stop (X := X) hj (by rw [← FF.out]; omega)]; exact O.out)
        go_wp2_with fail
        go_ret2
        exact ⟨_, rfl, OE.out, BB.out⟩
    · have hjt' : j = t := by omega
      subst hjt'
      have a1 : ¬ ((j : Int) < (j : Int)) := by omega
      go_wp2_with fail
      go_ret2
      exact ⟨_, rfl, O.out, BB.out⟩
end Go.Proofs.Ytpokbicnogcijaa.Lists
