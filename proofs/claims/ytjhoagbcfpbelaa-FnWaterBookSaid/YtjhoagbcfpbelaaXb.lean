/- Drain of the model: two lists of some whole numbers. -/
import Derived.Test.YtjhoagbcfpbelaaEd
import Derived.BigQuiet
namespace Go.Proofs.Ytjhoagbcfpbelaa.Xa
open Go.ChangeShapes Go.WideShapes Go.ChangeAt Go.RowKit
open Go.Proofs.Ytjhoagbcfpbelaa.Lists Go.Proofs.Ytjhoagbcfpbelaa.Gd

theorem size_of {r c : Int} {L : List Int} (h : Bx.okB r c L = true) : (1 ≤ r ∧ r ≤ 24) ∧ (1 ≤ c ∧ c ≤ 24) ∧ (L.length : Int) = r * c := by
  unfold Bx.okB Bx.heads at h
  simp only [Bool.and_eq_true, decide_eq_true_eq, Bx.inn_iff] at h
  exact ⟨h.1.1, h.1.2.1, h.1.2.2⟩
abbrev sl (g n c : Nat) : Value := .slice (some ⟨g, 0, none⟩) n c
theorem reads_at2 {w : World} {v : Value} {L : List Int} (hL : Lists.Reads w v L) (h0 : 0 < L.length) : ∃ b o c, v = .slice (some ⟨b, o, none⟩) L.length c ∧ b < w.heap.size ∧ ∀ i, i < L.length → w.cell? ⟨b, o + i, none⟩ = some (.int .i64 (L.getD i 0)) := by
  rcases hL with ⟨h, _⟩ | ⟨b, o, c, e, _, _, x, y⟩
  · simp [h] at h0
  · exact ⟨b, o, c, e, x, y⟩
set_option maxRecDepth 20000 in
set_option maxHeartbeats 1000000 in
theorem drain_any (r c : Int) (v : Value) (L : List Int) (w : World) (hL : Lists.Reads w v L) (hf : L.length < 9223372036854775808) :
    Calls Try.prog 19 #[Bx.sv r c v] w fun e w' => ∃ v1 v2 m, e = .returned (.tuple #[v1, v2]) ∧ AI w' w.heap.size v2 m ∧ m ≤ 576 ∧ Below w.heap.size w w' := by
  obtain ⟨w1, hw1⟩ : ∃ w1, w1 = ((w.alloc (Obj.cells #[.int .i64 r, .int .i64 c, v] 49)).alloc (Obj.cells #[] 2)).alloc (Obj.cells #[] 2) := ⟨_, rfl⟩
  have HW : Hid (w1 = ((w.alloc (Obj.cells #[.int .i64 r, .int .i64 c, v] 49)).alloc (Obj.cells #[] 2)).alloc (Obj.cells #[] 2)) := hw1
  have T0 : Hid (D3 r c v w (sl (w.heap.size + 1) 0 0) (sl (w.heap.size + 2) 0 0) (.slice none 0 0) 0 0 0 w1) := (by
    show D3 _ _ _ _ _ _ _ _ _ _ _
    rw [hw1]
    refine ⟨(((Below.refl _ _).alloc (Nat.le_refl _) _).alloc (by simp) _).alloc (by simp; omega) _, by unfold Bo.Box; simp [go_sem], ?_, ?_, ⟨[], rfl, rfl, .inl ⟨rfl, rfl⟩⟩, fun g a b => ?_, fun g a b => (by cases b), fun g a b => (by cases b), by simp; omega⟩
    · have := AI.lit (w.alloc (Obj.cells #[.int .i64 r, .int .i64 c, v] 49)) (w.heap.size + 1) (by simp)
      simp only [World.size_alloc] at this
      exact this.on ((Below.refl _ _).alloc (Nat.le_refl _) _)
    · have := AI.lit ((w.alloc (Obj.cells #[.int .i64 r, .int .i64 c, v] 49)).alloc (Obj.cells #[] 2)) (w.heap.size + 1) (by simp)
      simpa using this
    · simp [Value.ownBlock] at a b; omega)
  have RL : Hid (∀ X, Below w.heap.size w X → Lists.Reads X v L) := fun X hb => hL.on hb
  have CO := Bx.sok_any r c L v w1 (hL.on T0.out.bl) hf
  clear hw1
  obtain ⟨g0, g1, g2⟩ := id T0.out.bx
  go_enter Try.func19, Try.ntmps19
  go_upto_region 3 with fail
  rw [← HW.out]
  go_wp2_with fail
  refine CO.mono ?_
  rintro e w2 ⟨rfl, hb⟩
  have T1 : Hid (D3 r c v w (sl (w.heap.size + 1) 0 0) (sl (w.heap.size + 2) 0 0) (.slice none 0 0) 0 0 0 w2) := T0.out.up (hb.mono (Nat.le_refl _))
  clear hb T0 CO HW g0 g1 g2
  cases hq : Bx.okB r c L with
  | false =>
    go_wp2_with fail
    exact bodyPost_ret (v := .tuple #[sl (w.heap.size + 1) 0 0, sl (w.heap.size + 2) 0 0]) (by simp [results, Try.results19, go_sem]) rfl ⟨_, _, 0, rfl, T1.out.hy.down (by omega), by omega, T1.out.bl⟩
  | true =>
    obtain ⟨⟨r1, r2⟩, ⟨c1, c2⟩, hn⟩ := size_of hq
    obtain ⟨n1, n2⟩ := Bx.mul_le ⟨r1, r2⟩ ⟨c1, c2⟩
    obtain ⟨n, hnn⟩ : ∃ n : Nat, n = L.length := ⟨_, rfl⟩
    rw [← hnn] at hn
    have e1 : IntKind.i64.wrap (r * c) = (n : Int) := by rw [← hn]; exact IntWalk.i64_in _ (by omega)
    have HN : Hid (n = L.length) := hnn
    have HM : Hid (r * c = (n : Int)) := hn.symm
    have n3 : 1 ≤ n ∧ n ≤ 576 := by omega
    obtain ⟨vb, vo, vc, rfl, v1, v2⟩ := reads_at2 (RL.out w (Below.refl _ _)) (by omega)
    have VC : Hid (∀ X, Below w.heap.size w X → ∀ i, i < n → ∃ z : Int, X.cell? ⟨vb, vo + i, none⟩ = some (.int .i64 z)) := fun X hb i hi => ⟨_, (hb.cell (p := ⟨vb, vo + i, none⟩) v1).trans (v2 i (by omega))⟩
    have lv : L.length = n := hnn.symm
    rw [lv] at T1 RL ⊢
    clear hn hnn hq lv v2 n1 n2 RL hL hf
    have T2 : Hid (D3 r c (.slice (some ⟨vb, vo, none⟩) n vc) w (sl (w.heap.size + 1) 0 0) (sl (w.heap.size + 2) 0 0) (sl w2.heap.size 0 0) 0 0 0 (w2.alloc (Obj.cells #[] 2))) := (by
      have A := T1.out.up (show Below w2.heap.size w2 (w2.alloc (Obj.cells #[] 2)) from (Below.refl _ _).alloc (Nat.le_refl _) _)
      have s2 := T1.out.sz
      have b1 := T1.out.hx.lt
      have b2 := T1.out.hy.lt
      refine ⟨A.bl, A.bx, A.hx, A.hy, AI.lit w2 _ (by omega), A.xy, fun g a b => ?_, fun g a b => ?_, A.sz⟩
      · have := (b1 g a).2; simp [Value.ownBlock] at b; omega
      · have := (b2 g a).2; simp [Value.ownBlock] at b; omega)
    clear T1
    obtain ⟨i0, hi, hz0, hz1, hz2⟩ := info_parts Lists.Try.info2
    have RN : Hid ((1 ≤ r ∧ r ≤ 24) ∧ (1 ≤ c ∧ c ≤ 24)) := ⟨⟨r1, r2⟩, c1, c2⟩
    go_wp2_with fail
    go_loopw [4, 5, 6, 7] (fun x y z i wr => ∃ k : Nat, k ≤ n ∧ i = .int .i64 k ∧ Hid (D3 r c (.slice (some ⟨vb, vo, none⟩) n vc) w x y z k k k wr)) (fun _ _ _ i _ => n - (intOf i).toNat)
    case atStart => exact ⟨0, Nat.zero_le _, rfl, T2⟩
    case round =>
      clear T2
      obtain ⟨k, hk, rfl, S⟩ := hrel
      obtain ⟨xa, xc, rfl⟩ := S.out.hx.form
      obtain ⟨ya, yc, rfl⟩ := S.out.hy.form
      obtain ⟨za, zc, rfl⟩ := S.out.hz.form
      obtain ⟨g0, g1, g2⟩ := id S.out.bx
      by_cases hlt : k < n
      · obtain ⟨z, hz⟩ := VC.out _ S.out.bl k hlt
        have j0 : (0 : Int) ≤ (k : Int) := by omega
        have j1 : (k : Int) < (n : Int) := by omega
        have sz := S.out.sz
        obtain ⟨XL, xl, xr⟩ := S.out.hx
        go_wp2_with (at_builtin; refine wpList_append_own_at _ rfl _ _ 24 rfl (w.heap.size + 1) 2 i0 (.int .i64 0) 1 8 Try.underlying24 hi hz0 hz1 hz2 rfl (by decide) _ _ _ rfl (xr.alloc _) ⟨wr.heap.size, 0, none⟩ 1 1 [.int .i64 z] rfl rfl (cell_one_new wr (.int .i64 z) 2) (one_int _) (by unfold maxLen; omega) (by omega) (by simp; omega) ?_)
        intro x' w5 hown hgrow _ hat
        have S1 : Hid (D3 r c (.slice (some ⟨vb, vo, none⟩) n vc) w (.slice ya k yc) (.slice za k zc) x' k k (k + 1) w5) := (S.out.app xl hgrow hown hat).rot
        clear hown hgrow hat xr xl S g0 g1 g2 hz
        have sz := S1.out.sz
        obtain ⟨YL, yl, yr⟩ := S1.out.hx
        go_wp2_with (at_builtin; refine wpList_append_own_at _ rfl _ _ 24 rfl (w.heap.size + 1) 2 i0 (.int .i64 0) 1 8 Try.underlying24 hi hz0 hz1 hz2 rfl (by decide) _ _ _ rfl (yr.alloc _) ⟨w5.heap.size, 0, none⟩ 1 1 [.int .i64 (-1)] rfl rfl (cell_one_new w5 (.int .i64 (-1)) 2) (one_int _) (by unfold maxLen; omega) (by omega) (by simp; omega) ?_)
        intro y' w6 hown hgrow _ hat
        have S2 : Hid (D3 r c (.slice (some ⟨vb, vo, none⟩) n vc) w (.slice za k zc) x' y' k (k + 1) (k + 1) w6) := (S1.out.app yl hgrow hown hat).rot
        clear hown hgrow hat yr yl S1
        have sz := S2.out.sz
        obtain ⟨ZL, zl, zr⟩ := S2.out.hx
        go_wp2_with (at_builtin; refine wpList_append_own_at _ rfl _ _ 24 rfl (w.heap.size + 1) 2 i0 (.int .i64 0) 1 8 Try.underlying24 hi hz0 hz1 hz2 rfl (by decide) _ _ _ rfl (zr.alloc _) ⟨w6.heap.size, 0, none⟩ 1 1 [.int .i64 0] rfl rfl (cell_one_new w6 (.int .i64 0) 2) (one_int _) (by unfold maxLen; omega) (by omega) (by simp; omega) ?_)
        intro z' w7 hown hgrow _ hat
        have S3 : Hid (D3 r c (.slice (some ⟨vb, vo, none⟩) n vc) w x' y' z' (k + 1) (k + 1) (k + 1) w7) := (S2.out.app zl hgrow hown hat).rot
        clear hown hgrow hat zr zl S2
        obtain ⟨g0, g1, g2⟩ := id S3.out.bx
        go_wp2_with fail
        refine (edge_any r c k RN.out.1 RN.out.2 (by omega) _ w7).mono ?_
        rintro e w8 ⟨q, rfl, hb⟩
        have S4 : Hid (D3 r c (.slice (some ⟨vb, vo, none⟩) n vc) w x' y' z' (k + 1) (k + 1) (k + 1) w8) := S3.out.up hb
        clear g0 g1 g2 hb S3
        cases q with
        | false =>
          go_wp2_with fail
          go_roundw
          case rel => exact ⟨k + 1, by omega, by go_num, S4⟩
          case measure => simp [intOf]; omega
        | true =>
          obtain ⟨gz, cz, rfl, gl, gh⟩ := S4.out.hz.at (Nat.succ_pos k)
          obtain ⟨u, hu, fu⟩ := S4.out.hz.get k (by omega)
          have j2 : (k : Int) < ((k + 1 : Nat) : Int) := by omega
          have S5 : Hid (D3 r c (.slice (some ⟨vb, vo, none⟩) n vc) w x' y' (sl gz (k + 1) cz) (k + 1) (k + 1) (k + 1) (w8.setCell ⟨gz, k, none⟩ (.int .i64 1))) := S4.out.put gl 1
          clear S4
          go_wp2_with fail
          go_roundw
          case rel => exact ⟨k + 1, by omega, by go_num, S5⟩
          case measure => simp [intOf]; omega
      · have hkn : n = k := by omega
        subst hkn
        have jj : ¬ (n : Int) < (n : Int) := by omega
        obtain ⟨gx, cx, ex, lx1, lx2⟩ := S.out.hx.at n3.1
        obtain ⟨gy, cy, ey, ly1, ly2⟩ := S.out.hy.at n3.1
        obtain ⟨gz, cz, ez, lz1, lz2⟩ := S.out.hz.at n3.1
        cases ex
        cases ey
        cases ez
        have nxz : gx ≠ gz := fun e => S.out.xz gx rfl (by rw [e]; rfl)
        have nyz : gy ≠ gz := fun e => S.out.yz gy rfl (by rw [e]; rfl)
        clear hlt hk
        go_wp2_with fail
        go_loopw [8, 9, 10, 11, 12] (fun _ _ _ _ _ wr => Hid (D3 r c (.slice (some ⟨vb, vo, none⟩) n vc) w (sl gx n xc) (sl gy n yc) (sl gz n zc) n n n wr)) (fun _ _ _ _ _ wr => still (rowOf wr gz n))
        case atStart => exact S
        case round =>
          clear S g0 g1 g2
          have S : Hid (D3 r c (.slice (some ⟨vb, vo, none⟩) n vc) w (sl gx n xc) (sl gy n yc) (sl gz n zc) n n n wr) := hrel
          clear hrel
          obtain ⟨wb, hwb⟩ : ∃ q : World, q = wr := ⟨_, rfl⟩
          subst hwb
          go_wp2_with fail
          go_loopw [8, 9] (fun a i wx => (∃ k : Nat, k ≤ n ∧ i = .int .i64 k) ∧ (a = .int .i64 (-1) ∨ ∃ t : Nat, t < n ∧ a = .int .i64 t ∧ Hid (wb.cell? ⟨gz, t, none⟩ = some (.int .i64 1))) ∧ ∃ m, wx = wb.drewN m) (fun _ i _ => n - (intOf i).toNat)
          case atStart => exact ⟨⟨0, Nat.zero_le _, rfl⟩, .inl rfl, 0, rfl⟩
          case round =>
            obtain ⟨⟨k, hk, rfl⟩, ha, m, rfl⟩ := hrel
            by_cases hlt : k < n
            · have SD := S.out
              obtain ⟨z, hz, fz⟩ := SD.hz.get k hlt
              have hz' : wb.cell? ⟨gz, k, none⟩ = some (.int .i64 z) := hz
              have HZ : Hid (z = 1 → wb.cell? ⟨gz, k, none⟩ = some (.int .i64 1)) := fun e => by rw [hz', e]
              have j0 : (0 : Int) ≤ (k : Int) := by omega
              have j1 : (k : Int) < (n : Int) := by omega
              obtain ⟨x1, hx1, _⟩ := SD.hx.get k hlt
              clear hz'
              by_cases e1 : z = 1
              · have C1 : Hid (wb.cell? ⟨gz, k, none⟩ = some (.int .i64 1)) := HZ.out e1
                subst e1
                rcases ha with rfl | ⟨t, ht, rfl, ha⟩
                · go_wp2_with fail
                  go_quiet (fail)
                  go_wp2_with fail
                  go_roundw
                  case rel => exact ⟨⟨k + 1, by omega, by go_num⟩, .inr ⟨k, hlt, rfl, C1⟩, ⟨_, by first | rfl | exact World.drewN_drewN _ _ _⟩⟩
                  case measure => simp [intOf]; omega
                · obtain ⟨x2, hx2, _⟩ := SD.hx.get t ht
                  have t0 : (0 : Int) ≤ (t : Int) := by omega
                  have t1 : (t : Int) < (n : Int) := by omega
                  have td : decide ((t : Int) < 0) = false := by simp
                  by_cases e2 : x1 < x2
                  · go_wp2_with fail
                    go_quiet (fail)
                    go_wp2_with fail
                    go_roundw
                    case rel => exact ⟨⟨k + 1, by omega, by go_num⟩, .inr ⟨k, hlt, rfl, C1⟩, ⟨_, by first | rfl | exact World.drewN_drewN _ _ _⟩⟩
                    case measure => simp [intOf]; omega
                  · have e3 : decide (x1 < x2) = false := by simpa using e2
                    go_wp2_with fail
                    go_quiet (fail)
                    go_wp2_with fail
                    go_roundw
                    case rel => exact ⟨⟨k + 1, by omega, by go_num⟩, .inr ⟨t, ht, rfl, ha⟩, ⟨_, by first | rfl | exact World.drewN_drewN _ _ _⟩⟩
                    case measure => simp [intOf]; omega
              · have e2 : (z == 1) = false := by simpa using e1
                go_wp2_with fail
                go_quiet (fail)
                go_wp2_with fail
                go_roundw
                case rel => exact ⟨⟨k + 1, by omega, by go_num⟩, ha, ⟨_, by first | rfl | exact World.drewN_drewN _ _ _⟩⟩
                case measure => simp [intOf]; omega
            · have hkn : n = k := by omega
              subst hkn
              have jj : ¬ (n : Int) < (n : Int) := by omega
              rcases ha with rfl | ⟨t, ht, rfl, ha⟩
              · have SD := S.out.drewN m
                go_wp2_with fail
                exact bodyPost_ret (v := .tuple #[sl gx n xc, sl gy n yc]) (by simp [results, Try.results19, go_sem]) rfl ⟨_, _, rfl, n, SD.hy.down (by omega), n3.2, SD.bl⟩
              · have SD : Hid (D3 r c (.slice (some ⟨vb, vo, none⟩) n vc) w (sl gx n xc) (sl gy n yc) (sl gz n zc) n n n (wb.drewN m)) := S.out.drewN m
                have t0 : (0 : Int) ≤ (t : Int) := by omega
                have t1 : (t : Int) < (n : Int) := by omega
                have td : decide ((t : Int) < 0) = false := by simp
                have td2 : ¬ (t : Int) < 0 := by omega
                obtain ⟨wd, hwd⟩ : ∃ q : World, q = wb.drewN m := ⟨_, rfl⟩
                have hw1 : wd.cell? ⟨gz, t, none⟩ = some (.int .i64 1) := by rw [hwd]; simpa using ha.out
                have RW : Hid (rowOf wb gz n = rowOf wd gz n) := (by show _ = _; rw [hwd]; exact (rowOf_same (fun i _ => by simp)).symm)
                rw [← hwd] at SD ⊢
                clear hwd ha
                obtain ⟨_, _, fz⟩ := SD.out.hz.get t ht
                have S2 : Hid (D3 r c (.slice (some ⟨vb, vo, none⟩) n vc) w (sl gx n xc) (sl gy n yc) (sl gz n zc) n n n (wd.setCell ⟨gz, t, none⟩ (.int .i64 2))) := SD.out.put lz1 2
                have M2 : Hid (still (rowOf (wd.setCell ⟨gz, t, none⟩ (.int .i64 2)) gz n) < still (rowOf wb gz n)) := (by
                  show _ < _
                  rw [RW.out, rowOf_set ht hw1]
                  exact still_two _ _ (by rw [rowOf_len]; exact ht) (by rw [rowOf_at ht hw1]; decide))
                clear S SD RW
                go_upto_region 23 with fail
                obtain ⟨we, hwe⟩ : ∃ q : World, q = wd.setCell ⟨gz, t, none⟩ (.int .i64 2) := ⟨_, rfl⟩
                rw [← hwe] at S2 M2 ⊢
                clear hwe hw1 fz
                obtain ⟨g0, g1, g2⟩ := id S2.out.bx
                go_wp2_with fail
                refine (sides_any r c t RN.out.1 RN.out.2 (by have := HM.out; omega) _ we).mono ?_
                rintro e wf ⟨sv, rfl, hs, hb⟩
                have SI : Hid (∀ i, i < (s4 r c t).length → ∃ (gs cs y : Nat), y < n ∧ sv = .slice (some ⟨gs, 0, none⟩) (s4 r c t).length cs ∧ we.heap.size ≤ gs ∧ gs < wf.heap.size ∧ wf.cell? ⟨gs, i, none⟩ = some (.int .i64 y)) := (by
                  intro i hi
                  have hm := (s4_in RN.out.2.1 (show 0 ≤ (t : Int) ∧ (t : Int) < r * c by have := HM.out; omega)).2 ((s4 r c t).getD i 0) (by rw [List.getD_eq_getElem?_getD, List.getElem?_eq_getElem hi]; exact List.getElem_mem _)
                  rw [HM.out] at hm
                  rcases row_cases hs with ⟨e, _⟩ | ⟨gs, cs, e⟩
                  · omega
                  · subst e
                    have l := hs.lt gs rfl
                    refine ⟨gs, cs, ((s4 r c t).getD i 0).toNat, by omega, rfl, l.1, l.2, ?_⟩
                    rw [Ct.row_get hs rfl i hi]
                    congr 2
                    omega)
                have ls4 := (s4_in RN.out.2.1 (show 0 ≤ (t : Int) ∧ (t : Int) < r * c by have := HM.out; omega)).1
                obtain ⟨sa, sc, es⟩ := Gd.row_form hs
                subst es
                have S3 : Hid (D3 r c (.slice (some ⟨vb, vo, none⟩) n vc) w (sl gx n xc) (sl gy n yc) (sl gz n zc) n n n wf) := S2.out.up hb
                have lx3 := (S2.out.hx.lt gx rfl).2
                have ly3 := (S2.out.hy.lt gy rfl).2
                have lz3 := (S2.out.hz.lt gz rfl).2
                have M3 : Hid (still (rowOf wf gz n) < still (rowOf wb gz n)) := (by
                  show _ < _
                  rw [rowOf_same (fun i _ => hb.cell (p := ⟨gz, i, none⟩) lz3)]
                  exact M2.out)
                clear S2 M2 hs hb g0 g1 g2
                generalize (s4 r c (t : Int)).length = ls at *
                go_wp2_with fail
                go_loopw [11, 12] (fun i _ wx => ∃ k : Nat, k ≤ ls ∧ i = .int .i64 k ∧ Hid (D3 r c (.slice (some ⟨vb, vo, none⟩) n vc) w (sl gx n xc) (sl gy n yc) (sl gz n zc) n n n wx) ∧ Hid (still (rowOf wx gz n) < still (rowOf wb gz n)) ∧ Hid (∀ g o, we.heap.size ≤ g → g < wf.heap.size → wx.cell? ⟨g, o, none⟩ = wf.cell? ⟨g, o, none⟩)) (fun i _ _ => ls - (intOf i).toNat)
                case atStart => exact ⟨0, Nat.zero_le _, rfl, S3, M3, fun _ _ _ _ => rfl⟩
                case round =>
                  clear S3 M3
                  obtain ⟨k, hk, rfl, S, M, K⟩ := hrel
                  by_cases hlt : k < ls
                  · obtain ⟨gs, cs, y, hy, es, s1, s2, s3⟩ := SI.out k hlt
                    have c1 : wr.cell? ⟨gs, k, none⟩ = some (.int .i64 y) := (K.out gs k s1 s2).trans s3
                    have HE : Hid (sa = some ⟨gs, 0, none⟩) := (by show _ = _; cases es; rfl)
                    clear es s3
                    have HE2 := HE.out
                    subst HE2
                    obtain ⟨h1, hz, fz⟩ := S.out.hz.get y hy
                    obtain ⟨_, _, fy⟩ := S.out.hy.get y hy
                    have j0 : (0 : Int) ≤ (k : Int) := by omega
                    have j1 : (k : Int) < (ls : Int) := by omega
                    have y0 : (0 : Int) ≤ (y : Int) := by omega
                    have y1 : (y : Int) < (n : Int) := by omega
                    by_cases e1 : h1 = 0
                    · subst e1
                      have S5 : Hid (D3 r c (.slice (some ⟨vb, vo, none⟩) n vc) w (sl gx n xc) (sl gy n yc) (sl gz n zc) n n n ((wr.setCell ⟨gz, y, none⟩ (.int .i64 1)).setCell ⟨gy, y, none⟩ (.int .i64 t))) := (S.out.put lz1 1).put ly1 t
                      have M5 : Hid (still (rowOf ((wr.setCell ⟨gz, y, none⟩ (.int .i64 1)).setCell ⟨gy, y, none⟩ (.int .i64 t)) gz n) < still (rowOf wb gz n)) := (by
                        show _ < _
                        rw [rowOf_same (fun i _ => World.cell?_setCell_other _ _ _ _ (fun q => by simp at q <;> exact nyz q.1.symm)), rowOf_set hy hz]
                        exact Nat.lt_of_le_of_lt (still_one _ _ (by rw [rowOf_at hy hz]; decide)) M.out)
                      have K5 : Hid (∀ g o, we.heap.size ≤ g → g < wf.heap.size → ((wr.setCell ⟨gz, y, none⟩ (.int .i64 1)).setCell ⟨gy, y, none⟩ (.int .i64 t)).cell? ⟨g, o, none⟩ = wf.cell? ⟨g, o, none⟩) := (fun g o a b => by
                        rw [World.cell?_setCell_other _ _ _ _ (fun q => by simp at q <;> omega), World.cell?_setCell_other _ _ _ _ (fun q => by simp at q <;> omega)]
                        exact K.out g o a b)
                      go_upto_region 31 with fail
                      obtain ⟨wg, hwg⟩ : ∃ q : World, q = (wr.setCell ⟨gz, y, none⟩ (.int .i64 1)).setCell ⟨gy, y, none⟩ (.int .i64 t) := ⟨_, rfl⟩
                      rw [← hwg] at S5 M5 K5 ⊢
                      clear hwg S M K c1 hz fz fy
                      obtain ⟨g0, g1, g2⟩ := id S5.out.bx
                      obtain ⟨xv, hxv⟩ := VC.out wg S5.out.bl y hy
                      obtain ⟨x1, hx1, fx⟩ := S5.out.hx.get y hy
                      obtain ⟨x2, hx2, _⟩ := S5.out.hx.get t ht
                      have S6 : Hid (∀ u, D3 r c (.slice (some ⟨vb, vo, none⟩) n vc) w (sl gx n xc) (sl gy n yc) (sl gz n zc) n n n (wg.drew.setCell ⟨gx, y, none⟩ (.int .i64 u))) := fun u => (S5.out.drewN 1).put lx1 u
                      have M6 : Hid (∀ u, still (rowOf (wg.drew.setCell ⟨gx, y, none⟩ (.int .i64 u)) gz n) < still (rowOf wb gz n)) := (fun u => by
                        rw [rowOf_same (w := wg) (fun i _ => (World.cell?_setCell_other _ _ _ _ (fun q => by simp at q <;> exact nxz q.1.symm)).trans (by simp))]
                        exact M5.out)
                      have K6 : Hid (∀ u g o, we.heap.size ≤ g → g < wf.heap.size → (wg.drew.setCell ⟨gx, y, none⟩ (.int .i64 u)).cell? ⟨g, o, none⟩ = wf.cell? ⟨g, o, none⟩) := (fun u g o a b => by
                        rw [World.cell?_setCell_other _ _ _ _ (fun q => by simp at q <;> omega)]
                        exact (by simp : wg.drew.cell? ⟨g, o, none⟩ = wg.cell? ⟨g, o, none⟩).trans (K5.out g o a b))
                      clear S5 M5 K5
                      go_region
                      all_goals
                        go_wp2_with fail
                        go_roundw
                        case rel => exact ⟨k + 1, by omega, by go_num, S6.out _, M6.out _, K6.out _⟩
                        case measure => simp [intOf]; omega
                    · have e2 : (h1 == 0) = false := by simpa using e1
                      go_wp2_with fail
                      go_roundw
                      case rel => exact ⟨k + 1, by omega, by go_num, S, M, K⟩
                      case measure => simp [intOf]; omega
                  · have hkn : ls = k := by omega
                    subst hkn
                    have jj : ¬ (ls : Int) < (ls : Int) := by omega
                    go_wp2_with fail
                    go_roundw
                    case rel => exact S
                    case measure => exact M.out
end Go.Proofs.Ytjhoagbcfpbelaa.Xa
