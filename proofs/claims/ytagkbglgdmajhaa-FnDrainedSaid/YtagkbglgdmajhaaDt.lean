/- Drain of the model, walked. -/
import Derived.Test.YtagkbglgdmajhaaDs
import Derived.Deep.QuietTactic
import Derived.BigQuiet
namespace Go.Proofs.Ytagkbglgdmajhaa.Hm
open Go.ChangeShapes Go.WideShapes Go.ChangeAt Go.RowKit
open Go.Proofs.Ytagkbglgdmajhaa.Lists Go.Proofs.Ytagkbglgdmajhaa.Dp Go.Proofs.Ytagkbglgdmajhaa.Hp Go.Proofs.Ytagkbglgdmajhaa.Gd

theorem lit2 (w : World) (B : Nat) (hB : B ≤ w.heap.size) : (w.alloc (Obj.cells #[] 2)).ownsRow B 2 1 (.slice (some ⟨w.heap.size, 0, none⟩) 0 0) 0 (ints []) := World.ownsRow_lit w #[] 0 hB (Nat.zero_le _) rfl
theorem cell_one (w : World) (v0 : Value) (t : TypeId) : ∀ j u, [v0][j]? = some u → (w.alloc (Obj.cells #[v0] t)).cell? ((⟨w.heap.size, 0, none⟩ : Addr).add j) = some u := by
  intro j u hj
  match j, hj with
  | 0, hj => simp at hj; subst hj; simp [Addr.add]
/-- the empty lists ahead of all -/
theorem md_start (r c : Int) (v : Value) (w : World) : MD r c v w (.slice (some ⟨w.heap.size + 1, 0, none⟩) 0 0) (.slice (some ⟨w.heap.size + 2, 0, none⟩) 0 0) (.slice none 0 0) [] [] [] (((w.alloc (Obj.cells #[.int .i64 r, .int .i64 c, v] 28)).alloc (Obj.cells #[] 2)).alloc (Obj.cells #[] 2)) := by
  refine ⟨(((Below.refl _ _).alloc (Nat.le_refl _) _).alloc (by simp) _).alloc (by simp; omega) _, ?_, ?_, ?_, World.ownsRow_nil _ _ _ _, fun g a b => ?_, fun g a b => (by cases b), fun g a b => (by cases b)⟩
  · exact ((Bl.new w 28 _).on ((Below.refl _ _).alloc (Nat.le_refl _) _)).on ((Below.refl _ _).alloc (Nat.le_refl _) _)
  · have := lit2 (w.alloc (Obj.cells #[.int .i64 r, .int .i64 c, v] 28)) (w.heap.size + 1) (by simp)
    simp only [World.size_alloc] at this
    exact Bx.row_on this ((Below.refl _ _).alloc (Nat.le_refl _) _)
  · have := lit2 ((w.alloc (Obj.cells #[.int .i64 r, .int .i64 c, v] 28)).alloc (Obj.cells #[] 2)) (w.heap.size + 1) (by simp)
    simpa using this
  · simp [Value.ownBlock] at a b; omega
theorem md_third {r c : Int} {v : Value} {w wr : World} {x y z : Value} {A B : List Int} (h : MD r c v w x y z A B [] wr) : MD r c v w x y (.slice (some ⟨wr.heap.size, 0, none⟩) 0 0) A B [] (wr.alloc (Obj.cells #[] 2)) := by
  have k := h.up (show Below wr.heap.size wr (wr.alloc (Obj.cells #[] 2)) from (Below.refl _ _).alloc (Nat.le_refl _) _)
  have s := h.sz
  refine ⟨k.bl, k.bx, k.hx, k.hy, lit2 wr _ (by omega), k.xy, fun g a b => ?_, fun g a b => ?_⟩
  · have := (h.hx.lt g a).2; simp [Value.ownBlock] at b; omega
  · have := (h.hy.lt g a).2; simp [Value.ownBlock] at b; omega

set_option maxRecDepth 20000 in
set_option maxHeartbeats 1000000 in
theorem sdrain_no (r c : Int) (v : Value) (L : List Int) (w : World) (hL : Lists.Reads w v L) (hf : L.length < 9223372036854775808) (hq : Bx.okB r c L = false) :
    Calls Try.prog 6 #[Bx.sv r c v] w fun e w' => ∃ v1 v2, e = .returned (.tuple #[v1, v2]) ∧ w'.ownsRow w.heap.size 2 1 v1 0 (ints []) ∧ w'.ownsRow w.heap.size 2 1 v2 0 (ints []) ∧ (∀ b, v1.ownBlock = some b → v2.ownBlock ≠ some b) ∧ Below w.heap.size w w' := by
  obtain ⟨w1, hw1⟩ : ∃ w1, w1 = ((w.alloc (Obj.cells #[.int .i64 r, .int .i64 c, v] 28)).alloc (Obj.cells #[] 2)).alloc (Obj.cells #[] 2) := ⟨_, rfl⟩
  have HW : Hid (w1 = ((w.alloc (Obj.cells #[.int .i64 r, .int .i64 c, v] 28)).alloc (Obj.cells #[] 2)).alloc (Obj.cells #[] 2)) := hw1
  have T0 : Hid (MD r c v w (.slice (some ⟨w.heap.size + 1, 0, none⟩) 0 0) (.slice (some ⟨w.heap.size + 2, 0, none⟩) 0 0) (.slice none 0 0) [] [] [] w1) := (by show MD _ _ _ _ _ _ _ _ _ _ _; rw [hw1]; exact md_start r c v w)
  have CO := Bx.sok_any r c L v w1 (hL.on T0.out.bl) hf
  rw [hq] at CO
  have CC : Hid (Calls Try.prog 16 #[Bx.sv r c v] w1 fun e w' => e = .returned (.bool false) ∧ Below w1.heap.size w1 w') := CO
  clear hw1 hq hL hf CO
  obtain ⟨g0, g1, g2⟩ : w1.cell? ⟨w.heap.size, 0, none⟩ = some (.int .i64 r) ∧ w1.cell? ⟨w.heap.size, 1, none⟩ = some (.int .i64 c) ∧ w1.cell? ⟨w.heap.size, 2, none⟩ = some v := ⟨T0.out.bx.cell 0, T0.out.bx.cell 1, T0.out.bx.cell 2⟩
  go_enter Try.func6, Try.ntmps6
  go_upto_region 3 with fail
  rw [← HW.out]
  go_wp2_with fail
  refine CC.out.mono ?_
  rintro e w2 ⟨rfl, hb⟩
  have T1 : Hid (MD r c v w (.slice (some ⟨w.heap.size + 1, 0, none⟩) 0 0) (.slice (some ⟨w.heap.size + 2, 0, none⟩) 0 0) (.slice none 0 0) [] [] [] w2) := T0.out.up hb
  clear hb T0 CC HW g0 g1 g2
  go_wp2_with fail
  exact bodyPost_ret (v := .tuple #[.slice (some ⟨w.heap.size + 1, 0, none⟩) 0 0, .slice (some ⟨w.heap.size + 2, 0, none⟩) 0 0]) (by simp [results, Try.results6, go_sem]) rfl ⟨_, _, rfl, Bx.own_down T1.out.hx (by omega), Bx.own_down T1.out.hy (by omega), fun b hb x => T1.out.xy b hb x, T1.out.bl⟩

set_option maxRecDepth 20000 in
set_option maxHeartbeats 4000000 in
theorem sdrain_yes (r c : Int) (v : Value) (L : List Int) (w : World) (hL : Lists.Reads w v L) (hq : Bx.okB r c L = true) :
    Calls Try.prog 6 #[Bx.sv r c v] w fun e w' => DPo r c L w e w' := by
  obtain ⟨⟨r1, r2⟩, ⟨c1, c2⟩, hn⟩ := size_of hq
  obtain ⟨n1, n2⟩ := Bx.mul_le ⟨r1, r2⟩ ⟨c1, c2⟩
  obtain ⟨w1, hw1⟩ : ∃ w1, w1 = ((w.alloc (Obj.cells #[.int .i64 r, .int .i64 c, v] 28)).alloc (Obj.cells #[] 2)).alloc (Obj.cells #[] 2) := ⟨_, rfl⟩
  have HW : Hid (w1 = ((w.alloc (Obj.cells #[.int .i64 r, .int .i64 c, v] 28)).alloc (Obj.cells #[] 2)).alloc (Obj.cells #[] 2)) := hw1
  have T0 : Hid (MD r c v w (.slice (some ⟨w.heap.size + 1, 0, none⟩) 0 0) (.slice (some ⟨w.heap.size + 2, 0, none⟩) 0 0) (.slice none 0 0) [] [] [] w1) := (by show MD _ _ _ _ _ _ _ _ _ _ _; rw [hw1]; exact md_start r c v w)
  have CO := Bx.sok_any r c L v w1 (hL.on T0.out.bl) (by omega)
  rw [hq] at CO
  have CC : Hid (Calls Try.prog 16 #[Bx.sv r c v] w1 fun e w' => e = .returned (.bool true) ∧ Below w1.heap.size w1 w') := CO
  obtain ⟨n, hnn⟩ : ∃ n : Nat, n = L.length := ⟨_, rfl⟩
  have n3 : 1 ≤ n ∧ n ≤ 576 := by omega
  have e1 : IntKind.i64.wrap (r * c) = (n : Int) := by rw [← hn, ← hnn]; exact IntWalk.i64_in _ (by omega)
  obtain ⟨vb, vo, vc, hv0, v1, v2⟩ := reads_at2 hL (by omega)
  rw [← hnn] at v2 hv0
  subst hv0
  have VC : Hid (∀ X, Below w.heap.size w X → ∀ i, i < n → X.cell? ⟨vb, vo + i, none⟩ = some (.int .i64 (L.getD i 0))) := fun X hb i hi => (hb.cell (p := ⟨vb, vo + i, none⟩) v1).trans (v2 i hi)
  have RN : Hid ((1 ≤ r ∧ r ≤ 24) ∧ (1 ≤ c ∧ c ≤ 24)) := ⟨⟨r1, r2⟩, c1, c2⟩
  have HN : Hid (n = L.length) := hnn
  have HM : Hid ((L.length : Int) = r * c) := hn
  obtain ⟨i0, hi, hz0, hz1, hz2⟩ := info_parts Lists.Try.info2
  clear hw1 hq hL CO hn hnn n1 n2 v2
  obtain ⟨n3, n4⟩ := n3
  obtain ⟨g0, g1, g2⟩ : w1.cell? ⟨w.heap.size, 0, none⟩ = some (.int .i64 r) ∧ w1.cell? ⟨w.heap.size, 1, none⟩ = some (.int .i64 c) ∧ w1.cell? ⟨w.heap.size, 2, none⟩ = some (.slice (some ⟨vb, vo, none⟩) n vc) := ⟨T0.out.bx.cell 0, T0.out.bx.cell 1, T0.out.bx.cell 2⟩
  go_enter Try.func6, Try.ntmps6
  go_upto_region 3 with fail
  rw [← HW.out]
  go_wp2_with fail
  refine CC.out.mono ?_
  rintro e w2 ⟨rfl, hb⟩
  have T1 := T0.out.up hb
  have T2 : Hid (MD r c (.slice (some ⟨vb, vo, none⟩) n vc) w (.slice (some ⟨w.heap.size + 1, 0, none⟩) 0 0) (.slice (some ⟨w.heap.size + 2, 0, none⟩) 0 0) (.slice (some ⟨w2.heap.size, 0, none⟩) 0 0) (L.take 0) (List.replicate 0 (-1)) (Hk r c 0) (w2.alloc (Obj.cells #[] 2))) := md_third T1
  clear hb T0 T1 CC HW g0 g1 g2
  go_wp2_with fail
  go_loopw [4, 5, 6, 7] (fun x y z i wr => ∃ k : Nat, k ≤ n ∧ i = .int .i64 k ∧ Hid (MD r c (.slice (some ⟨vb, vo, none⟩) n vc) w x y z (L.take k) (List.replicate k (-1)) (Hk r c k) wr)) (fun _ _ _ i _ => n - (intOf i).toNat)
  case atStart => exact ⟨0, Nat.zero_le _, rfl, T2⟩
  case round =>
    clear T2
    obtain ⟨k, hk, rfl, S⟩ := hrel
    obtain ⟨x, hx⟩ : ∃ x, x = u4 := ⟨_, rfl⟩
    obtain ⟨y, hy⟩ : ∃ y, y = u5 := ⟨_, rfl⟩
    obtain ⟨z, hz⟩ : ∃ z, z = u6 := ⟨_, rfl⟩
    subst hx hy hz
    have lk : (L.take k).length = k := by rw [List.length_take, ← HN.out]; omega
    have S0 := S.out
    obtain ⟨xa, xc, ex⟩ := Gd.row_form S0.hx
    obtain ⟨ya, yc, ey⟩ := Gd.row_form S0.hy
    obtain ⟨za, zc, ez⟩ := Gd.row_form S0.hz
    rw [lk] at ex
    rw [List.length_replicate] at ey
    rw [Hk_len] at ez
    subst ex ey ez
    clear S0
    obtain ⟨g0, g1, g2⟩ : wr.cell? ⟨w.heap.size, 0, none⟩ = some (.int .i64 r) ∧ wr.cell? ⟨w.heap.size, 1, none⟩ = some (.int .i64 c) ∧ wr.cell? ⟨w.heap.size, 2, none⟩ = some (.slice (some ⟨vb, vo, none⟩) n vc) := ⟨S.out.bx.cell 0, S.out.bx.cell 1, S.out.bx.cell 2⟩
    by_cases hlt : k < n
    · have hzv := VC.out wr S.out.bl k hlt
      have j0 : (0 : Int) ≤ (k : Int) := by omega
      have j1 : (k : Int) < (n : Int) := by omega
      have sz := S.out.sz
      have TS : Hid (L.take k ++ [L.getD k 0] = L.take (k + 1)) := take_snoc (by rw [← HN.out]; exact hlt)
      generalize L.getD k 0 = zz at hzv TS
      obtain ⟨A, hA⟩ : ∃ A, A = L.take k := ⟨_, rfl⟩
      obtain ⟨B, hB⟩ : ∃ B, B = List.replicate k (-1 : Int) := ⟨_, rfl⟩
      obtain ⟨C, hC⟩ : ∃ C, C = Hk r c k := ⟨_, rfl⟩
      have LA : A.length = k := by rw [hA]; exact lk
      have LB : B.length = k := by rw [hB]; exact List.length_replicate
      have LC : C.length = k := by rw [hC]; exact Hk_len r c k
      rw [← hA, ← hB, ← hC] at S
      rw [← hA] at TS
      have HB : Hid (B = List.replicate k (-1 : Int)) := hB
      have HC : Hid (C = Hk r c k) := hC
      have LL : Hid (A.length = k ∧ B.length = k ∧ C.length = k) := ⟨LA, LB, LC⟩
      have xr := S.out.hx
      rw [LA] at xr
      clear hA hB hC LA LB LC lk
      go_wp2_with (at_builtin; refine wpList_append_own_at _ rfl _ _ 22 rfl (w.heap.size + 1) 2 i0 (.int .i64 0) 1 8 Try.underlying22 hi hz0 hz1 hz2 rfl (by decide) _ _ _ rfl (xr.alloc _) ⟨wr.heap.size, 0, none⟩ 1 1 [.int .i64 zz] rfl rfl (cell_one wr (.int .i64 zz) 2) (one_int _) (by unfold maxLen; omega) (by omega) (by simp; omega) ?_)
      intro x' w5 hown hgrow _ hat
      have S1 : Hid (MD r c (.slice (some ⟨vb, vo, none⟩) n vc) w (.slice ya k yc) (.slice za k zc) x' B C (A ++ [zz]) w5) := (S.out.app hgrow (by rw [LL.out.1]; exact hown) hat).rot
      clear hown hgrow hat xr S g0 g1 g2 hzv
      have sz := S1.out.sz
      have yr := S1.out.hx
      rw [LL.out.2.1] at yr
      go_wp2_with (at_builtin; refine wpList_append_own_at _ rfl _ _ 22 rfl (w.heap.size + 1) 2 i0 (.int .i64 0) 1 8 Try.underlying22 hi hz0 hz1 hz2 rfl (by decide) _ _ _ rfl (yr.alloc _) ⟨w5.heap.size, 0, none⟩ 1 1 [.int .i64 (-1)] rfl rfl (cell_one w5 (.int .i64 (-1)) 2) (one_int _) (by unfold maxLen; omega) (by omega) (by simp; omega) ?_)
      intro y' w6 hown hgrow _ hat
      have S2 : Hid (MD r c (.slice (some ⟨vb, vo, none⟩) n vc) w (.slice za k zc) x' y' C (A ++ [zz]) (B ++ [-1]) w6) := (S1.out.app hgrow (by rw [LL.out.2.1]; exact hown) hat).rot
      clear hown hgrow hat yr S1
      have sz := S2.out.sz
      have zr := S2.out.hx
      rw [LL.out.2.2] at zr
      go_wp2_with (at_builtin; refine wpList_append_own_at _ rfl _ _ 22 rfl (w.heap.size + 1) 2 i0 (.int .i64 0) 1 8 Try.underlying22 hi hz0 hz1 hz2 rfl (by decide) _ _ _ rfl (zr.alloc _) ⟨w6.heap.size, 0, none⟩ 1 1 [.int .i64 0] rfl rfl (cell_one w6 (.int .i64 0) 2) (one_int _) (by unfold maxLen; omega) (by omega) (by simp; omega) ?_)
      intro z' w7 hown hgrow _ hat
      have S3 : Hid (MD r c (.slice (some ⟨vb, vo, none⟩) n vc) w x' y' z' (L.take (k + 1)) (List.replicate (k + 1) (-1)) (Hk r c k ++ [0]) w7) := (by
        have h := (S2.out.app hgrow (by rw [LL.out.2.2]; exact hown) hat).rot
        rw [TS.out, HB.out, HC.out, rep_snoc] at h
        exact h)
      clear hown hgrow hat zr S2
      obtain ⟨g0, g1, g2⟩ : w7.cell? ⟨w.heap.size, 0, none⟩ = some (.int .i64 r) ∧ w7.cell? ⟨w.heap.size, 1, none⟩ = some (.int .i64 c) ∧ w7.cell? ⟨w.heap.size, 2, none⟩ = some (.slice (some ⟨vb, vo, none⟩) n vc) := ⟨S3.out.bx.cell 0, S3.out.bx.cell 1, S3.out.bx.cell 2⟩
      have EC : Hid (Calls Try.prog 20 #[Bx.sv r c (.slice (some ⟨vb, vo, none⟩) n vc), .int .i64 k] w7 fun e w' => e = .returned (.bool (edB r c k)) ∧ Below w7.heap.size w7 w') := sedge_any r c k RN.out.1 RN.out.2 (by omega) _ w7
      obtain ⟨q, hq⟩ : ∃ q, edB r c k = q := ⟨_, rfl⟩
      rw [hq] at EC
      have HQ : Hid (edB r c k = q) := hq
      clear hq
      go_wp2_with fail
      refine EC.out.mono ?_
      rintro e w8 ⟨rfl, hb⟩
      have S4 : Hid (MD r c (.slice (some ⟨vb, vo, none⟩) n vc) w x' y' z' (L.take (k + 1)) (List.replicate (k + 1) (-1)) (Hk r c k ++ [0]) w8) := S3.out.up hb
      clear g0 g1 g2 hb S3 EC
      cases q with
      | false =>
        have S5 : Hid (MD r c (.slice (some ⟨vb, vo, none⟩) n vc) w x' y' z' (L.take (k + 1)) (List.replicate (k + 1) (-1)) (Hk r c (k + 1)) w8) := (by have h := S4.out; rw [Hk_no HQ.out] at h; exact h)
        clear S4
        go_wp2_with fail
        go_roundw
        case rel => exact ⟨k + 1, by omega, by go_num, S5⟩
        case measure => simp [intOf]; omega
      | true =>
        have lz : (Hk r c k ++ [0]).length = k + 1 := by simp [Hk_len]
        obtain ⟨gz, cz, ezz, q1, q2, _⟩ := S4.out.rot.rot.at (i := k) (by rw [lz]; omega)
        rw [lz] at ezz
        subst ezz
        have S5 : Hid (MD r c (.slice (some ⟨vb, vo, none⟩) n vc) w x' y' (.slice (some ⟨gz, 0, none⟩) (k + 1) cz) (L.take (k + 1)) (List.replicate (k + 1) (-1)) (Hk r c (k + 1)) (w8.setCell ⟨gz, k, none⟩ (.int .i64 1))) := (by
          have h := (S4.out.rot.rot.put (i := k) lz.symm 1).rot
          rw [Hk_yes HQ.out] at h
          exact h)
        have j2 : (k : Int) < ((k + 1 : Nat) : Int) := by omega
        generalize (Hk r c k ++ [0]).getD k 0 = q3 at q1
        clear S4 lz
        go_wp2_with fail
        go_roundw
        case rel => exact ⟨k + 1, by omega, by go_num, S5⟩
        case measure => simp [intOf]; omega
    · have hkn : k = n := by omega
      subst hkn
      have jj : ¬ (k : Int) < (k : Int) := by omega
      have S1 : Hid (MD r c (.slice (some ⟨vb, vo, none⟩) k vc) w (.slice xa k xc) (.slice ya k yc) (.slice za k zc) (ini r c L).F (ini r c L).N (ini r c L).H wr) := (by
        have h := S.out
        rw [Hk_all, List.take_of_length_le (by rw [HN.out]; exact Nat.le_refl _)] at h
        show MD r c _ w _ _ _ L (List.replicate L.length (-1)) (H0 r c L.length L.length) wr
        rw [← HN.out]
        exact h)
      have R0 : Hid (Rch r c L 0 (ini r c L)) := rfl
      have LK := lk
      clear S hlt hk LK
      go_wp2_with fail
      go_loopg [8, 9, 10, 11, 12] (k + 1) (fun m _ _ _ _ _ wr => ∃ (kk : Nat) (s : S3), Hid (MD r c (.slice (some ⟨vb, vo, none⟩) k vc) w (.slice xa k xc) (.slice ya k yc) (.slice za k zc) s.F s.N s.H wr) ∧ Hid (Rch r c L kk s) ∧ Hid (m + cnt 2 s.H = k + 1))
      case atStart =>
        refine ⟨0, ini r c L, S1, R0, ?_⟩
        show k + 1 + cnt 2 (H0 r c L.length L.length) = k + 1
        have e : cnt 2 (H0 r c L.length L.length) = 0 := cnt_none (fun x hx => by
          rw [H0_len] at hx
          rw [H0_get r c hx]
          split <;> omega)
        rw [e]
      case round =>
        clear S1 R0 g0 g1 g2
        obtain ⟨kk, s, S, RR, MM⟩ := hrel
        have GD : Hid (Dp.Good r c L s) := rch_good c1 HM.out RR.out
        have LL : Hid (s.F.length = k ∧ s.N.length = k ∧ s.H.length = k) := ⟨by rw [GD.out.inv.lf, HN.out], by rw [GD.out.inv.ln, HN.out], by rw [GD.out.inv.lh, HN.out]⟩
        obtain ⟨gx, cx, ex, _⟩ := S.out.at (i := 0) (by rw [LL.out.1]; omega)
        obtain ⟨gy, cy, ey, _⟩ := S.out.rot.at (i := 0) (by rw [LL.out.2.1]; omega)
        obtain ⟨gz, cz, ez, _⟩ := S.out.rot.rot.at (i := 0) (by rw [LL.out.2.2]; omega)
        injection ex with ex1 ex2 ex3
        injection ey with ey1 ey2 ey3
        injection ez with ez1 ez2 ez3
        subst ex1 ey1 ez1
        clear ex2 ey2 ez2 ex3 ey3 ez3
        have GX : Hid (∀ (u : S3) (X : World), MD r c (.slice (some ⟨vb, vo, none⟩) k vc) w (.slice (some ⟨gx, 0, none⟩) k xc) (.slice (some ⟨gy, 0, none⟩) k yc) (.slice (some ⟨gz, 0, none⟩) k zc) u.F u.N u.H X → u.F.length = k → u.N.length = k → u.H.length = k → ∀ i, i < k → (X.cell? ⟨gx, i, none⟩ = some (.int .i64 (u.F.getD i 0)) ∧ X.frozen? ⟨gx, i, none⟩ = false) ∧ (X.cell? ⟨gy, i, none⟩ = some (.int .i64 (u.N.getD i 0)) ∧ X.frozen? ⟨gy, i, none⟩ = false) ∧ (X.cell? ⟨gz, i, none⟩ = some (.int .i64 (u.H.getD i 0)) ∧ X.frozen? ⟨gz, i, none⟩ = false)) := by
          intro u X d l1 l2 l3 i hi'
          have a1 := d.hx
          have a2 := d.hy
          have a3 := d.hz
          rw [l1] at a1
          rw [l2] at a2
          rw [l3] at a3
          exact ⟨row_at a1 i hi', row_at a2 i hi', row_at a3 i hi'⟩
        have APT : Hid (gx ≠ gy ∧ gx ≠ gz ∧ gy ≠ gz) := ⟨fun e => S.out.xy gx rfl (by rw [e]; rfl), fun e => S.out.xz gx rfl (by rw [e]; rfl), fun e => S.out.yz gy rfl (by rw [e]; rfl)⟩
        obtain ⟨wb, hwb⟩ : ∃ wb, wb = wr := ⟨_, rfl⟩
        subst hwb
        go_wp2_with fail
        go_loopw [8, 9] (fun a i wx => ∃ (j m : Nat), j ≤ k ∧ i = .int .i64 j ∧ Hid (wx = wb.drewN m) ∧ ((a = .int .i64 (-1) ∧ Hid (∀ x, x < j → s.H.getD x 0 ≠ 1)) ∨ ∃ t : Nat, t < k ∧ a = .int .i64 t ∧ Hid (MinTo s.F s.H j t))) (fun _ i _ => k - (intOf i).toNat)
        case atStart => exact ⟨0, 0, Nat.zero_le _, rfl, rfl, .inl ⟨rfl, fun x hx => absurd hx (Nat.not_lt_zero x)⟩⟩
        case round =>
          obtain ⟨j, m, hj, rfl, HR, ha⟩ := hrel
          by_cases hlt : j < k
          · obtain ⟨⟨xj, _⟩, _, hzj, _⟩ := GX.out s wb S.out LL.out.1 LL.out.2.1 LL.out.2.2 j hlt
            have j0 : (0 : Int) ≤ (j : Int) := by omega
            have j1 : (j : Int) < (k : Int) := by omega
            have qz : wr.cell? ⟨gz, j, none⟩ = some (.int .i64 (s.H.getD j 0)) := by rw [HR.out]; exact hzj
            have qx : wr.cell? ⟨gx, j, none⟩ = some (.int .i64 (s.F.getD j 0)) := by rw [HR.out]; exact xj
            clear xj hzj
            by_cases e1 : s.H.getD j 0 = 1
            · rw [e1] at qz
              rcases ha with ⟨rfl, hn0⟩ | ⟨t, ht, rfl, hm0⟩
              · have MF : Hid (MinTo s.F s.H (j + 1) j) := MinTo.first hn0.out e1
                clear hn0 e1
                go_wp2_with fail
                go_quiet (fail)
                go_wp2_with fail
                go_roundw
                case rel => exact ⟨j + 1, m + nq, by omega, by go_num, (by show _ = _; rw [HR.out]; exact World.drewN_drewN _ _ _), .inr ⟨j, hlt, rfl, MF⟩⟩
                case measure => simp [intOf]; omega
              · obtain ⟨⟨xt, _⟩, _, _, _⟩ := GX.out s wb S.out LL.out.1 LL.out.2.1 LL.out.2.2 t ht
                have qt : wr.cell? ⟨gx, t, none⟩ = some (.int .i64 (s.F.getD t 0)) := by rw [HR.out]; exact xt
                have t0 : (0 : Int) ≤ (t : Int) := by omega
                have t1 : (t : Int) < (k : Int) := by omega
                have td : decide ((t : Int) < 0) = false := by simp
                clear xt
                by_cases e2 : s.F.getD j 0 < s.F.getD t 0
                · have MF : Hid (MinTo s.F s.H (j + 1) j) := hm0.out.move (by omega) e2 e1
                  clear hm0 e1
                  generalize s.F.getD j 0 = fj at *
                  generalize s.F.getD t 0 = ft at *
                  go_wp2_with fail
                  go_quiet (fail)
                  go_wp2_with fail
                  go_roundw
                  case rel => exact ⟨j + 1, m + nq, by omega, by go_num, (by show _ = _; rw [HR.out]; exact World.drewN_drewN _ _ _), .inr ⟨j, hlt, rfl, MF⟩⟩
                  case measure => simp [intOf]; omega
                · have MF : Hid (MinTo s.F s.H (j + 1) t) := hm0.out.stay e2
                  have e3 : decide (s.F.getD j 0 < s.F.getD t 0) = false := by simpa using e2
                  clear hm0 e1
                  generalize s.F.getD j 0 = fj at *
                  generalize s.F.getD t 0 = ft at *
                  go_wp2_with fail
                  go_quiet (fail)
                  go_wp2_with fail
                  go_roundw
                  case rel => exact ⟨j + 1, m + nq, by omega, by go_num, (by show _ = _; rw [HR.out]; exact World.drewN_drewN _ _ _), .inr ⟨t, ht, rfl, MF⟩⟩
                  case measure => simp [intOf]; omega
            · have e2 : (s.H.getD j 0 == 1) = false := by simpa using e1
              rcases ha with ⟨rfl, h2⟩ | ⟨t, h1, rfl, h3⟩
              · have MF : Hid (∀ x, x < j + 1 → s.H.getD x 0 ≠ 1) := fun x hx => by
                  by_cases xe : x = j
                  · subst xe; exact e1
                  · exact h2.out x (by omega)
                clear h2 e1
                generalize s.H.getD j 0 = hj0 at *
                go_wp2_with fail
                go_quiet (fail)
                go_wp2_with fail
                go_roundw
                case rel => exact ⟨j + 1, m + nq, by omega, by go_num, (by show _ = _; rw [HR.out]; exact World.drewN_drewN _ _ _), .inl ⟨rfl, MF⟩⟩
                case measure => simp [intOf]; omega
              · have MF : Hid (MinTo s.F s.H (j + 1) t) := h3.out.skip e1
                clear h3 e1
                generalize s.H.getD j 0 = hj0 at *
                go_wp2_with fail
                go_quiet (fail)
                go_wp2_with fail
                go_roundw
                case rel => exact ⟨j + 1, m + nq, by omega, by go_num, (by show _ = _; rw [HR.out]; exact World.drewN_drewN _ _ _), .inr ⟨t, h1, rfl, MF⟩⟩
                case measure => simp [intOf]; omega
          · have hjk : j = k := by omega
            subst hjk
            have jj : ¬ (j : Int) < (j : Int) := by omega
            have SW : Hid (MD r c (.slice (some ⟨vb, vo, none⟩) j vc) w (.slice (some ⟨gx, 0, none⟩) j xc) (.slice (some ⟨gy, 0, none⟩) j yc) (.slice (some ⟨gz, 0, none⟩) j zc) s.F s.N s.H wr) := (by show MD _ _ _ _ _ _ _ _ _ _ _; rw [HR.out]; exact S.out.drewN m)
            rcases ha with ⟨rfl, hn0⟩ | ⟨t, ht, rfl, hm0⟩
            · have FF : Hid (DPo r c L w (.returned (.tuple #[.slice (some ⟨gx, 0, none⟩) j xc, .slice (some ⟨gy, 0, none⟩) j yc])) wr) := DPo_of GD.out SW.out RR.out (fun x hx => hn0.out x (by rw [HN.out]; exact hx))
              clear hn0 SW S RR MM GD
              go_wp2_with fail
              exact bodyPost_ret (v := .tuple #[.slice (some ⟨gx, 0, none⟩) j xc, .slice (some ⟨gy, 0, none⟩) j yc]) (by simp [results, Try.results6, go_sem]) rfl FF.out
            · have t0 : (0 : Int) ≤ (t : Int) := by omega
              have t1 : (t : Int) < (j : Int) := by omega
              have td2 : ¬ (t : Int) < 0 := by omega
              have TM : Hid (IsMin j s.F s.H t) := ⟨ht, hm0.out.2.1, hm0.out.2.2⟩
              have TN := ht
              have SM : Hid (MD r c (.slice (some ⟨vb, vo, none⟩) j vc) w (.slice (some ⟨gx, 0, none⟩) j xc) (.slice (some ⟨gy, 0, none⟩) j yc) (.slice (some ⟨gz, 0, none⟩) j zc) (mk s t).F (mk s t).N (mk s t).H (wr.setCell ⟨gz, t, none⟩ (.int .i64 2))) := (SW.out.rot.rot.put (i := t) LL.out.2.2.symm 2).rot
              obtain ⟨_, _, qh, qf⟩ := GX.out s wr SW.out LL.out.1 LL.out.2.1 LL.out.2.2 t ht
              rw [TM.out.2.1] at qh
              clear hm0 SW S
              go_upto_region 23 with fail
              obtain ⟨wc, hwc⟩ : ∃ wc, wc = wr.setCell ⟨gz, t, none⟩ (.int .i64 2) := ⟨_, rfl⟩
              rw [← hwc] at SM ⊢
              clear hwc qh qf
              obtain ⟨g0, g1, g2⟩ : wc.cell? ⟨w.heap.size, 0, none⟩ = some (.int .i64 r) ∧ wc.cell? ⟨w.heap.size, 1, none⟩ = some (.int .i64 c) ∧ wc.cell? ⟨w.heap.size, 2, none⟩ = some (.slice (some ⟨vb, vo, none⟩) j vc) := ⟨SM.out.bx.cell 0, SM.out.bx.cell 1, SM.out.bx.cell 2⟩
              have tx : 0 ≤ (t : Int) ∧ (t : Int) < r * c := by have h1 := HM.out; have h2 := HN.out; omega
              have AC : Hid (Calls Try.prog 21 #[Bx.sv r c (.slice (some ⟨vb, vo, none⟩) j vc), .int .i64 t] wc fun e w' => ∃ v', e = .returned v' ∧ w'.ownsRow wc.heap.size 2 1 v' (s4 r c t).length (ints (s4 r c t)) ∧ Below wc.heap.size wc w') := (by
                have h := sides_any r c t RN.out.1 RN.out.2 tx (.slice (some ⟨vb, vo, none⟩) j vc) wc
                rw [Gd.nbi_is c1 tx] at h
                exact h)
              go_wp2_with fail
              refine AC.out.mono ?_
              rintro e w8 ⟨sv, rfl, a1, a2⟩
              have S8 : Hid (MD r c (.slice (some ⟨vb, vo, none⟩) j vc) w (.slice (some ⟨gx, 0, none⟩) j xc) (.slice (some ⟨gy, 0, none⟩) j yc) (.slice (some ⟨gz, 0, none⟩) j zc) (mk s t).F (mk s t).N (mk s t).H w8) := SM.out.up a2
              have N8 : Hid (NR wc.heap.size sv (s4 r c t) w8) := a1
              have GB : Hid (gx < wc.heap.size ∧ gy < wc.heap.size ∧ gz < wc.heap.size) := ⟨(SM.out.hx.lt gx rfl).2, (SM.out.hy.lt gy rfl).2, (SM.out.hz.lt gz rfl).2⟩
              have Y4 := (s4_in c1 tx).1
              obtain ⟨sa, sc, es⟩ := Gd.row_form a1
              subst es
              obtain ⟨ls, hls⟩ : ∃ ls, ls = (s4 r c t).length := ⟨_, rfl⟩
              have HLS : Hid (ls = (s4 r c t).length) := hls
              rw [← hls] at Y4 N8 ⊢
              clear a1 a2 hls SM AC g0 g1 g2
              have I8 : Hid (Inv r c L (mk s t)) := GD.out.inv.mkk (by rw [← HN.out]; exact TN)
              have E8 : Hid (((ys r c t).drop 0).foldl (Dp.nb L t) (mk s t) = stp r c L s t) := rfl
              have T8 : Hid ((mk s t).H.getD t 0 ≠ 0 ∧ cnt 2 (mk s t).H = cnt 2 s.H + 1) := (by
                have hl : t < s.H.length := by rw [LL.out.2.2]; exact TN
                refine ⟨?_, ?_⟩
                · show (s.H.set t 2).getD t 0 ≠ 0
                  rw [set_get hl, if_pos rfl]; omega
                · have := cnt_set 2 2 s.H t hl
                  rw [TM.out.2.1] at this
                  have e : cnt 2 (s.H.set t 2) = cnt 2 s.H + 1 := by simpa using this
                  exact e)
              go_wp2_with fail
              go_loopw [11, 12] (fun i _ wx => ∃ (jj : Nat) (u : S3), jj ≤ ls ∧ i = .int .i64 jj ∧ Hid (MD r c (.slice (some ⟨vb, vo, none⟩) j vc) w (.slice (some ⟨gx, 0, none⟩) j xc) (.slice (some ⟨gy, 0, none⟩) j yc) (.slice (some ⟨gz, 0, none⟩) j zc) u.F u.N u.H wx) ∧ Hid (Inv r c L u) ∧ Hid (NR wc.heap.size (.slice sa ls sc) (s4 r c t) wx) ∧ Hid (((ys r c t).drop jj).foldl (Dp.nb L t) u = stp r c L s t) ∧ Hid (u.H.getD t 0 ≠ 0 ∧ cnt 2 u.H = cnt 2 s.H + 1)) (fun i _ _ => ls - (intOf i).toNat)
              case atStart => exact ⟨0, mk s t, Nat.zero_le _, rfl, S8, I8, N8, E8, T8⟩
              case round =>
                clear S8 I8 N8 E8 T8
                obtain ⟨jj, u, hjj, rfl, D, IV, NRW, EE, TT⟩ := hrel
                by_cases hlt : jj < ls
                · have i0 : (0 : Int) ≤ (jj : Int) := by omega
                  have i1 : (jj : Int) < (ls : Int) := by omega
                  obtain ⟨y, hy⟩ : ∃ y, y = (ys r c t).getD jj 0 := ⟨_, rfl⟩
                  have ysl : (ys r c t).length = ls := by rw [HLS.out]; exact List.length_map _
                  have yin : y < j := (by
                    rw [hy, List.getD_eq_getElem?_getD, List.getElem?_eq_getElem (by omega)]
                    have := ys_in c1 HM.out (show t < L.length by rw [← HN.out]; exact TN) ((ys r c t)[jj]'(by omega)) (List.getElem_mem _)
                    rw [HN.out]
                    exact this)
                  have DR : Hid ((ys r c t).drop jj = y :: (ys r c t).drop (jj + 1)) := (by
                    show _ = _
                    rw [List.drop_eq_getElem_cons (show jj < (ys r c t).length by omega), hy]
                    simp [List.getD_eq_getElem?_getD, show jj < (ys r c t).length by omega])
                  have yv : (s4 r c t).getD jj 0 = (y : Int) := (by
                    have hl : jj < (s4 r c t).length := by rw [← HLS.out]; exact hlt
                    have hin := (s4_in c1 tx).2 ((s4 r c t)[jj]) (List.getElem_mem _)
                    rw [hy]
                    unfold ys
                    simp only [List.getD_eq_getElem?_getD, List.getElem?_map, List.getElem?_eq_getElem hl]
                    simp
                    omega)
                  obtain ⟨gs, hgs, cy, gl⟩ : ∃ gs, sa = some ⟨gs, 0, none⟩ ∧ wr.cell? ⟨gs, jj, none⟩ = some (.int .i64 y) ∧ wc.heap.size ≤ gs := (by
                    have h := NRW.out
                    unfold NR at h
                    rw [← HLS.out] at h
                    rcases row_cases (L := s4 r c t) (by rw [← HLS.out]; exact h) with ⟨e, _⟩ | ⟨gs, cs, e, _⟩
                    · exfalso
                      have := congrArg List.length e
                      rw [← HLS.out] at this
                      simp at this
                      omega
                    · injection e with e1 e2 e3
                      refine ⟨gs, e1, ?_⟩
                      subst e1
                      have := (row_at h jj hlt).1
                      rw [yv] at this
                      exact ⟨this, (h.lt gs rfl).1⟩)
                  subst hgs
                  clear hy yv ysl
                  have EN : Hid (((ys r c t).drop (jj + 1)).foldl (Dp.nb L t) (Dp.nb L t u y) = stp r c L s t) := (by
                    have h := EE.out
                    rw [DR.out, List.foldl_cons] at h
                    exact h)
                  have UL : Hid (u.F.length = j ∧ u.N.length = j ∧ u.H.length = j) := ⟨by rw [IV.out.lf, HN.out], by rw [IV.out.ln, HN.out], by rw [IV.out.lh, HN.out]⟩
                  obtain ⟨⟨xx, xf⟩, ⟨yy, yf⟩, zz, zf⟩ := GX.out u wr D.out UL.out.1 UL.out.2.1 UL.out.2.2 y yin
                  have j0 : (0 : Int) ≤ (y : Int) := by omega
                  have j1 : (y : Int) < (j : Int) := by omega
                  have IN : Hid (Inv r c L (Dp.nb L t u y)) := IV.out.nb (by rw [← HN.out]; exact yin)
                  by_cases h0 : u.H.getD y 0 = 0
                  · rw [h0] at zz
                    obtain ⟨⟨tt, _⟩, _, _⟩ := GX.out u wr D.out UL.out.1 UL.out.2.1 UL.out.2.2 t TN
                    obtain ⟨a1, a2, a3⟩ := APT.out
                    have a1' : gy ≠ gx := fun e => a1 e.symm
                    have a2' : gz ≠ gx := fun e => a2 e.symm
                    have a3' : gz ≠ gy := fun e => a3 e.symm
                    have vl := VC.out wr D.out.bl y yin
                    have bb2 : wr.cell? ⟨w.heap.size, 2, none⟩ = some (.slice (some ⟨vb, vo, none⟩) j vc) := D.out.bx.cell 2
                    obtain ⟨ly, hly⟩ : ∃ ly, ly = L.getD y 0 := ⟨_, rfl⟩
                    rw [← hly] at vl
                    obtain ⟨fa, hfa⟩ : ∃ fa, fa = u.F.getD t 0 := ⟨_, rfl⟩
                    rw [← hfa] at tt
                    obtain ⟨mx, hmx⟩ : ∃ mx : Int, mx = max ly fa := ⟨_, rfl⟩
                    have NB : Hid (Dp.nb L t u y = ⟨u.F.set y mx, u.N.set y t, u.H.set y 1⟩) := (by
                      show _ = _
                      rw [nb_yes h0, ← hfa, ← hly, ← hmx])
                    have DM1 : Hid (MD r c (.slice (some ⟨vb, vo, none⟩) j vc) w (.slice (some ⟨gx, 0, none⟩) j xc) (.slice (some ⟨gy, 0, none⟩) j yc) (.slice (some ⟨gz, 0, none⟩) j zc) u.F (u.N.set y t) (u.H.set y 1) ((wr.setCell ⟨gz, y, none⟩ (.int .i64 1)).setCell ⟨gy, y, none⟩ (.int .i64 t))) := ((D.out.rot.rot.put (i := y) UL.out.2.2.symm 1).rot.rot.put (i := y) UL.out.2.1.symm t).rot.rot
                    obtain ⟨wz, hwz⟩ : ∃ wz, wz = (((wr.setCell ⟨gz, y, none⟩ (.int .i64 1)).setCell ⟨gy, y, none⟩ (.int .i64 t)).setCell ⟨gx, y, none⟩ (.int .i64 mx)).drew := ⟨_, rfl⟩
                    have HWZ : Hid (wz = (((wr.setCell ⟨gz, y, none⟩ (.int .i64 1)).setCell ⟨gy, y, none⟩ (.int .i64 t)).setCell ⟨gx, y, none⟩ (.int .i64 mx)).drew) := hwz
                    have D1 : Hid (MD r c (.slice (some ⟨vb, vo, none⟩) j vc) w (.slice (some ⟨gx, 0, none⟩) j xc) (.slice (some ⟨gy, 0, none⟩) j yc) (.slice (some ⟨gz, 0, none⟩) j zc) (Dp.nb L t u y).F (Dp.nb L t u y).N (Dp.nb L t u y).H wz) := (by
                      show MD _ _ _ _ _ _ _ _ _ _ _
                      rw [hwz, NB.out]
                      exact (DM1.out.put (i := y) UL.out.1.symm mx).drewN 1)
                    have N1 : Hid (NR wc.heap.size (.slice (some ⟨gs, 0, none⟩) ls sc) (s4 r c t) wz) := (by
                      show NR _ _ _ _
                      rw [hwz]
                      exact (((NRW.out.set GB.out.2.2).set GB.out.2.1).set GB.out.1).on (Bx.below_drewN (Below.refl _ _) 1))
                    have TN2 : Hid ((Dp.nb L t u y).H.getD t 0 ≠ 0 ∧ cnt 2 (Dp.nb L t u y).H = cnt 2 s.H + 1) := (by
                      obtain ⟨k1, _, _, _, _⟩ := nb_keep (L := L) (t := t) (show y < u.H.length by rw [UL.out.2.2]; exact yin)
                      refine ⟨by rw [k1 t TT.out.1]; exact TT.out.1, ?_⟩
                      rw [NB.out]
                      have := cnt_set 2 1 u.H y (by rw [UL.out.2.2]; exact yin)
                      rw [h0] at this
                      have e : cnt 2 (u.H.set y 1) = cnt 2 u.H := by simpa using this
                      exact e.trans TT.out.2)
                    have WM1 : ly < fa → mx = fa := fun h => by rw [hmx]; omega
                    have WM2 : ¬ ly < fa → mx = ly := fun h => by rw [hmx]; omega
                    have bs : gz ≠ w.heap.size ∧ gy ≠ w.heap.size ∧ gx ≠ w.heap.size := ⟨by have := (D.out.hz.lt gz rfl).1; omega, by have := (D.out.hy.lt gy rfl).1; omega, by have := (D.out.hx.lt gx rfl).1; omega⟩
                    have bv : gz ≠ vb ∧ gy ≠ vb ∧ gx ≠ vb := ⟨by have := (D.out.hz.lt gz rfl).1; omega, by have := (D.out.hy.lt gy rfl).1; omega, by have := (D.out.hx.lt gx rfl).1; omega⟩
                    have bg : gs ≠ gx ∧ gs ≠ gy ∧ gs ≠ gz := ⟨by have := GB.out; omega, by have := GB.out; omega, by have := GB.out; omega⟩
                    obtain ⟨bs1, bs2, bs3⟩ := bs
                    obtain ⟨bv1, bv2, bv3⟩ := bv
                    have bs1' : w.heap.size ≠ gz := fun e => bs1 e.symm
                    have bs2' : w.heap.size ≠ gy := fun e => bs2 e.symm
                    have bv1' : vb ≠ gz := fun e => bv1 e.symm
                    have bv2' : vb ≠ gy := fun e => bv2 e.symm
                    have fz : (wr.setCell ⟨gz, y, none⟩ (.int .i64 1)).frozen? ⟨gy, y, none⟩ = false := by rw [World.frozen?_setCell]; exact yf
                    have fy : ((wr.setCell ⟨gz, y, none⟩ (.int .i64 1)).setCell ⟨gy, y, none⟩ (.int .i64 t)).frozen? ⟨gx, y, none⟩ = false := by rw [World.frozen?_setCell, World.frozen?_setCell]; exact xf
                    obtain ⟨wy, hwy⟩ : ∃ wy, wy = (wr.setCell ⟨gz, y, none⟩ (.int .i64 1)).setCell ⟨gy, y, none⟩ (.int .i64 t) := ⟨_, rfl⟩
                    have DY : MD r c (.slice (some ⟨vb, vo, none⟩) j vc) w (.slice (some ⟨gx, 0, none⟩) j xc) (.slice (some ⟨gy, 0, none⟩) j yc) (.slice (some ⟨gz, 0, none⟩) j zc) u.F (u.N.set y t) (u.H.set y 1) wy := by rw [hwy]; exact DM1.out
                    have vl2 := VC.out wy DY.bl y yin
                    rw [← hly] at vl2
                    have bb3 : wy.cell? ⟨w.heap.size, 2, none⟩ = some (.slice (some ⟨vb, vo, none⟩) j vc) := DY.bx.cell 2
                    have DF := DY.hx
                    rw [UL.out.1] at DF
                    have tt2 := (row_at DF t TN).1
                    rw [← hfa] at tt2
                    obtain ⟨cy2, fy2⟩ := row_at DF y yin
                    have IN2 := IN
                    have EN2 := EN
                    rw [← hwy] at HWZ
                    clear hly hfa hmx hwz D IV NRW EE TT DR h0 NB DM1 DY DF IN EN fy vl bb2 tt
                    go_upto_region 31 with fail
                    rw [← hwy]
                    clear hwy
                    by_cases lt : ly < fa
                    · have em := WM1 lt
                      rw [em] at HWZ
                      go_region
                      all_goals
                        rw [← HWZ.out]
                        clear HWZ vl2 tt2 bb3 fy2 cy2
                        go_wp2_with fail
                        go_roundw
                        case rel => exact ⟨jj + 1, Dp.nb L t u y, by omega, by go_num, D1, IN2, N1, EN2, TN2⟩
                        case measure => simp [intOf]; omega
                    · have em := WM2 lt
                      rw [em] at HWZ
                      go_region
                      all_goals
                        rw [← HWZ.out]
                        clear HWZ vl2 tt2 bb3 fy2 cy2
                        go_wp2_with fail
                        go_roundw
                        case rel => exact ⟨jj + 1, Dp.nb L t u y, by omega, by go_num, D1, IN2, N1, EN2, TN2⟩
                        case measure => simp [intOf]; omega
                  · have NE : (u.H.getD y 0 == 0) = false := by simpa using h0
                    have NB : Hid (Dp.nb L t u y = u) := nb_no h0
                    have E2 : Hid (((ys r c t).drop (jj + 1)).foldl (Dp.nb L t) u = stp r c L s t) := (by
                      have h := EN.out
                      rw [NB.out] at h
                      exact h)
                    generalize u.H.getD y 0 = xv at zz NE
                    clear EN EE IN NB DR h0 xx xf yy yf
                    go_wp2_with fail
                    go_roundw
                    case rel => exact ⟨jj + 1, u, by omega, by go_num, D, IV, NRW, E2, TT⟩
                    case measure => simp [intOf]; omega
                · have hjl : jj = ls := by omega
                  subst hjl
                  have i1 : ¬ (jj : Int) < (jj : Int) := by omega
                  have EU : Hid (u = stp r c L s t) := (by
                    have h := EE.out
                    rw [List.drop_eq_nil_of_le (by rw [HLS.out]; exact Nat.le_of_eq (List.length_map _))] at h
                    exact h)
                  have RK : Hid (Rch r c L (kk + 1) u) := ⟨s, t, RR.out, by rw [← HN.out]; exact TM.out, EU.out⟩
                  have LE := cnt_le 2 u.H
                  rw [IV.out.lh, ← HN.out] at LE
                  have M1 : 1 ≤ gk := (by have := MM.out; have := TT.out.2; omega)
                  have MN : Hid (gk - 1 + cnt 2 u.H = j + 1) := (by have h1 := MM.out; have h2 := TT.out.2; show _ = _; omega)
                  clear EE IV NRW TT EU RR MM TM GD LE
                  go_wp2_with fail
                  go_roundg (gk - 1)
                  case measure => omega
                  case rel => exact ⟨kk + 1, u, D, RK, MN⟩
end Go.Proofs.Ytagkbglgdmajhaa.Hm
