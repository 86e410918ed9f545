/- Normals: the program. -/
import Derived.Test.YtjoijffjnlencaaNo
namespace Go.Proofs.Ytjoijffjnlencaa.No
open Go.ChangeShapes Go.WideShapes Go.ChangeAt Go.RowKit
open Go.Proofs.Ytjoijffjnlencaa.Lists Go.Proofs.Ytjoijffjnlencaa.Al Go.Proofs.Ytjoijffjnlencaa.Su Go.Proofs.Ytjoijffjnlencaa.Se Go.Proofs.Ytjoijffjnlencaa.Ll

theorem row_none (w : World) (b : Nat) : w.ownsRow b 2 1 (.slice none 0 0) 0 [] := ⟨by simp, .inl ⟨rfl, rfl⟩⟩
theorem row_put {w : World} {B g n : Nat} {cap : Nat} {O : List Int} (R : w.ownsRow B 2 1 (.slice (some ⟨g, 0, none⟩) n cap) n (ints O)) (x : Nat) (z : Int) : (w.setCell ⟨g, x, none⟩ (.int .i64 z)).ownsRow B 2 1 (.slice (some ⟨g, 0, none⟩) n cap) n (ints (O.set x z)) := by
  rw [← Lists.ints_set]
  exact (R.stored x _).1
theorem reads_in {w : World} {v : Value} {L : Ls} (h : Ll.Reads w v L) {i k : Nat} (hi : i < L.length) (hk : k < (cl L i).length) : ∃ b o cap b2 o2 c2, v = .slice (some ⟨b, o, none⟩) L.length cap ∧ w.cell? ⟨b, o + i, none⟩ = some (.slice (some ⟨b2, o2, none⟩) (cl L i).length c2) ∧ w.cell? ⟨b2, o2 + k, none⟩ = some (.int .i64 ((cl L i).getD k 0)) := by
  obtain ⟨b, o, hc, hv⟩ := Ll.reads_at h
  obtain ⟨_, cap, e⟩ := hv (by omega)
  obtain ⟨u, hu, hr⟩ := hc i hi
  obtain ⟨b2, o2, hc2, hv2⟩ := Al.reads_at hr
  obtain ⟨_, c2, e2⟩ := hv2 (by omega)
  subst e2
  exact ⟨b, o, cap, b2, o2, c2, e, hu, hc2 k hk⟩
set_option maxRecDepth 20000 in
set_option maxHeartbeats 2000000 in
theorem inorm_yes (L : Ls) (v : Value) (w : World) (hL : Ll.Reads w v L) (hok : okY L = true) :
    Calls Try.prog 7 #[v] w fun e w' => ∃ u0, e = .returned (.tuple #[u0, .bool true]) ∧ w'.ownsRow w.heap.size 2 1 u0 (cl L 0).length (ints (fn (nl L) (cl L 0).length (cl L 0).length)) ∧ Below w.heap.size w w' := by
  obtain ⟨i0, hi, hz0, hz1, hz2⟩ := info_parts Lists.Try.info2
  obtain ⟨l1, l2, hz⟩ := okY_parts hok
  obtain ⟨m1, m2, _⟩ := okS_parts (hz 0 (by omega)).1
  obtain ⟨W, hW⟩ : ∃ W, W = w.alloc (Obj.cells #[v] 22) := ⟨_, rfl⟩
  have HW : Hid (W = w.alloc (Obj.cells #[v] 22)) := hW
  have B0 : Below w.heap.size w W := (by rw [hW]; exact (Below.refl _ _).alloc (Nat.le_refl _) _)
  have zW : W.heap.size = w.heap.size + 1 := by rw [hW]; simp
  have d0 : W.cell? ⟨w.heap.size, 0, none⟩ = some v := by rw [hW]; simp [go_sem]
  have hLW : Ll.Reads W v L := hL.on B0
  have C : Hid (Calls Try.prog 16 #[v] W fun e w' => e = .returned (.bool true) ∧ w' = W) := (by have := iyears L v W hLW; rw [hok] at this; exact this)
  have S : Hid (∀ k wr W2, k < (cl L 0).length → Below W.heap.size W wr → W2 = wr.alloc (Obj.cells #[.int .i64 (k : Int)] 3) → Calls Try.prog 17 #[.int .i64 (L.length : Int), .func (.func 18) #[] #[.pointer (some ⟨w.heap.size, 0, none⟩), .pointer (some ⟨wr.heap.size, 0, none⟩)]] W2 fun e w'' => e = .returned (.int .i64 (cs L k L.length)) ∧ Below W2.heap.size W2 w'') := fun k wr W2 hk hb he => by
    have zr := hb.size
    have B2 : Below wr.heap.size wr W2 := (by rw [he]; exact (Below.refl _ _).alloc (Nat.le_refl _) _)
    have z2 : W2.heap.size = wr.heap.size + 1 := by rw [he]; simp
    have d2 : W2.cell? ⟨wr.heap.size, 0, none⟩ = some (.int .i64 (k : Int)) := by rw [he]; simp [go_sem]
    refine summed27 (fun y => Below W2.heap.size W2 y) L.length _ _ (fun i => (cl L i).getD k 0) W2 (Below.refl _ _) hL.fits (fun i hi y hy => ?_) (fun j hj => ?_)
    · have ry : Ll.Reads y v L := ((hLW.on hb).on B2).on hy
      have BY : Below W.heap.size W y := hb.trans ((B2.trans (hy.mono (by omega))).mono zr)
      obtain ⟨b, o, cap, b2, o2, c2, e, x1, x2⟩ := reads_in ry hi (k := k) (by rw [(hz i hi).2]; exact hk)
      refine (cl18 w.heap.size wr.heap.size b o L.length cap i b2 o2 (cl L i).length c2 k _ y hi (by rw [(hz i hi).2]; exact hk) (by rw [← e]; exact (BY.cell (p := ⟨w.heap.size, 0, none⟩) (by show w.heap.size < _; omega)).trans d0) ((hy.cell (p := ⟨wr.heap.size, 0, none⟩) (by show wr.heap.size < _; omega)).trans d2) x1 x2).mono ?_
      rintro e x' ⟨rfl, m, rfl⟩
      exact ⟨rfl, below_drewN hy m⟩
    · have := cs_bd hok k j hj hk
      unfold cs at this
      omega
  have E19 : Hid (∀ k w, k < (cl L 0).length → Calls Try.prog 19 #[.int .i64 (cs L k L.length), .int .i64 (L.length : Int)] w fun e w' => e = .returned (.int .i64 (nl L k)) ∧ w' = w) := fun k w hk => even_any _ _ w (by have := cs_bd hok k L.length (Nat.le_refl _) hk; omega) (by omega)
  have FZ : Hid ((madeCells (Value.int .i64 0).cells ((cl L 0).length * 1)).toList = ints (fn (nl L) (cl L 0).length 0)) := zeros_made (nl L) _
  have FS : Hid (∀ k, (fn (nl L) (cl L 0).length k).set k (nl L k) = fn (nl L) (cl L 0).length (k + 1)) := fun k => fn_set _ _ k
  have FL : Hid (∀ k, (fn (nl L) (cl L 0).length k).length = (cl L 0).length) := fun k => fn_len _ _ k
  obtain ⟨b, o, hc, hv⟩ := Ll.reads_at hLW
  obtain ⟨bl, cap, ev⟩ := hv (by omega)
  subst ev
  obtain ⟨u0, q0, r0⟩ := hc 0 (by omega)
  rw [Nat.add_zero] at q0
  obtain ⟨ua, uc, rfl⟩ := r0.form
  have HB : Hid (Below w.heap.size w W) := B0
  have ZW : Hid (W.heap.size = w.heap.size + 1) := zW
  obtain ⟨n, hn⟩ : ∃ n, n = L.length := ⟨_, rfl⟩
  rw [← hn] at C S E19 l1 l2 HW d0 ⊢
  obtain ⟨m, hm⟩ : ∃ m, m = (cl L 0).length := ⟨_, rfl⟩
  rw [← hm] at S E19 FZ FS FL m1 m2 q0 ⊢
  clear hL hW B0 zW hLW hc hv r0 hz hok hn hm
  obtain ⟨F, hF⟩ : ∃ F : Nat → List Int, F = fn (nl L) m := ⟨_, rfl⟩
  rw [← hF] at FZ FS FL ⊢
  clear hF
  have j0 : (0 : Int) < (n : Int) := by omega
  go_enter Try.func7, Try.ntmps7
  go_wp2_with fail
  rw [← HW.out]
  go_wp2_with fail
  refine C.out.mono ?_
  rintro e w1 ⟨rfl, hb⟩
  have hb' := hb.symm
  subst hb'
  go_wp2_with (at_make; refine wpList_make_full _ rfl _ _ 24 rfl w.heap.size 2 i0 (.int .i64 0) 1 Try.underlying24 hi hz0 hz1 .i64 .i64 (m : Int) (m : Int) m rfl rfl rfl rfl (by rw [hz2]; omega) (by unfold maxLen; omega) HB.out.size ?_; intro w4 hown hgrow)
  rw [FZ.out] at hown
  have B4 : Hid (Below W.heap.size W w4) := (Below.refl _ _).grown hgrow (Nat.le_refl _) (fun k hk => by cases hk)
  obtain ⟨g, hg⟩ : ∃ g, g = W.heap.size := ⟨_, rfl⟩
  have HG : Hid (g = W.heap.size) := hg
  rw [← hg] at hown ⊢
  have R4 : Hid (w4.ownsRow w.heap.size 2 1 (.slice (some ⟨g, 0, none⟩) m m) m (ints (F 0))) := hown
  clear hown hgrow hg
  go_loopw [20] (fun i wr => ∃ k : Nat, k ≤ m ∧ i = .int .i64 k ∧ Hid (wr.ownsRow w.heap.size 2 1 (.slice (some ⟨g, 0, none⟩) m m) m (ints (F k))) ∧ Hid (Below W.heap.size W wr)) (fun i _ => m - (intOf i).toNat)
  case atStart => exact ⟨0, by omega, rfl, R4, B4⟩
  case round =>
    obtain ⟨k, hk, rfl, RR, BR⟩ := hrel
    by_cases hlt : k < m
    · have i1 : (0 : Int) ≤ (k : Int) := by omega
      have i2 : (k : Int) < (m : Int) := by omega
      obtain ⟨W2, hW2⟩ : ∃ W2, W2 = wr.alloc (Obj.cells #[.int .i64 (k : Int)] 3) := ⟨_, rfl⟩
      have HW2 : Hid (W2 = wr.alloc (Obj.cells #[.int .i64 (k : Int)] 3)) := hW2
      have K : Hid (Calls Try.prog 17 #[.int .i64 (n : Int), .func (.func 18) #[] #[.pointer (some ⟨w.heap.size, 0, none⟩), .pointer (some ⟨wr.heap.size, 0, none⟩)]] W2 fun e w'' => e = .returned (.int .i64 (cs L k n)) ∧ Below W2.heap.size W2 w'') := S.out k wr W2 hlt BR.out hW2
      have E : Hid (∀ w, Calls Try.prog 19 #[.int .i64 (cs L k n), .int .i64 (n : Int)] w fun e w' => e = .returned (.int .i64 (nl L k)) ∧ w' = w) := fun w => E19.out k w hlt
      have B2 : Hid (Below wr.heap.size wr W2) := (by rw [hW2]; exact (Below.refl _ _).alloc (Nat.le_refl _) _)
      have z2 : W2.heap.size = wr.heap.size + 1 := by rw [hW2]; simp
      have d2 : W2.cell? ⟨wr.heap.size, 0, none⟩ = some (.int .i64 (k : Int)) := by rw [hW2]; simp [go_sem]
      have D2 : Hid (W2.cell? ⟨wr.heap.size, 0, none⟩ = some (.int .i64 (k : Int)) ∧ W2.heap.size = wr.heap.size + 1) := ⟨d2, z2⟩
      have FK := FS.out k
      have HFK : Hid ((F k).set k (nl L k) = F (k + 1)) := FK
      clear hW2 z2 d2 FK
      generalize cs L k n = t at *
      generalize nl L k = z at *
      go_wp2_with fail
      rw [← HW2.out]
      refine K.out.mono ?_
      rintro e w3 ⟨rfl, b3⟩
      have c2 : w3.cell? ⟨wr.heap.size, 0, none⟩ = some (.int .i64 (k : Int)) := (b3.cell (p := ⟨wr.heap.size, 0, none⟩) (by show wr.heap.size < _; rw [D2.out.2]; omega)).trans D2.out.1
      have R3 : w3.ownsRow w.heap.size 2 1 (.slice (some ⟨g, 0, none⟩) m m) m (ints (F k)) := Ll.row_on (Ll.row_on RR.out B2.out) b3
      have c3 : w3.cell? ⟨g, k, none⟩ = some (.int .i64 ((F k).getD k 0)) := by
        have e := FL.out k
        have := Lists.row_cell (L := F k) (cap := m) (by rw [e]; exact R3) k (by rw [e]; exact hlt)
        exact this
      have f3 : w3.frozen? ⟨g, k, none⟩ = false := R3.frozenAt k
      have zr3 := (R3.lt g rfl).2
      have ze : wr.heap.size < w3.heap.size := Nat.lt_of_lt_of_le (by rw [D2.out.2]; omega) b3.size
      have B3 : Hid (Below W.heap.size W w3) := BR.out.trans ((B2.out.trans (b3.mono (by rw [D2.out.2]; omega))).mono BR.out.size)
      have RN : Hid ((w3.setCell ⟨g, k, none⟩ (.int .i64 z)).ownsRow w.heap.size 2 1 (.slice (some ⟨g, 0, none⟩) m m) m (ints (F (k + 1)))) := (by show World.ownsRow _ _ _ _ _ _ _; rw [← HFK.out]; exact row_put R3 k z)
      have BN : Hid (Below W.heap.size W (w3.setCell ⟨g, k, none⟩ (.int .i64 z))) := B3.out.setCell (p := ⟨g, k, none⟩) (by show _ ≤ g; rw [HG.out]; exact Nat.le_refl _) _
      have RND : Hid (∀ q, ((w3.drewN q).setCell ⟨g, k, none⟩ (.int .i64 z)).ownsRow w.heap.size 2 1 (.slice (some ⟨g, 0, none⟩) m m) m (ints (F (k + 1)))) := fun q => (by show World.ownsRow _ _ _ _ _ _ _; rw [← HFK.out]; exact row_put (w := w3.drewN q) R3 k z)
      have BND : Hid (∀ q, Below W.heap.size W ((w3.drewN q).setCell ⟨g, k, none⟩ (.int .i64 z))) := fun q => (below_drewN B3.out q).setCell (p := ⟨g, k, none⟩) (by show _ ≤ g; rw [HG.out]; exact Nat.le_refl _) _
      generalize (F k).getD k 0 = y at *
      clear R3 b3 D2
      go_wp2_with fail
      go_region_with (go_at_call 19; refine (E.out _).mono ?_; rintro e w5 ⟨rfl, hw5⟩; have hw6 := hw5.symm; subst hw6)
      all_goals (go_wp2_with fail)
      all_goals go_roundw
      all_goals first
        | exact ⟨k + 1, by omega, by go_num, RND.out 1, BND.out 1⟩
        | exact ⟨k + 1, by omega, by go_num, RN, BN⟩
        | (simp [intOf]; omega)
    · have hkn : k = m := by omega
      subst hkn
      have BF : Hid (Below w.heap.size w wr) := HB.out.trans (BR.out.mono HB.out.size)
      go_wp2_with fail
      go_ret2
      exact ⟨_, rfl, RR.out, BF.out⟩
set_option maxHeartbeats 1000000 in
theorem inorm_no (L : Ls) (v : Value) (w : World) (hL : Ll.Reads w v L) (hok : okY L = false) :
    Calls Try.prog 7 #[v] w fun e w' => ∃ u0, e = .returned (.tuple #[u0, .bool false]) ∧ w'.ownsRow w.heap.size 2 1 u0 0 [] ∧ Below w.heap.size w w' := by
  obtain ⟨W, hW⟩ : ∃ W, W = w.alloc (Obj.cells #[v] 22) := ⟨_, rfl⟩
  have HW : Hid (W = w.alloc (Obj.cells #[v] 22)) := hW
  have B0 : Below w.heap.size w W := (by rw [hW]; exact (Below.refl _ _).alloc (Nat.le_refl _) _)
  have HB : Hid (Below w.heap.size w W) := B0
  have C : Hid (Calls Try.prog 16 #[v] W fun e w' => e = .returned (.bool false) ∧ w' = W) := (by have := iyears L v W (hL.on B0); rw [hok] at this; exact this)
  have d0 : W.cell? ⟨w.heap.size, 0, none⟩ = some v := by rw [hW]; simp [go_sem]
  obtain ⟨a, cap, rfl⟩ := hL.form
  clear hL hW B0 hok
  generalize L.length = n at *
  go_enter Try.func7, Try.ntmps7
  go_wp2_with fail
  rw [← HW.out]
  go_wp2_with fail
  refine C.out.mono ?_
  rintro e w1 ⟨rfl, hb⟩
  have hb' := hb.symm
  subst hb'
  go_wp2_with fail
  go_ret2
  exact ⟨_, rfl, row_none _ _, HB.out⟩
end Go.Proofs.Ytjoijffjnlencaa.No
