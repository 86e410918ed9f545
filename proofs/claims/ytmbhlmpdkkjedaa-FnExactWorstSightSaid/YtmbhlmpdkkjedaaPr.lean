/- Parts: the program. -/
import Derived.Test.YtmbhlmpdkkjedaaPq
import Derived.Maps.AppendAt
namespace Go.Proofs.Ytmbhlmpdkkjedaa.To
open Go.ChangeShapes Go.WideShapes Go.ChangeAt Go.RowKit
open Go.Proofs.Ytmbhlmpdkkjedaa.Al

def pts (C : ByteArray) (I f t d p v : Int) (W O : ByteArray) (b : Int) (L : Ch.Ls) : Pn.Ls := if tok C I f t d p v W O b L = true then prs (Dn f t L (t - f).toNat) else []
theorem Pn.none (w : World) (B : Nat) : Pn.Row w B (.slice none 0 0) [] := ⟨[], ⟨rfl, .inl ⟨rfl, rfl⟩⟩, fun _ hi => absurd hi (Nat.not_lt_zero _)⟩
theorem Pn.down {w : World} {B B' : Nat} {v : Value} {L : Pn.Ls} (h : Pn.Row w B v L) (hb : B' ≤ B) : Pn.Row w B' v L := by
  obtain ⟨xs, ⟨h0, h⟩, hg⟩ := h
  refine ⟨xs, ⟨h0, ?_⟩, hg⟩
  rcases h with h | ⟨g, cap, cur, h1, h2, h3⟩
  · exact .inl h
  · exact .inr ⟨g, cap, cur, h1, Nat.le_trans hb h2, h3⟩
theorem cell_ne2 (gp g i : Nat) (hne : g ≠ gp) (w : World) (o1 o2 : Nat) (x y : Value) : ((w.setCell ⟨gp, o1, none⟩ x).setCell ⟨gp, o2, none⟩ y).cell? ⟨g, i, none⟩ = w.cell? ⟨g, i, none⟩ :=
  (World.cell?_of_block (Below.heap_setCell _ ⟨gp, o2, none⟩ y g (by show g ≠ gp; exact hne))).trans (World.cell?_of_block (Below.heap_setCell _ ⟨gp, o1, none⟩ x g (by show g ≠ gp; exact hne)))
theorem Try.infoI : (Try.prog.info? 2).map (fun i => (i.zero, i.size, i.bytes)) = some (some (.int .i64 0), 1, 8) := by kernel_rfl
theorem Try.infoV : (Try.prog.info? 31).map (fun i => (i.zero, i.size, i.bytes)) = some (some (.agg #[.int .i64 0, .int .i64 0]), 2, 16) := by kernel_rfl
theorem cell_one (w : World) (v0 : Value) (t : TypeId) : ∀ j u, [v0][j]? = some u → (w.alloc (Obj.cells #[v0] t)).cell? ((⟨w.heap.size, 0, none⟩ : Addr).add j) = some u := by
  intro j u hj
  match j, hj with
  | 0, hj => simp at hj; subst hj; simp [Addr.add]
theorem one_one (x : Int) : ∀ u ∈ [Value.int .i64 x], u.oneCell' = true := by intro u hu; simp at hu; subst hu; rfl
theorem CB.grown {w w' : World} {row : Option Nat} {r : Nat} {x0 x1 x2 x3 x4 x5 : Int} {x6 x7 : ByteArray} {x8 : Int} (h : Ch.CB w r x0 x1 x2 x3 x4 x5 x6 x7 x8) (hg : w.grownBy w' row) (hne : row ≠ some r) : Ch.CB w' r x0 x1 x2 x3 x4 x5 x6 x7 x8 := (hg.block r h.lt (fun e => hne e.symm)).trans h
theorem ints_at {w : World} {B g c n : Nat} {K : List Int} {Z : List Int} (h : w.ownsRow B 2 1 (.slice (some ⟨g, 0, none⟩) n c) n (ints (K ++ Z))) (i : Nat) (hi : i < K.length) (hn : K.length ≤ n) : w.cell? ⟨g, i, none⟩ = some (.int .i64 (K.getD i 0)) := by
  rw [h.cellAt i (by omega)]
  show ((K ++ Z).map (Value.int .i64))[i]? = _
  rw [List.getElem?_map, List.getElem?_append_left hi, List.getElem?_eq_getElem hi]
  simp [List.getD_eq_getElem?_getD, List.getElem?_eq_getElem hi]
theorem ints_keep {w : World} {B g c n : Nat} {xs : List Value} {v : Value} (hv : v = .slice (some ⟨g, 0, none⟩) n c) (h : w.ownsRow B 2 1 v n xs) {r : Nat} (hr : g ≠ r) (o : Nat) (x : Value) : (w.setCell ⟨r, o, none⟩ x).ownsRow B 2 1 v n xs := by
  subst hv
  refine ⟨h.1, ?_⟩
  rcases h.2 with h | ⟨g', cap, cur, h1, h2, h3, h4⟩
  · exact .inl h
  · simp at h1
    obtain ⟨rfl, rfl⟩ := h1
    exact .inr ⟨g, c, cur, rfl, h2, (Below.heap_setCell w ⟨r, o, none⟩ x g (by show g ≠ r; exact hr)).trans h3, h4⟩
set_option maxRecDepth 20000 in
set_option maxHeartbeats 4000000 in
theorem iparts_any (C : ByteArray) (I f t d p v : Int) (W O : ByteArray) (b : Int) (u : Value) (L : Ch.Ls) (w : World) (hL : Ch.Reads w u L) :
    Calls Try.prog 20 #[Tf.tv C I f t d p v W O b u] w fun e w' => ∃ v', e = .returned v' ∧ Pn.Row w' w.heap.size v' (pts C I f t d p v W O b L) ∧ Below w.heap.size w w' := by
  obtain ⟨i0, hi, hz0, hz1, hz2⟩ := info_parts Try.infoI
  obtain ⟨iv, vi, vz0, vz1, vz2⟩ := info_parts Try.infoV
  have C1 : Hid (∀ w', Below w.heap.size w w' → Calls Try.prog 10 #[Tf.tv C I f t d p v W O b u] w' fun e w'' => e = .returned (.bool (tok C I f t d p v W O b L)) ∧ Below w'.heap.size w' w'') := fun w' hb => itaf_any C I f t d p v W O b u L w' (hL.on hb)
  have HZ : Hid (tok C I f t d p v W O b L = false → pts C I f t d p v W O b L = []) := fun h => by unfold pts; rw [h]; rfl
  have HP : Hid (tok C I f t d p v W O b L = true → pts C I f t d p v W O b L = prs (Lib.compact (srt (ens f t L L.length))) ∧ Lib.compact (srt (ens f t L L.length)) = Dn f t L (t - f).toNat ∧ L.length ≤ 10) := fun h => by
    have h1 := ends_one h
    unfold pts
    rw [h, h1]
    exact ⟨rfl, rfl, (tok_parts h).2.2⟩
  generalize pts C I f t d p v W O b L = M at *
  generalize tok C I f t d p v W O b L = b1 at *
  have hfit := hL.fits
  have hcell : ∃ bb o, (∀ w', Below w.heap.size w w' → ∀ i, i < L.length → Ch.Cs w' bb o L i) ∧ (0 < L.length → bb < w.heap.size ∧ ∃ cap, u = .slice (some ⟨bb, o, none⟩) L.length cap) := by
    rcases hL with ⟨rfl, _⟩ | ⟨bb, o, cap, h1, h2, h3, h4, h5⟩
    · exact ⟨0, 0, fun _ _ i hi => by simp at hi, fun hi => by simp at hi⟩
    · exact ⟨bb, o, fun w' hb i hi => (h5 i hi).below hb h4, fun _ => ⟨h4, cap, h1⟩⟩
  obtain ⟨bb, o, hc, hvv⟩ := hcell
  obtain ⟨sa, sc, hu⟩ := hL.form
  subst hu
  have HC : Hid (∀ w', Below w.heap.size w w' → ∀ i, i < L.length → Ch.Cs w' bb o L i) := hc
  have HB : Hid (0 < L.length → bb < w.heap.size ∧ sa = some ⟨bb, o, none⟩) := fun hi => by
    obtain ⟨h1, c, h2⟩ := hvv hi
    simp at h2
    exact ⟨h1, h2.1⟩
  obtain ⟨n, hn⟩ : ∃ n, n = L.length := ⟨_, rfl⟩
  rw [← hn] at hfit HC HB C1 HP ⊢
  have HN : Hid (n = L.length) := hn
  clear hL hc hvv hn
  obtain ⟨wb, hwb⟩ : ∃ wb, wb = w.alloc (.cells #[.string C, .int .i64 I, .int .i64 f, .int .i64 t, .int .i64 d, .int .i64 p, .int .i64 v, .string W, .string O, .int .i64 b, (.slice sa n sc)] 35) := ⟨_, rfl⟩
  have HW : Hid (wb = w.alloc (.cells #[.string C, .int .i64 I, .int .i64 f, .int .i64 t, .int .i64 d, .int .i64 p, .int .i64 v, .string W, .string O, .int .i64 b, (.slice sa n sc)] 35)) := hwb
  have BW : Hid (Below w.heap.size w wb) := (by show Below _ _ _; rw [hwb]; exact (Below.refl _ _).alloc (Nat.le_refl _) _)
  have KT : Hid (Tf.TB wb w.heap.size C I f t d p v W O b (.slice sa n sc)) := (by show Tf.TB _ _ _ _ _ _ _ _ _ _ _ _ _; rw [hwb]; exact Tf.TB.new w C I f t d p v W O b (.slice sa n sc))
  clear hwb
  have CW : Hid (∀ w', Below wb.heap.size wb w' → Tf.TB w' w.heap.size C I f t d p v W O b (.slice sa n sc) ∧ Below w.heap.size w w') := fun w' hb => ⟨KT.out.on hb KT.out.lt, BW.out.trans (hb.mono BW.out.size)⟩
  obtain ⟨c0, c1, c2, c3, c4, c5, c6, c7, c8, c9, c10, _⟩ := KT.out.cells
  go_enter Try.func20, Try.ntmps20
  go_wp2_with fail
  rw [← HW.out]
  refine (C1.out _ BW.out).mono ?_
  rintro e w1 ⟨rfl, hb⟩
  have Q1 : Hid (Below wb.heap.size wb w1) := hb
  clear c0 c1 c2 c3 c4 c5 c6 c7 c8 c9 c10 hb HW
  obtain ⟨m0, m1⟩ := CW.out w1 Q1.out
  have B1 : Hid (Below w.heap.size w w1) := m1
  obtain ⟨c0, c1, c2, c3, c4, c5, c6, c7, c8, c9, c10, _⟩ := m0.cells
  clear m0 m1
  cases b1
  · go_wp2_with fail
    go_ret
    exact ⟨_, rfl, by rw [HZ.out (by first | trivial | rfl)]; exact Pn.none _ _, B1.out⟩
  obtain ⟨hM, hD, h10⟩ := HP.out (by first | trivial | rfl)
  subst hM
  have HD : Hid (Lib.compact (srt (ens f t L n)) = Dn f t L (t - f).toNat) := hD
  clear HZ HP hD
  obtain ⟨w2, hw2⟩ : ∃ w2, w2 = w1.alloc (.cells #[.int .i64 f, .int .i64 t] 2) := ⟨_, rfl⟩
  have HW2 : Hid (w2 = w1.alloc (.cells #[.int .i64 f, .int .i64 t] 2)) := hw2
  have R2 : Hid (w2.ownsRow wb.heap.size 2 1 (.slice (some ⟨w1.heap.size, 0, none⟩) 2 2) 2 (ints [f, t])) := (by rw [hw2]; exact World.ownsRow_lit (base := wb.heap.size) (e := 2) (size := 1) w1 #[.int .i64 f, .int .i64 t] 2 Q1.out.size (by unfold maxLen; omega) rfl)
  have Q2 : Hid (Below wb.heap.size wb w2) := (by rw [hw2]; exact Q1.out.alloc Q1.out.size _)
  clear hw2
  go_upto_region 4 with fail
  rw [← HW2.out]
  clear c0 c1 c2 c3 c4 c5 c6 c7 c8 c9 c10 HW2
  obtain ⟨m0, m1⟩ := CW.out w2 Q2.out
  obtain ⟨c0, c1, c2, c3, c4, c5, c6, c7, c8, c9, c10, _⟩ := m0.cells
  clear m0 m1
  go_wp2_with fail
  clear c0 c1 c2 c3 c4 c5 c6 c7 c8 c9 c10
  go_loopw [3, 21] (fun q i wr => ∃ (k : Nat) (sv : Value), k ≤ n ∧ i = .int .i64 k ∧ sv = q ∧ Hid (wr.ownsRow wb.heap.size 2 1 sv (ens f t L k).length (ints (ens f t L k))) ∧ Hid (Below wb.heap.size wb wr)) (fun _ i _ => n - (intOf i).toNat)
  case atStart => exact ⟨0, _, Nat.zero_le _, rfl, rfl, R2, Q2⟩
  case round =>
    clear R2 Q2
    obtain ⟨k, sv, hk, rfl, hq, RR, BB⟩ := hrel
    subst hq
    by_cases hlt : k < n
    · obtain ⟨hb0, hx⟩ := HB.out (by omega)
      subst hx
      obtain ⟨q0, q1, q2, q3, q4, q5, q6, q7, q8⟩ := HC.out wr (CW.out wr BB.out).2 k hlt
      have i1 : (0 : Int) ≤ (k : Int) := by omega
      have i2 : (k : Int) < (n : Int) := by omega
      have HE : Hid (ens f t L (k + 1) = if (Ch.c0 L k != 1) = true then ens f t L k ++ [Ch.c1 L k] ++ [Ch.c2 L k] else ens f t L k ++ [Ch.c1 L k]) := rfl
      have hel := (ens_len f t L k).1
      generalize ens f t L k = D at *
      generalize Ch.c0 L k = y0 at *
      generalize Ch.c1 L k = y1 at *
      generalize Ch.c2 L k = y2 at *
      generalize Ch.c3 L k = y3 at *
      generalize Ch.c4 L k = y4 at *
      generalize Ch.c5 L k = y5 at *
      generalize Ch.c6 L k = y6 at *
      generalize Ch.c7 L k = y7 at *
      generalize Ch.c8 L k = y8 at *
      obtain ⟨m, hmm⟩ : ∃ m, m = D.length := ⟨_, rfl⟩
      rw [← hmm] at hel RR
      have HM : Hid (m = D.length) := hmm
      obtain ⟨wy, hwy⟩ : ∃ wy, wy = wr.alloc (.cells #[.int .i64 y0, .int .i64 y1, .int .i64 y2, .int .i64 y3, .int .i64 y4, .int .i64 y5, .string y6, .string y7, .int .i64 y8] 60) := ⟨_, rfl⟩
      have HY : Hid (wy = wr.alloc (.cells #[.int .i64 y0, .int .i64 y1, .int .i64 y2, .int .i64 y3, .int .i64 y4, .int .i64 y5, .string y6, .string y7, .int .i64 y8] 60)) := hwy
      have KY : Hid (Ch.CB wy wr.heap.size y0 y1 y2 y3 y4 y5 y6 y7 y8) := (by show Ch.CB _ _ _ _ _ _ _ _ _ _ _; rw [hwy]; exact Ch.CB.new wr y0 y1 y2 y3 y4 y5 y6 y7 y8)
      have QY : Hid (Below wr.heap.size wr wy) := (by show Below _ _ _; rw [hwy]; exact (Below.refl _ _).alloc (Nat.le_refl _) _)
      have RY : Hid (wy.ownsRow wb.heap.size 2 1 sv m (ints D)) := (by rw [hwy]; exact RR.out.alloc _)
      have GN : Hid (∀ g, sv.ownBlock = some g → g ≠ wr.heap.size) := fun g hg => by have := (RR.out.lt g hg).2; omega
      clear hwy hmm
      have BY : Hid (Below wb.heap.size wb wy) := BB.out.trans (QY.out.mono BB.out.size)
      have hsz : wb.heap.size ≤ wy.heap.size := BY.out.size
      go_upto_region 7 with fail
      rw [← HY.out]
      clear q0 q1 q2 q3 q4 q5 q6 q7 q8 HY RR
      obtain ⟨g0, g1, g2, g3, g4, g5, g6, g7, g8, _⟩ := KY.out.cells
      go_wp2_with (at_builtin; refine wpList_append_own _ rfl _ _ 74 rfl wb.heap.size 2 i0 (.int .i64 0) 1 8 Try.underlying74 hi hz0 hz1 hz2 rfl (by decide) _ _ _ rfl (RY.out.alloc _) ⟨wy.heap.size, 0, none⟩ 1 1 [.int .i64 y1] rfl rfl (cell_one wy _ 2) (one_one _) (by unfold maxLen; omega) (by omega) (by simp; omega) ?_)
      intro v' w3 hown hgrow _
      have A3 : Hid (Below wy.heap.size wy (wy.alloc (.cells #[.int .i64 y1] 2))) := (Below.refl _ _).alloc (Nat.le_refl _) _
      have K3 : Hid (Ch.CB w3 wr.heap.size y0 y1 y2 y3 y4 y5 y6 y7 y8) := CB.grown (KY.out.on A3.out KY.out.lt) hgrow (fun e => GN.out _ e rfl)
      have B3 : Hid (Below wb.heap.size wb w3) := (BY.out.alloc BY.out.size _).grown hgrow (by simp; omega) (fun b hb => (RY.out.lt b hb).1)
      have R3 : Hid (w3.ownsRow wb.heap.size 2 1 v' (m + 1) (ints (D ++ [y1]))) := (by show World.ownsRow _ _ _ _ _ _ _; simpa using hown)
      clear hown hgrow g0 g1 g2 g3 g4 g5 g6 g7 g8 hsz
      obtain ⟨g0, g1, g2, g3, g4, g5, g6, g7, g8, _⟩ := K3.out.cells
      cases h1 : (y0 == 1)
      rotate_left 1
      · have e2 := eq_of_beq h1
        subst e2
        clear h1
        go_wp2_with fail
        go_roundw
        case rel => exact ⟨k + 1, _, by omega, by go_num, rfl, by rw [HE.out]; show World.ownsRow _ _ _ _ _ _ _; simpa [HM.out] using R3.out, B3⟩
        case measure => simp [intOf]; omega
      have h1' : (y0 != 1) = true := by unfold bne; rw [h1]; rfl
      rw [h1'] at HE
      have hsz : wb.heap.size ≤ w3.heap.size := B3.out.size
      go_wp2_with (at_builtin; refine wpList_append_own _ rfl _ _ 74 rfl wb.heap.size 2 i0 (.int .i64 0) 1 8 Try.underlying74 hi hz0 hz1 hz2 rfl (by decide) _ _ _ rfl (R3.out.alloc _) ⟨w3.heap.size, 0, none⟩ 1 1 [.int .i64 y2] rfl rfl (cell_one w3 _ 2) (one_one _) (by unfold maxLen; omega) (by omega) (by simp; omega) ?_)
      intro v2 w4 hown hgrow _
      have B4 : Hid (Below wb.heap.size wb w4) := (B3.out.alloc B3.out.size _).grown hgrow (by simp; omega) (fun b hb => (R3.out.lt b hb).1)
      have R4 : Hid (w4.ownsRow wb.heap.size 2 1 v2 (m + 1 + 1) (ints (D ++ [y1] ++ [y2]))) := (by show World.ownsRow _ _ _ _ _ _ _; simpa using hown)
      clear hown hgrow g0 g1 g2 g3 g4 g5 g6 g7 g8 hsz
      go_wp2_with fail
      go_roundw
      case rel => exact ⟨k + 1, _, by omega, by go_num, rfl, by rw [HE.out]; show World.ownsRow _ _ _ _ _ _ _; simpa [HM.out] using R4.out, B4⟩
      case measure => simp [intOf]; omega
    · have ek : k = n := by omega
      obtain ⟨el1, el2⟩ := ens_len f t L k
      have HKD : Hid (Lib.compact (srt (ens f t L k)) = Dn f t L (t - f).toNat) := (by rw [ek]; exact HD.out)
      have HPS : Hid (prs (Lib.compact (srt (ens f t L n))) = prs (Lib.compact (srt (ens f t L k)))) := (by show _ = _; rw [ek])
      generalize ens f t L k = E at *
      obtain ⟨g, c, hv⟩ : ∃ g c, sv = .slice (some ⟨g, 0, none⟩) E.length c := by
        rcases Pn.row_cases RR.out with ⟨h0, _⟩ | ⟨g, c, h1, _⟩
        · omega
        · exact ⟨g, c, h1⟩
      subst hv
      have C2 : Hid (Calls Try.prog 50 #[.slice (some ⟨g, 0, none⟩) E.length c] wr fun e w' => e = .returned (.tuple #[]) ∧ w'.ownsRow wb.heap.size 2 1 (.slice (some ⟨g, 0, none⟩) E.length c) E.length (ints (srt E)) ∧ Below wb.heap.size wb w') := sort_any E c wr wb wb.heap.size g BB.out RR.out (by omega)
      have C3 : Hid (∀ w', w'.ownsRow wb.heap.size 2 1 (.slice (some ⟨g, 0, none⟩) E.length c) E.length (ints (srt E)) → Below wb.heap.size wb w' → Calls Try.prog 51 #[.slice (some ⟨g, 0, none⟩) E.length c] w' fun e w'' => e = .returned (.slice (some ⟨g, 0, none⟩) (Lib.compact (srt E)).length c) ∧ w''.ownsRow wb.heap.size 2 1 (.slice (some ⟨g, 0, none⟩) E.length c) E.length (ints (Lib.compact (srt E) ++ List.replicate (E.length - (Lib.compact (srt E)).length) 0)) ∧ Below wb.heap.size wb w'') := fun w' h hb => by
        have := compact_any (srt E) c w' wb wb.heap.size g hb (by rw [srt_len]; exact h) (by rw [srt_len]; omega)
        rw [srt_len] at this
        exact this
      have hcl : (Lib.compact (srt E)).length ≤ E.length := Nat.le_trans (comp_len (srt E)) (by rw [srt_len]; exact Nat.le_refl _)
      obtain ⟨kk, hkk⟩ : ∃ kk, (Lib.compact (srt E)).length = kk + 1 := ⟨(Lib.compact (srt E)).length - 1, by rw [HKD.out]; simp [Dn]⟩
      generalize hZ : List.replicate (E.length - (Lib.compact (srt E)).length) (0 : Int) = Z at *
      clear hZ
      generalize Lib.compact (srt E) = K at *
      generalize ints (srt E) = SE at *
      have HK1 : Hid (K.length = kk + 1) := hkk
      rw [hkk] at C3 hcl
      clear hkk
      obtain ⟨m, hmm⟩ : ∃ m, m = E.length := ⟨_, rfl⟩
      rw [← hmm] at C2 C3 hcl el1 el2
      have HM : Hid (m = E.length) := hmm
      rw [← hmm]
      clear RR BB hmm HC HB CW C1
      go_wp2_with fail
      refine C2.out.mono ?_
      rintro e w3 ⟨rfl, hr, hb⟩
      have C4 : Hid (Calls Try.prog 51 #[.slice (some ⟨g, 0, none⟩) m c] w3 fun e w'' => e = .returned (.slice (some ⟨g, 0, none⟩) (kk + 1) c) ∧ w''.ownsRow wb.heap.size 2 1 (.slice (some ⟨g, 0, none⟩) m c) m (ints (K ++ Z)) ∧ Below wb.heap.size wb w'') := C3.out w3 hr hb
      clear hr hb C3 C2
      go_wp2_with fail
      refine C4.out.mono ?_
      rintro e w4 ⟨rfl, hr, hb⟩
      have R4 : Hid (w4.ownsRow wb.heap.size 2 1 (.slice (some ⟨g, 0, none⟩) m c) m (ints (K ++ Z))) := hr
      have B4 : Hid (Below wb.heap.size wb w4) := hb
      clear hr hb C4
      have j1 : IntKind.i64.wrap (((kk : Int) + 1) - 1) = (kk : Int) := by rw [IntWalk.i64_in _ (by omega)]; omega
      have j2 : IntKind.i64.wrap (((kk + 1 : Nat) : Int) - 1) = (kk : Int) := by rw [IntWalk.i64_in _ (by omega)]; omega
      go_wp2_with (at_make; refine wpList_make_full _ rfl _ _ 47 rfl w4.heap.size 31 iv (.agg #[.int .i64 0, .int .i64 0]) 2 Try.underlying47 vi vz0 vz1 .i64 .i64 (kk : Int) (kk : Int) kk rfl rfl rfl rfl (by rw [vz2]; omega) (by unfold maxLen; omega) (Nat.le_refl _) ?_; intro w5 hown hgrow)
      have R5 : Hid (∃ xs, w5.ownsRow w4.heap.size 31 2 (.slice (some ⟨w4.heap.size, 0, none⟩) kk kk) kk xs ∧ Pn.Good xs (prs K) 0) := ⟨_, hown, fun i hi => absurd hi (by omega)⟩
      have hg4 : g < w4.heap.size := (R4.out.lt g rfl).2
      have I5 : Hid (w5.ownsRow wb.heap.size 2 1 (.slice (some ⟨g, 0, none⟩) m c) m (ints (K ++ Z))) := Pn.row_grown R4.out hgrow (fun x hx e => by cases e)
      have B5 : Hid (Below wb.heap.size wb w5) := B4.out.grown hgrow B4.out.size (fun k hk => by cases hk)
      have GP : Hid (∃ gp, gp = w4.heap.size) := ⟨_, rfl⟩
      obtain ⟨gp, hgp⟩ := GP.out
      rw [← hgp] at R5 hg4
      have HGP : Hid (gp = w4.heap.size) := hgp
      have HBG : Hid (wb.heap.size ≤ gp) := (by rw [hgp]; exact B4.out.size)
      clear hown hgrow R4 B4 GP
      rw [← hgp]
      clear hgp
      go_loopw [49] (fun i wr => ∃ j : Nat, j ≤ kk ∧ i = .int .i64 j ∧ Hid (∃ xs, wr.ownsRow gp 31 2 (.slice (some ⟨gp, 0, none⟩) kk kk) kk xs ∧ Pn.Good xs (prs K) j) ∧ Hid (wr.ownsRow wb.heap.size 2 1 (.slice (some ⟨g, 0, none⟩) m c) m (ints (K ++ Z))) ∧ Hid (Below wb.heap.size wb wr)) (fun i _ => kk - (intOf i).toNat)
      case atStart => exact ⟨0, Nat.zero_le _, rfl, R5, I5, B5⟩
      case round =>
        clear R5 I5 B5
        obtain ⟨j, hj, rfl, RR, II, BB⟩ := hrel
        by_cases hlj : j < kk
        · obtain ⟨xs, R1, G1⟩ := RR.out
          have R1' : Hid (wr.ownsRow gp 31 2 (.slice (some ⟨gp, 0, none⟩) kk kk) kk xs) := R1
          have G1' : Hid (Pn.Good xs (prs K) j) := G1
          have lx : xs.length = kk * 2 := R1.1
          have ka0 := ints_at II.out j (by rw [HK1.out]; omega) (by rw [HK1.out]; exact hcl)
          have kb0 := ints_at II.out (j + 1) (by rw [HK1.out]; omega) (by rw [HK1.out]; exact hcl)
          have HPA : Hid (Pn.c0 (prs K) j = K.getD j 0 ∧ Pn.c1 (prs K) j = K.getD (j + 1) 0) := (by
            have := prs_at K j (by rw [HK1.out]; omega)
            unfold Pn.c0 Pn.c1
            rw [this]
            exact ⟨rfl, rfl⟩)
          generalize K.getD j 0 = ka at *
          generalize K.getD (j + 1) 0 = kb at *
          obtain ⟨z0, p0⟩ : ∃ z, wr.cell? ⟨gp, j * 2, none⟩ = some z := ⟨_, by rw [R1.cellAt (j * 2) (by omega)]; exact List.getElem?_eq_getElem (by omega)⟩
          obtain ⟨z1, p1⟩ : ∃ z, wr.cell? ⟨gp, j * 2 + 1, none⟩ = some z := ⟨_, by rw [R1.cellAt (j * 2 + 1) (by omega)]; exact List.getElem?_eq_getElem (by omega)⟩
          have f0 : wr.frozen? ⟨gp, j * 2, none⟩ = false := R1.frozenAt _
          have f1 : wr.frozen? ⟨gp, j * 2 + 1, none⟩ = false := R1.frozenAt _
          have i0' : (0 : Int) ≤ (j : Int) := by omega
          have i1 : (j : Int) < (kk : Int) := by omega
          have i2 : (j : Int) < (kk : Int) + 1 := by omega
          have i3 : (j : Int) + 1 < (kk : Int) + 1 := by omega
          have i4 : (0 : Int) ≤ (j : Int) + 1 := by omega
          have j3 : IntKind.i64.wrap ((j : Int) + 1) = (j : Int) + 1 := IntWalk.i64_in _ (by omega)
          have R6 : Hid (((wr.drew.setCell ⟨gp, j * 2, none⟩ (.int .i64 ka)).setCell ⟨gp, j * 2 + 1, none⟩ (.int .i64 kb)).ownsRow gp 31 2 (.slice (some ⟨gp, 0, none⟩) kk kk) kk ((xs.set (j * 2) (.int .i64 ka)).set (j * 2 + 1) (.int .i64 kb))) := ((Pn.row_below R1'.out (Below.refl _ _).drew).stored (j * 2) _).1.stored (j * 2 + 1) _ |>.1
          have G6 : Hid (Pn.Good ((xs.set (j * 2) (.int .i64 ka)).set (j * 2 + 1) (.int .i64 kb)) (prs K) (j + 1)) := (by
            show Pn.Good _ _ _
            have := G1'.out.next (by omega)
            rw [HPA.out.1, HPA.out.2] at this
            exact this)
          have I6 : Hid (((wr.drew.setCell ⟨gp, j * 2, none⟩ (.int .i64 ka)).setCell ⟨gp, j * 2 + 1, none⟩ (.int .i64 kb)).ownsRow wb.heap.size 2 1 (.slice (some ⟨g, 0, none⟩) m c) m (ints (K ++ Z))) := ints_keep rfl (ints_keep rfl (Pn.row_below II.out (Below.refl _ _).drew) (by omega) _ _) (by omega) _ _
          have B6 : Hid (Below wb.heap.size wb ((wr.drew.setCell ⟨gp, j * 2, none⟩ (.int .i64 ka)).setCell ⟨gp, j * 2 + 1, none⟩ (.int .i64 kb))) := (BB.out.drew.setCell (p := ⟨gp, j * 2, none⟩) HBG.out _).setCell (p := ⟨gp, j * 2 + 1, none⟩) HBG.out _
          have hne : g ≠ gp := by omega
          have sA : ((wr.drew.setCell ⟨gp, j * 2, none⟩ (.int .i64 ka)).setCell ⟨gp, j * 2 + 1, none⟩ (.int .i64 kb)).cell? ⟨g, j, none⟩ = some (.int .i64 ka) := (by
            have h := (cell_ne2 gp g j hne wr.drew (j * 2) (j * 2 + 1) (.int .i64 ka) (.int .i64 kb))
            rw [h]; exact ka0)
          have sB : ((wr.drew.setCell ⟨gp, j * 2, none⟩ (.int .i64 ka)).setCell ⟨gp, j * 2 + 1, none⟩ (.int .i64 kb)).cell? ⟨g, j + 1, none⟩ = some (.int .i64 kb) := (by
            have h := (cell_ne2 gp g (j + 1) hne wr.drew (j * 2) (j * 2 + 1) (.int .i64 ka) (.int .i64 kb))
            rw [h]; exact kb0)
          have SS : Hid (((wr.drew.setCell ⟨gp, j * 2, none⟩ (.int .i64 ka)).setCell ⟨gp, j * 2 + 1, none⟩ (.int .i64 kb)).cell? ⟨g, j, none⟩ = some (.int .i64 ka) ∧ ((wr.drew.setCell ⟨gp, j * 2, none⟩ (.int .i64 ka)).setCell ⟨gp, j * 2 + 1, none⟩ (.int .i64 kb)).cell? ⟨g, j + 1, none⟩ = some (.int .i64 kb)) := ⟨sA, sB⟩
          clear sA sB R1 G1 RR II BB lx HPA
          go_upto_region 17 with fail
          refine wp_region_held_drew (S := (fun w' => w'.cell? ⟨g, j, none⟩ = some (.int .i64 ka) ∧ w'.cell? ⟨g, j + 1, none⟩ = some (.int .i64 kb))) (by kernel_rfl) (by (try dsimp only); go_keep) (fun hHeld => ?_)
          refine wpAnyH_take (i := 0) (oi := { dst := some 52, op := Go.Op.move (Go.Operand.tmp 6), type := 47, pos := "l21_aviation.go:191", after := #[], guard := none }) (v := ?_) rfl (by kernel_rfl) (by kernel_rfl) (by kernel_rfl) (fun _ _ _ h => h) (Or.inl ⟨by rfl, ?_⟩) (by assumption) ?_
          rotate_left 1
          · (intro w hSw; (try dsimp only at hSw); go_simp); all_goals (with_reducible rfl)
          try simp only [Act.put, List.setIfInBounds_toArray, List.set_cons_zero, List.set_cons_succ]
          refine wpAnyH_take (i := 1) (oi := { dst := some 53, op := Go.Op.move (Go.Operand.tmp 7), type := 3, pos := "l21_aviation.go:191", after := #[], guard := none }) (v := ?_) rfl (by kernel_rfl) (by kernel_rfl) (by kernel_rfl) (fun _ _ _ h => h) (Or.inl ⟨by rfl, ?_⟩) (by assumption) ?_
          rotate_left 1
          · (intro w hSw; (try dsimp only at hSw); go_simp); all_goals (with_reducible rfl)
          try simp only [Act.put, List.setIfInBounds_toArray, List.set_cons_zero, List.set_cons_succ]
          refine wpAnyH_take (i := 2) (oi := { dst := some 54, op := Go.Op.move (Go.Operand.tmp 3), type := 74, pos := "l21_aviation.go:191", after := #[], guard := none }) (v := ?_) rfl (by kernel_rfl) (by kernel_rfl) (by kernel_rfl) (fun _ _ _ h => h) (Or.inl ⟨by rfl, ?_⟩) (by assumption) ?_
          rotate_left 1
          · (intro w hSw; (try dsimp only at hSw); go_simp); all_goals (with_reducible rfl)
          try simp only [Act.put, List.setIfInBounds_toArray, List.set_cons_zero, List.set_cons_succ]
          refine wpAnyH_take (i := 3) (oi := { dst := some 55, op := Go.Op.move (Go.Operand.tmp 7), type := 3, pos := "l21_aviation.go:191", after := #[], guard := none }) (v := ?_) rfl (by kernel_rfl) (by kernel_rfl) (by kernel_rfl) (fun _ _ _ h => h) (Or.inl ⟨by rfl, ?_⟩) (by assumption) ?_
          rotate_left 1
          · (intro w hSw; (try dsimp only at hSw); go_simp); all_goals (with_reducible rfl)
          try simp only [Act.put, List.setIfInBounds_toArray, List.set_cons_zero, List.set_cons_succ]
          refine wpAnyH_take (i := 4) (oi := { dst := some 56, op := Go.Op.indexAddr 74 (Go.Operand.tmp 54) (Go.Operand.tmp 55), type := 0, pos := "l21_aviation.go:191", after := #[{ on := 2, ground := Go.Ground.data }, { on := 3, ground := Go.Ground.data }], guard := none }) (v := ?_) rfl (by kernel_rfl) (by kernel_rfl) (by kernel_rfl) (fun _ _ _ h => h) (Or.inl ⟨by rfl, ?_⟩) (by assumption) ?_
          rotate_left 1
          · (intro w hSw; (try dsimp only at hSw); go_simp); all_goals (with_reducible rfl)
          try simp only [Act.put, List.setIfInBounds_toArray, List.set_cons_zero, List.set_cons_succ]
          refine wpAnyH_take (i := 5) (oi := { dst := some 57, op := Go.Op.load 2 (Go.Operand.tmp 56), type := 2, pos := "l21_aviation.go:191", after := #[{ on := 4, ground := Go.Ground.data }], guard := none }) (v := ?_) rfl (by kernel_rfl) (by kernel_rfl) (by kernel_rfl) (fun _ _ _ h => h) (Or.inl ⟨by rfl, ?_⟩) (by assumption) ?_
          rotate_left 1
          · (intro w hSw; (try dsimp only at hSw); go_simp); all_goals (with_reducible rfl)
          try simp only [Act.put, List.setIfInBounds_toArray, List.set_cons_zero, List.set_cons_succ]
          refine wpAnyH_take (i := 6) (oi := { dst := some 58, op := Go.Op.move (Go.Operand.tmp 3), type := 74, pos := "l21_aviation.go:191", after := #[], guard := none }) (v := ?_) rfl (by kernel_rfl) (by kernel_rfl) (by kernel_rfl) (fun _ _ _ h => h) (Or.inl ⟨by rfl, ?_⟩) (by assumption) ?_
          rotate_left 1
          · (intro w hSw; (try dsimp only at hSw); go_simp); all_goals (with_reducible rfl)
          try simp only [Act.put, List.setIfInBounds_toArray, List.set_cons_zero, List.set_cons_succ]
          refine wpAnyH_take (i := 7) (oi := { dst := some 59, op := Go.Op.move (Go.Operand.tmp 7), type := 3, pos := "l21_aviation.go:191", after := #[], guard := none }) (v := ?_) rfl (by kernel_rfl) (by kernel_rfl) (by kernel_rfl) (fun _ _ _ h => h) (Or.inl ⟨by rfl, ?_⟩) (by assumption) ?_
          rotate_left 1
          · (intro w hSw; (try dsimp only at hSw); go_simp); all_goals (with_reducible rfl)
          try simp only [Act.put, List.setIfInBounds_toArray, List.set_cons_zero, List.set_cons_succ]
          refine wpAnyH_take (i := 8) (oi := { dst := some 60, op := Go.Op.binOp Go.BinOp.add 3 (Go.Operand.tmp 59) (Go.Operand.const (Go.Value.int Go.IntKind.i64 1)) 3, type := 3, pos := "l21_aviation.go:191", after := #[{ on := 7, ground := Go.Ground.data }], guard := none }) (v := ?_) rfl (by kernel_rfl) (by kernel_rfl) (by kernel_rfl) (fun _ _ _ h => h) (Or.inl ⟨by rfl, ?_⟩) (by assumption) ?_
          rotate_left 1
          · (intro w hSw; (try dsimp only at hSw); go_simp); all_goals (with_reducible rfl)
          try simp only [Act.put, List.setIfInBounds_toArray, List.set_cons_zero, List.set_cons_succ]
          refine wpAnyH_take (i := 9) (oi := { dst := some 61, op := Go.Op.indexAddr 74 (Go.Operand.tmp 58) (Go.Operand.tmp 60), type := 0, pos := "l21_aviation.go:191", after := #[{ on := 6, ground := Go.Ground.data }, { on := 8, ground := Go.Ground.data }], guard := none }) (v := ?_) rfl (by kernel_rfl) (by kernel_rfl) (by kernel_rfl) (fun _ _ _ h => h) (Or.inl ⟨by rfl, ?_⟩) (by assumption) ?_
          rotate_left 1
          · (intro w hSw; (try dsimp only at hSw); go_simp); all_goals (with_reducible rfl)
          try simp only [Act.put, List.setIfInBounds_toArray, List.set_cons_zero, List.set_cons_succ]
          refine wpAnyH_take (i := 10) (oi := { dst := some 62, op := Go.Op.load 2 (Go.Operand.tmp 61), type := 2, pos := "l21_aviation.go:191", after := #[{ on := 9, ground := Go.Ground.data }], guard := none }) (v := ?_) rfl (by kernel_rfl) (by kernel_rfl) (by kernel_rfl) (fun _ _ _ h => h) (Or.inl ⟨by rfl, ?_⟩) (by assumption) ?_
          rotate_left 1
          · (intro w hSw; (try dsimp only at hSw); go_simp); all_goals (with_reducible rfl)
          try simp only [Act.put, List.setIfInBounds_toArray, List.set_cons_zero, List.set_cons_succ]
          refine wpAnyH_take (i := 11) (oi := { dst := some 63, op := Go.Op.build 31 #[(0, Go.Operand.tmp 57), (1, Go.Operand.tmp 62)], type := 31, pos := "l21_aviation.go:191", after := #[{ on := 5, ground := Go.Ground.data }, { on := 10, ground := Go.Ground.data }], guard := none }) (v := ?_) rfl (by kernel_rfl) (by kernel_rfl) (by kernel_rfl) (fun _ _ _ h => h) (Or.inl ⟨by rfl, ?_⟩) (by assumption) ?_
          rotate_left 1
          · (intro w hSw; (try dsimp only at hSw); go_simp); all_goals (with_reducible rfl)
          try simp only [Act.put, List.setIfInBounds_toArray, List.set_cons_zero, List.set_cons_succ]
          refine wpAnyH_take (i := 12) (oi := { dst := some 64, op := Go.Op.indexAddr 47 (Go.Operand.tmp 52) (Go.Operand.tmp 53), type := 0, pos := "l21_aviation.go:191", after := #[{ on := 0, ground := Go.Ground.data }, { on := 1, ground := Go.Ground.data }, { on := 0, ground := Go.Ground.phase }, { on := 1, ground := Go.Ground.phase }, { on := 2, ground := Go.Ground.phase }, { on := 3, ground := Go.Ground.phase }, { on := 4, ground := Go.Ground.phase }, { on := 5, ground := Go.Ground.phase }, { on := 6, ground := Go.Ground.phase }, { on := 7, ground := Go.Ground.phase }, { on := 8, ground := Go.Ground.phase }, { on := 9, ground := Go.Ground.phase }, { on := 10, ground := Go.Ground.phase }, { on := 11, ground := Go.Ground.phase }], guard := none }) (v := ?_) rfl (by kernel_rfl) (by kernel_rfl) (by kernel_rfl) (fun _ _ _ h => h) (Or.inl ⟨by rfl, ?_⟩) (by assumption) ?_
          rotate_left 1
          · (intro w hSw; (try dsimp only at hSw); go_simp); all_goals (with_reducible rfl)
          try simp only [Act.put, List.setIfInBounds_toArray, List.set_cons_zero, List.set_cons_succ]
          refine wpAnyH_ready (rs := [13]) (by kernel_rfl) (by simp) ?_
          refine AllReadyH.cons (o := { dst := none, op := Go.Op.store 31 (Go.Operand.tmp 64) (Go.Operand.tmp 63), type := 0, pos := "l21_aviation.go:191", after := #[{ on := 12, ground := Go.Ground.data }, { on := 11, ground := Go.Ground.data }, { on := 0, ground := Go.Ground.phase }, { on := 1, ground := Go.Ground.phase }, { on := 2, ground := Go.Ground.phase }, { on := 3, ground := Go.Ground.phase }, { on := 4, ground := Go.Ground.phase }, { on := 5, ground := Go.Ground.phase }, { on := 6, ground := Go.Ground.phase }, { on := 7, ground := Go.Ground.phase }, { on := 8, ground := Go.Ground.phase }, { on := 9, ground := Go.Ground.phase }, { on := 10, ground := Go.Ground.phase }, { on := 11, ground := Go.Ground.phase }], guard := none }) rfl (fun K hK => ?_) AllReadyH.nil
          go_simp
          refine hK.out _ _ (by (try dsimp only); exact SS.out) (fun hHeld2 => ?_)
          clear hK K hHeld
          have hHeld := hHeld2
          clear hHeld2
          try simp only [Act.put, List.setIfInBounds_toArray, List.set_cons_zero, List.set_cons_succ]
          refine wpAnyH_done (by kernel_rfl) ?_ _
          go_wp2_with fail
          go_roundw
          case rel => exact ⟨j + 1, by omega, by go_num, ⟨_, R6.out, G6.out⟩, I6, B6⟩
          case measure => simp [intOf]; omega
        · have ej : j = kk := by omega
          subst ej
          have RE : Hid (Pn.Row wr gp (.slice (some ⟨gp, 0, none⟩) j j) (prs K)) := (by
            obtain ⟨xs, r, gd⟩ := RR.out
            have hpl : (prs K).length = j := by rw [prs_len, HK1.out]; omega
            exact ⟨xs, by rw [hpl]; exact r, by rw [hpl]; exact gd⟩)
          have BE : Hid (Below w.heap.size w wr) := BW.out.trans (BB.out.mono BW.out.size)
          clear RR II BB
          go_wp2_with fail
          go_ret
          exact ⟨_, rfl, by rw [HPS.out]; exact Pn.down RE.out (Nat.le_trans BW.out.size HBG.out), BE.out⟩
end Go.Proofs.Ytmbhlmpdkkjedaa.To
