/- DrawPack. -/
import Derived.Test.YtgajajpcjbpalaaZl
import Derived.Deep.Cut
namespace Go.Proofs.Ytgajajpcjbpalaa.Rd
open Go.ChangeShapes Go.WideShapes Go.ChangeAt Go.RowKit
open Go.Proofs.Ytgajajpcjbpalaa.Lists Go.Proofs.Ytgajajpcjbpalaa.Flt Go.Proofs.Ytgajajpcjbpalaa.Fls Go.Proofs.Ytgajajpcjbpalaa.Pkd

attribute [local go_sem] Pkd.run_store_float

theorem FS.alloc {r n : Nat} {w wx : World} {v : Value} {L : List Nat} (h : FS r w wx v n L) (hr : r < w.heap.size) (ob : Obj) : FS r w (wx.alloc ob) v n L := ⟨h.rd.kept ((Below.refl wx.heap.size wx).alloc (Nat.le_refl _) _) h.rd.lt, h.tn.alloc hr _, h.row.alloc _⟩
/-- A list of floats that lies elsewhere than the reader. -/
def FR (r : Nat) (w : World) (v : Value) (L : List Nat) : Prop :=
  (L = [] ∧ ∃ a cap, v = .slice a 0 cap) ∨ ∃ b o cap, v = .slice (some ⟨b, o, none⟩) L.length cap ∧ L.length ≤ cap ∧ cap ≤ maxLen ∧ b < w.heap.size ∧ b ≠ r ∧ ∀ i, i < L.length → w.cell? ⟨b, o + i, none⟩ = some (.float .f64 (L.getD i 0))
theorem FR.reads {r : Nat} {w : World} {v : Value} {L : List Nat} (h : FR r w v L) : Fls.Reads w v L := by
  rcases h with h | ⟨b, o, cap, h1, h2, h3, h4, _, h5⟩
  · exact .inl h
  · exact .inr ⟨b, o, cap, h1, h2, h3, h4, h5⟩
theorem FR.turn {r : Nat} {w w' : World} {v : Value} {L : List Nat} (h : FR r w v L) (t : Turn r w w') : FR r w' v L := by
  rcases h with h | ⟨b, o, cap, h1, h2, h3, h4, h6, h5⟩
  · exact .inl h
  · exact .inr ⟨b, o, cap, h1, h2, h3, Nat.lt_of_lt_of_le h4 t.size, h6, fun i hi => (t.cell _ h4 h6).trans (h5 i hi)⟩
theorem row_fr {r B : Nat} {w : World} {v : Value} {L : List Nat} (h : w.ownsRow B 40 1 v L.length (flts L)) (hr : r < B) : FR r w v L := by
  rcases Fls.row_cases h with ⟨rfl, rfl⟩ | ⟨g, cap, rfl, h1, h2, h3, h4⟩
  · exact .inl ⟨rfl, _, _, rfl⟩
  · exact .inr ⟨g, 0, cap, rfl, h3, h4, h2, by omega, fun i hi => by rw [Nat.zero_add]; exact Fls.row_cell h i hi⟩
theorem FS.fr {r : Nat} {w wx : World} {v : Value} {L : List Nat} (h : FS r w wx v L.length L) (hr : r < w.heap.size) : FR r wx v L := row_fr h.row hr
theorem FS.put {r g cap : Nat} {w wx : World} {L : List Nat} (h : FS r w wx (.slice (some ⟨g, 0, none⟩) L.length cap) L.length L) (hr : r < w.heap.size) (i x : Nat) :
    FS r w (wx.setCell ⟨g, i, none⟩ (.float .f64 x)) (.slice (some ⟨g, 0, none⟩) L.length cap) L.length (L.set i x) := by
  have hg : w.heap.size ≤ g := (h.row.lt g rfl).1
  refine ⟨h.rd.kept ((Below.refl g wx).setCell (p := ⟨g, i, none⟩) (Nat.le_refl _) _) (by omega), h.tn.setCell (p := ⟨g, i, none⟩) hg hr _, ?_⟩
  have := (h.row.stored i (.float .f64 x)).1
  rw [flts_set] at this
  exact this
theorem open_rd {w : World} {a : Option Addr} {n cap : Nat} (h : Code w a n cap) (hn : n ≤ 1048576) : Rd w.heap.size (w.alloc (.cells #[.slice a n cap, .int .i64 0] 77)) := Rd.new h hn (Below.refl _ _)

set_option maxHeartbeats 4000000 in
theorem draw_any (a : Option Addr) (n cap : Nat) (w : World) (h : Code w a n cap) (hn : n ≤ 1048576) : Calls Try.prog 14 #[.slice a n cap] w fun e w' => ∃ v L b d, e = .returned (.tuple #[v, .int .i64 b, .int .i64 d]) ∧ Fls.Reads w' v L ∧ Below w.heap.size w w' := by
  obtain ⟨i0, hi, hz0, hz1, hz2⟩ := info_parts Pkd.Try.info40
  obtain ⟨r, hrr⟩ : ∃ r, r = w.heap.size := ⟨_, rfl⟩
  have HR : Hid (r = w.heap.size) := hrr
  have O : Hid (Calls Try.prog 30 #[.slice a n cap] w fun e w' => e = .returned (.pointer (some ⟨r, 0, none⟩)) ∧ Rd r w' ∧ Below w.heap.size w w' ∧ r < w'.heap.size) := (open_any _ a n cap rfl w).mono fun e w' ⟨h1, h2⟩ => ⟨by rw [h1, hrr], by rw [h2, hrr]; exact open_rd h hn, by rw [h2]; exact (Below.refl _ _).alloc (Nat.le_refl _) _, by rw [h2, hrr]; simp⟩
  clear h hrr
  go_enter Try.func14, Try.ntmps14
  go_wp2_with fail
  refine O.out.mono ?_
  rintro e w1 ⟨rfl, k0, b1, hr⟩
  have B1 : Hid (Below w.heap.size w w1) := b1
  have BT : Hid (∀ wz, Turn r w1 wz → Below w.heap.size w wz) := fun wz t => B1.out.trans (t.bel.mono (by rw [HR.out]; exact Nat.le_refl _))
  clear b1 O
  go_wp2_with fail
  refine (field_any r w1 k0).mono ?_
  rintro e w3 ⟨v0, L0, rfl, ⟨l1, l2⟩, hF⟩
  have F3 : Hid (FS r w1 w3 v0 L0.length L0) := hF
  clear hF k0
  go_wp2_with fail
  refine (below_any r w3 F3.out.rd 24 (by omega) (by omega)).mono ?_
  rintro e w4 ⟨⟨u1, ⟨hu1, hu2⟩, rfl⟩, k1, k2⟩
  have F4 : Hid (FS r w1 w4 v0 L0.length L0) := F3.out.turn hr k1 k2
  clear k1 k2 F3
  go_wp2_with fail
  refine (below_any r w4 F4.out.rd 4 (by omega) (by omega)).mono ?_
  rintro e w5 ⟨⟨u2, ⟨hu3, hu4⟩, rfl⟩, k1, k2⟩
  have F5 : Hid (FS r w1 w5 v0 L0.length L0) := F4.out.turn hr k1 k2
  clear k1 k2 F4
  go_wp2_with fail
  refine (below_any r w5 F5.out.rd 20 (by omega) (by omega)).mono ?_
  rintro e w6 ⟨⟨u, ⟨hv1, hv2⟩, rfl⟩, k1, k2⟩
  have F6 : Hid (FS r w1 w6 v0 L0.length L0) := F5.out.turn hr k1 k2
  clear k1 k2 F5
  have L1 : Hid (1 ≤ L0.length ∧ L0.length ≤ 60) := ⟨l1, l2⟩
  clear l1 l2
  have hcase : u = 0 ∨ u = 1 ∨ u = 2 ∨ u = 3 ∨ u = 4 ∨ u = 5 ∨ 6 ≤ u := by omega
  rcases hcase with rfl | rfl | rfl | rfl | rfl | rfl | h6
  case' inl =>
    have FL : Hid (FS r w1 (w6.alloc (.cells #[.int .i64 0, .int .i64 25, .int .i64 1, .int .i64 24] 2)) v0 L0.length L0) := F6.out.alloc hr _
    have HC : Hid (∀ i, i < 4 → ∃ z, (w6.alloc (.cells #[.int .i64 0, .int .i64 25, .int .i64 1, .int .i64 24] 2)).cell? ⟨w6.heap.size, i, none⟩ = some (.int .i64 z)) := fun i hi => (by
      rcases (by omega : i = 0 ∨ i = 1 ∨ i = 2 ∨ i = 3) with rfl | rfl | rfl | rfl <;> exact ⟨_, by simp [go_sem]; rfl⟩)
    have s6 : w6.heap.size < (w6.alloc (.cells #[.int .i64 0, .int .i64 25, .int .i64 1, .int .i64 24] 2)).heap.size := by simp
    have rne : ¬ w6.heap.size = r := by have := F6.out.rd.lt; omega
    clear F6
    go_wp2_with fail
    refine (below_any r _ FL.out.rd 4 (by omega) (by omega)).mono ?_
    rintro e w7 ⟨⟨y, ⟨hy1, hy2⟩, rfl⟩, k1, k2⟩
    obtain ⟨j, rfl⟩ : ∃ j : Nat, y = (j : Int) := ⟨y.toNat, by omega⟩
    obtain ⟨zz, hz⟩ := HC.out j (by omega)
    have q0 := (k2.cell j s6 rne).trans hz
    have F7 : Hid (FS r w1 w7 v0 L0.length L0) := FL.out.turn hr k1 k2
    have FR7 : Hid (FR r w7 v0 L0) := F7.out.fr hr
    have T7 : Hid (Rd r w7 ∧ Turn r w1 w7) := ⟨F7.out.rd, F7.out.tn⟩
    have j0 : (0 : Int) ≤ (j : Int) := by omega
    have j4 : (j : Int) < 4 := by omega
    clear k1 k2 HC hz FL F7 s6
    go_upto_region 22 with fail
    generalize w7 = wz at FR7 T7 ⊢
    go_wp2_with fail
    refine (once_any r wz T7.out.1 60 (by omega) (by omega)).mono ?_
    rintro e w8 ⟨⟨qq, rfl⟩, k1, k2⟩
    have FH : Hid (FR r w8 (v0) (L0)) := FR7.out.turn k2
    have T8 : Hid (Rd r w8 ∧ Turn r w1 w8) := ⟨k1, T7.out.2.trans k2⟩
    clear k1 k2 T7 FR7
    cases qq
    · go_wp2_with fail
      exact bodyPost_ret (v := .tuple #[v0, .int .i64 (zz), .int .i64 (u2 - 1)]) (by simp [results, Try.results14, go_sem]) rfl ⟨_, _, _, _, rfl, FH.out.reads, BT.out _ T8.out.2⟩
    · go_wp2_with fail
      refine (below_any r w8 T8.out.1 2 (by omega) (by omega)).mono ?_
      rintro e w9 ⟨⟨y, ⟨hy1, hy2⟩, rfl⟩, k1, k2⟩
      have T9 : Hid (Rd r w9 ∧ Turn r w1 w9) := ⟨k1, T8.out.2.trans k2⟩
      obtain ⟨mm, hmm⟩ : ∃ mm : Nat, 4096 + y = (mm : Int) := ⟨(4096 + y).toNat, by omega⟩
      have hw : IntKind.i64.wrap (4096 + y) = (mm : Int) := (IntWalk.i64_in _ (by omega)).trans hmm
      have m1 : mm ≤ 5000 := by omega
      have m2 : ((mm : Int)) ≤ 5000 := by omega
      obtain ⟨LZ, hLZ⟩ : ∃ LZ : List Nat, LZ.length = mm := ⟨List.replicate mm 0, by simp⟩
      have FZ : Hid ((madeCells (Value.float .f64 0).cells (mm * 1)).toList = flts (ffill LZ 0)) := (by have := ffill_zero LZ; rw [hLZ] at this; exact this)
      have FZL : Hid ((ffill LZ 0).length = mm) := (by show _ = _; rw [ffill_len]; exact hLZ)
      clear k1 k2 hmm T8 FH hLZ
      go_wp2_with (at_make; refine wpList_make_full _ rfl _ _ 22 rfl w9.heap.size 40 i0 (.float .f64 0) 1 Try.underlying22 hi hz0 hz1 .i64 .i64 (mm : Int) (mm : Int) mm rfl rfl rfl rfl (by rw [hz2]; omega) (by unfold maxLen; omega) (Nat.le_refl _) ?_; intro wA hown hgrow)
      rw [FZ.out] at hown
      have RZ : Hid (Fls.Reads wA (.slice (some ⟨w9.heap.size, 0, none⟩) mm mm) (ffill LZ 0)) := (by
        have h : wA.ownsRow w9.heap.size 40 1 (.slice (some ⟨w9.heap.size, 0, none⟩) mm mm) (ffill LZ 0).length (flts (ffill LZ 0)) := by rw [FZL.out]; exact hown
        exact Fls.reads_row h)
      have BZ : Hid (Below w.heap.size w wA) := (BT.out _ T9.out.2).trans ((Below.refl w9.heap.size w9).grown hgrow (Nat.le_refl _) (fun k hk => by cases hk) |>.mono (BT.out _ T9.out.2).size)
      clear hown hgrow
      go_wp2_with fail
      exact bodyPost_ret (v := .tuple #[.slice (some ⟨w9.heap.size, 0, none⟩) mm mm, .int .i64 (zz), .int .i64 (u2 - 1)]) (by simp [results, Try.results14, go_sem]) rfl ⟨_, _, _, _, rfl, RZ.out, BZ.out⟩
  case' inr.inl =>
    have FL : Hid (FS r w1 (w6.alloc (.cells #[.int .i64 (-4), .int .i64 7, .int .i64 (-3), .int .i64 6] 2)) v0 L0.length L0) := F6.out.alloc hr _
    have HC : Hid (∀ i, i < 4 → ∃ z, (w6.alloc (.cells #[.int .i64 (-4), .int .i64 7, .int .i64 (-3), .int .i64 6] 2)).cell? ⟨w6.heap.size, i, none⟩ = some (.int .i64 z)) := fun i hi => (by
      rcases (by omega : i = 0 ∨ i = 1 ∨ i = 2 ∨ i = 3) with rfl | rfl | rfl | rfl <;> exact ⟨_, by simp [go_sem]; rfl⟩)
    have s6 : w6.heap.size < (w6.alloc (.cells #[.int .i64 (-4), .int .i64 7, .int .i64 (-3), .int .i64 6] 2)).heap.size := by simp
    have rne : ¬ w6.heap.size = r := by have := F6.out.rd.lt; omega
    clear F6
    go_wp2_with fail
    refine (below_any r _ FL.out.rd 4 (by omega) (by omega)).mono ?_
    rintro e w7 ⟨⟨y, ⟨hy1, hy2⟩, rfl⟩, k1, k2⟩
    obtain ⟨j, rfl⟩ : ∃ j : Nat, y = (j : Int) := ⟨y.toNat, by omega⟩
    obtain ⟨zz, hz⟩ := HC.out j (by omega)
    have q0 := (k2.cell j s6 rne).trans hz
    have F7 : Hid (FS r w1 w7 v0 L0.length L0) := FL.out.turn hr k1 k2
    have FR7 : Hid (FR r w7 v0 L0) := F7.out.fr hr
    have T7 : Hid (Rd r w7 ∧ Turn r w1 w7) := ⟨F7.out.rd, F7.out.tn⟩
    have j0 : (0 : Int) ≤ (j : Int) := by omega
    have j4 : (j : Int) < 4 := by omega
    clear k1 k2 HC hz FL F7 s6
    go_upto_region 22 with fail
    generalize w7 = wz at FR7 T7 ⊢
    go_wp2_with fail
    refine (once_any r wz T7.out.1 60 (by omega) (by omega)).mono ?_
    rintro e w8 ⟨⟨qq, rfl⟩, k1, k2⟩
    have FH : Hid (FR r w8 (v0) (L0)) := FR7.out.turn k2
    have T8 : Hid (Rd r w8 ∧ Turn r w1 w8) := ⟨k1, T7.out.2.trans k2⟩
    clear k1 k2 T7 FR7
    cases qq
    · go_wp2_with fail
      exact bodyPost_ret (v := .tuple #[v0, .int .i64 (1 + u1), .int .i64 (zz)]) (by simp [results, Try.results14, go_sem]) rfl ⟨_, _, _, _, rfl, FH.out.reads, BT.out _ T8.out.2⟩
    · go_wp2_with fail
      refine (below_any r w8 T8.out.1 2 (by omega) (by omega)).mono ?_
      rintro e w9 ⟨⟨y, ⟨hy1, hy2⟩, rfl⟩, k1, k2⟩
      have T9 : Hid (Rd r w9 ∧ Turn r w1 w9) := ⟨k1, T8.out.2.trans k2⟩
      obtain ⟨mm, hmm⟩ : ∃ mm : Nat, 4096 + y = (mm : Int) := ⟨(4096 + y).toNat, by omega⟩
      have hw : IntKind.i64.wrap (4096 + y) = (mm : Int) := (IntWalk.i64_in _ (by omega)).trans hmm
      have m1 : mm ≤ 5000 := by omega
      have m2 : ((mm : Int)) ≤ 5000 := by omega
      obtain ⟨LZ, hLZ⟩ : ∃ LZ : List Nat, LZ.length = mm := ⟨List.replicate mm 0, by simp⟩
      have FZ : Hid ((madeCells (Value.float .f64 0).cells (mm * 1)).toList = flts (ffill LZ 0)) := (by have := ffill_zero LZ; rw [hLZ] at this; exact this)
      have FZL : Hid ((ffill LZ 0).length = mm) := (by show _ = _; rw [ffill_len]; exact hLZ)
      clear k1 k2 hmm T8 FH hLZ
      go_wp2_with (at_make; refine wpList_make_full _ rfl _ _ 22 rfl w9.heap.size 40 i0 (.float .f64 0) 1 Try.underlying22 hi hz0 hz1 .i64 .i64 (mm : Int) (mm : Int) mm rfl rfl rfl rfl (by rw [hz2]; omega) (by unfold maxLen; omega) (Nat.le_refl _) ?_; intro wA hown hgrow)
      rw [FZ.out] at hown
      have RZ : Hid (Fls.Reads wA (.slice (some ⟨w9.heap.size, 0, none⟩) mm mm) (ffill LZ 0)) := (by
        have h : wA.ownsRow w9.heap.size 40 1 (.slice (some ⟨w9.heap.size, 0, none⟩) mm mm) (ffill LZ 0).length (flts (ffill LZ 0)) := by rw [FZL.out]; exact hown
        exact Fls.reads_row h)
      have BZ : Hid (Below w.heap.size w wA) := (BT.out _ T9.out.2).trans ((Below.refl w9.heap.size w9).grown hgrow (Nat.le_refl _) (fun k hk => by cases hk) |>.mono (BT.out _ T9.out.2).size)
      clear hown hgrow
      go_wp2_with fail
      exact bodyPost_ret (v := .tuple #[.slice (some ⟨w9.heap.size, 0, none⟩) mm mm, .int .i64 (1 + u1), .int .i64 (zz)]) (by simp [results, Try.results14, go_sem]) rfl ⟨_, _, _, _, rfl, RZ.out, BZ.out⟩
  case' inr.inr.inl =>
    obtain ⟨g, cp, rfl, hg1, hg2, hg3⟩ : ∃ g cp, v0 = .slice (some ⟨g, 0, none⟩) L0.length cp ∧ w1.heap.size ≤ g ∧ g < w6.heap.size ∧ L0.length ≤ cp := (by
      rcases Fls.row_cases F6.out.row with ⟨h, _⟩ | ⟨g, cp, h1, h2, h3, h4, _⟩
      · have := L1.out.1; rw [h] at this; exact absurd this (by decide)
      · exact ⟨g, cp, h1, h2, h3, h4⟩)
    have gne : ¬ g = r := by omega
    have lp : (0 : Int) < (L0.length : Int) := by have := L1.out.1; omega
    have l60 : (L0.length : Int) ≤ 60 := by have := L1.out.2; omega
    obtain ⟨ln, hln⟩ : ∃ ln, ln = L0.length := ⟨_, rfl⟩
    have HLN : Hid (ln = L0.length) := hln
    rw [← hln] at lp l60 F6 ⊢
    clear hln
    go_wp2_with fail
    refine (float_any r w6 F6.out.rd).mono ?_
    rintro e w7 ⟨⟨y, hy, rfl⟩, k1, k2⟩
    have F7 : Hid (FS r w1 w7 (.slice (some ⟨g, 0, none⟩) ln cp) ln L0) := F6.out.turn hr k1 k2
    have q0 : ∃ z, w7.cell? ⟨g, 0, none⟩ = some (.float .f64 z) := (by
      have h := F7.out.row
      rw [HLN.out] at h
      exact ⟨_, Fls.row_cell h 0 L1.out.1⟩)
    obtain ⟨z0, q0⟩ := q0
    have q1 : w7.frozen? ⟨g, 0, none⟩ = false := F7.out.row.frozenAt 0
    have F8 : Hid (FS r w1 (w7.setCell ⟨g, 0, none⟩ (.float .f64 y)) (.slice (some ⟨g, 0, none⟩) ln cp) ln (L0.set 0 y)) := (by
      have h := F7.out
      show FS _ _ _ _ _ _
      rw [HLN.out] at h ⊢
      exact h.put hr 0 y)
    have FR7 : Hid (FR r (w7.setCell ⟨g, 0, none⟩ (.float .f64 y)) (.slice (some ⟨g, 0, none⟩) ln cp) (L0.set 0 y)) := (by
      have h := F8.out
      have e : ln = (L0.set 0 y).length := by rw [List.length_set]; exact HLN.out
      show FR _ _ _ _
      rw [e] at h ⊢
      exact h.fr hr)
    have T7 : Hid (Rd r (w7.setCell ⟨g, 0, none⟩ (.float .f64 y)) ∧ Turn r w1 (w7.setCell ⟨g, 0, none⟩ (.float .f64 y))) := ⟨F8.out.rd, F8.out.tn⟩
    clear k1 k2 F6 F7 F8
    go_upto_region 22 with fail
    generalize World.setCell w7 _ _ = wz at FR7 T7 ⊢
    go_wp2_with fail
    refine (once_any r wz T7.out.1 60 (by omega) (by omega)).mono ?_
    rintro e w8 ⟨⟨qq, rfl⟩, k1, k2⟩
    have FH : Hid (FR r w8 (.slice (some ⟨g, 0, none⟩) ln cp) (L0.set 0 y)) := FR7.out.turn k2
    have T8 : Hid (Rd r w8 ∧ Turn r w1 w8) := ⟨k1, T7.out.2.trans k2⟩
    clear k1 k2 T7 FR7
    cases qq
    · go_wp2_with fail
      exact bodyPost_ret (v := .tuple #[.slice (some ⟨g, 0, none⟩) ln cp, .int .i64 (1 + u1), .int .i64 (u2 - 1)]) (by simp [results, Try.results14, go_sem]) rfl ⟨_, _, _, _, rfl, FH.out.reads, BT.out _ T8.out.2⟩
    · go_wp2_with fail
      refine (below_any r w8 T8.out.1 2 (by omega) (by omega)).mono ?_
      rintro e w9 ⟨⟨y, ⟨hy1, hy2⟩, rfl⟩, k1, k2⟩
      have T9 : Hid (Rd r w9 ∧ Turn r w1 w9) := ⟨k1, T8.out.2.trans k2⟩
      obtain ⟨mm, hmm⟩ : ∃ mm : Nat, 4096 + y = (mm : Int) := ⟨(4096 + y).toNat, by omega⟩
      have hw : IntKind.i64.wrap (4096 + y) = (mm : Int) := (IntWalk.i64_in _ (by omega)).trans hmm
      have m1 : mm ≤ 5000 := by omega
      have m2 : ((mm : Int)) ≤ 5000 := by omega
      obtain ⟨LZ, hLZ⟩ : ∃ LZ : List Nat, LZ.length = mm := ⟨List.replicate mm 0, by simp⟩
      have FZ : Hid ((madeCells (Value.float .f64 0).cells (mm * 1)).toList = flts (ffill LZ 0)) := (by have := ffill_zero LZ; rw [hLZ] at this; exact this)
      have FZL : Hid ((ffill LZ 0).length = mm) := (by show _ = _; rw [ffill_len]; exact hLZ)
      clear k1 k2 hmm T8 FH hLZ
      go_wp2_with (at_make; refine wpList_make_full _ rfl _ _ 22 rfl w9.heap.size 40 i0 (.float .f64 0) 1 Try.underlying22 hi hz0 hz1 .i64 .i64 (mm : Int) (mm : Int) mm rfl rfl rfl rfl (by rw [hz2]; omega) (by unfold maxLen; omega) (Nat.le_refl _) ?_; intro wA hown hgrow)
      rw [FZ.out] at hown
      have RZ : Hid (Fls.Reads wA (.slice (some ⟨w9.heap.size, 0, none⟩) mm mm) (ffill LZ 0)) := (by
        have h : wA.ownsRow w9.heap.size 40 1 (.slice (some ⟨w9.heap.size, 0, none⟩) mm mm) (ffill LZ 0).length (flts (ffill LZ 0)) := by rw [FZL.out]; exact hown
        exact Fls.reads_row h)
      have BZ : Hid (Below w.heap.size w wA) := (BT.out _ T9.out.2).trans ((Below.refl w9.heap.size w9).grown hgrow (Nat.le_refl _) (fun k hk => by cases hk) |>.mono (BT.out _ T9.out.2).size)
      clear hown hgrow
      go_wp2_with fail
      exact bodyPost_ret (v := .tuple #[.slice (some ⟨w9.heap.size, 0, none⟩) mm mm, .int .i64 (1 + u1), .int .i64 (u2 - 1)]) (by simp [results, Try.results14, go_sem]) rfl ⟨_, _, _, _, rfl, RZ.out, BZ.out⟩
  case' inr.inr.inr.inl =>
    obtain ⟨g, cp, rfl, hg1, hg2, hg3⟩ : ∃ g cp, v0 = .slice (some ⟨g, 0, none⟩) L0.length cp ∧ w1.heap.size ≤ g ∧ g < w6.heap.size ∧ L0.length ≤ cp := (by
      rcases Fls.row_cases F6.out.row with ⟨h, _⟩ | ⟨g, cp, h1, h2, h3, h4, _⟩
      · have := L1.out.1; rw [h] at this; exact absurd this (by decide)
      · exact ⟨g, cp, h1, h2, h3, h4⟩)
    have gne : ¬ g = r := by omega
    have lp : (0 : Int) < (L0.length : Int) := by have := L1.out.1; omega
    have l60 : (L0.length : Int) ≤ 60 := by have := L1.out.2; omega
    obtain ⟨ln, hln⟩ : ∃ ln, ln = L0.length := ⟨_, rfl⟩
    have HLN : Hid (ln = L0.length) := hln
    rw [← hln] at lp l60 F6 ⊢
    clear hln
    have FL : Hid (FS r w1 (w6.alloc (.cells #[.float .f64 4787326403894837248, .float .f64 4787326403894841344, .float .f64 14010698440749613056, .float .f64 9094988921128908188] 40)) (.slice (some ⟨g, 0, none⟩) ln cp) ln L0) := F6.out.alloc hr _
    have HC : Hid (∀ i, i < 4 → ∃ z, (w6.alloc (.cells #[.float .f64 4787326403894837248, .float .f64 4787326403894841344, .float .f64 14010698440749613056, .float .f64 9094988921128908188] 40)).cell? ⟨w6.heap.size, i, none⟩ = some (.float .f64 z)) := fun i hi => (by
      rcases (by omega : i = 0 ∨ i = 1 ∨ i = 2 ∨ i = 3) with rfl | rfl | rfl | rfl <;> exact ⟨_, by simp [go_sem]; rfl⟩)
    have s6 : w6.heap.size < (w6.alloc (.cells #[.float .f64 4787326403894837248, .float .f64 4787326403894841344, .float .f64 14010698440749613056, .float .f64 9094988921128908188] 40)).heap.size := by simp
    have rne : ¬ w6.heap.size = r := by have := F6.out.rd.lt; omega
    have ew : IntKind.i64.wrap ((ln : Int) - 1) = ((ln - 1 : Nat) : Int) := by rw [IntWalk.i64_in _ (by omega)]; omega
    have k1' : ((ln - 1 : Nat) : Int) < (ln : Int) := by omega
    have k0' : (0 : Int) ≤ ((ln - 1 : Nat) : Int) := by omega
    have kn : ln - 1 < ln := by omega
    clear F6
    generalize ln - 1 = q at *
    go_wp2_with fail
    refine (below_any r _ FL.out.rd 4 (by omega) (by omega)).mono ?_
    rintro e w7 ⟨⟨y, ⟨hy1, hy2⟩, rfl⟩, k1, k2⟩
    obtain ⟨j, rfl⟩ : ∃ j : Nat, y = (j : Int) := ⟨y.toNat, by omega⟩
    obtain ⟨zz, hz⟩ := HC.out j (by omega)
    have q3 := (k2.cell j s6 rne).trans hz
    have F7 : Hid (FS r w1 w7 (.slice (some ⟨g, 0, none⟩) ln cp) ln L0) := FL.out.turn hr k1 k2
    have j0 : (0 : Int) ≤ (j : Int) := by omega
    have j4 : (j : Int) < 4 := by omega
    have q0 : ∃ z, w7.cell? ⟨g, q, none⟩ = some (.float .f64 z) := (by
      have h := F7.out.row
      rw [HLN.out] at h
      exact ⟨_, Fls.row_cell h q (by rw [← HLN.out]; exact kn)⟩)
    obtain ⟨z0, q0⟩ := q0
    have q1 : w7.frozen? ⟨g, q, none⟩ = false := F7.out.row.frozenAt q
    have F8 : Hid (FS r w1 (w7.setCell ⟨g, q, none⟩ (.float .f64 zz)) (.slice (some ⟨g, 0, none⟩) ln cp) ln (L0.set q zz)) := (by
      have h := F7.out
      show FS _ _ _ _ _ _
      rw [HLN.out] at h ⊢
      exact h.put hr q zz)
    have FR7 : Hid (FR r (w7.setCell ⟨g, q, none⟩ (.float .f64 zz)) (.slice (some ⟨g, 0, none⟩) ln cp) (L0.set q zz)) := (by
      have h := F8.out
      have e : ln = (L0.set q zz).length := by rw [List.length_set]; exact HLN.out
      show FR _ _ _ _
      rw [e] at h ⊢
      exact h.fr hr)
    have T7 : Hid (Rd r (w7.setCell ⟨g, q, none⟩ (.float .f64 zz)) ∧ Turn r w1 (w7.setCell ⟨g, q, none⟩ (.float .f64 zz))) := ⟨F8.out.rd, F8.out.tn⟩
    clear k1 k2 F7 F8 HC hz FL s6 rne
    go_upto_region 22 with fail
    generalize World.setCell w7 _ _ = wz at FR7 T7 ⊢
    go_wp2_with fail
    refine (once_any r wz T7.out.1 60 (by omega) (by omega)).mono ?_
    rintro e w8 ⟨⟨qq, rfl⟩, k1, k2⟩
    have FH : Hid (FR r w8 (.slice (some ⟨g, 0, none⟩) ln cp) (L0.set q zz)) := FR7.out.turn k2
    have T8 : Hid (Rd r w8 ∧ Turn r w1 w8) := ⟨k1, T7.out.2.trans k2⟩
    clear k1 k2 T7 FR7
    cases qq
    · go_wp2_with fail
      exact bodyPost_ret (v := .tuple #[.slice (some ⟨g, 0, none⟩) ln cp, .int .i64 (1 + u1), .int .i64 (0)]) (by simp [results, Try.results14, go_sem]) rfl ⟨_, _, _, _, rfl, FH.out.reads, BT.out _ T8.out.2⟩
    · go_wp2_with fail
      refine (below_any r w8 T8.out.1 2 (by omega) (by omega)).mono ?_
      rintro e w9 ⟨⟨y, ⟨hy1, hy2⟩, rfl⟩, k1, k2⟩
      have T9 : Hid (Rd r w9 ∧ Turn r w1 w9) := ⟨k1, T8.out.2.trans k2⟩
      obtain ⟨mm, hmm⟩ : ∃ mm : Nat, 4096 + y = (mm : Int) := ⟨(4096 + y).toNat, by omega⟩
      have hw : IntKind.i64.wrap (4096 + y) = (mm : Int) := (IntWalk.i64_in _ (by omega)).trans hmm
      have m1 : mm ≤ 5000 := by omega
      have m2 : ((mm : Int)) ≤ 5000 := by omega
      obtain ⟨LZ, hLZ⟩ : ∃ LZ : List Nat, LZ.length = mm := ⟨List.replicate mm 0, by simp⟩
      have FZ : Hid ((madeCells (Value.float .f64 0).cells (mm * 1)).toList = flts (ffill LZ 0)) := (by have := ffill_zero LZ; rw [hLZ] at this; exact this)
      have FZL : Hid ((ffill LZ 0).length = mm) := (by show _ = _; rw [ffill_len]; exact hLZ)
      clear k1 k2 hmm T8 FH hLZ
      go_wp2_with (at_make; refine wpList_make_full _ rfl _ _ 22 rfl w9.heap.size 40 i0 (.float .f64 0) 1 Try.underlying22 hi hz0 hz1 .i64 .i64 (mm : Int) (mm : Int) mm rfl rfl rfl rfl (by rw [hz2]; omega) (by unfold maxLen; omega) (Nat.le_refl _) ?_; intro wA hown hgrow)
      rw [FZ.out] at hown
      have RZ : Hid (Fls.Reads wA (.slice (some ⟨w9.heap.size, 0, none⟩) mm mm) (ffill LZ 0)) := (by
        have h : wA.ownsRow w9.heap.size 40 1 (.slice (some ⟨w9.heap.size, 0, none⟩) mm mm) (ffill LZ 0).length (flts (ffill LZ 0)) := by rw [FZL.out]; exact hown
        exact Fls.reads_row h)
      have BZ : Hid (Below w.heap.size w wA) := (BT.out _ T9.out.2).trans ((Below.refl w9.heap.size w9).grown hgrow (Nat.le_refl _) (fun k hk => by cases hk) |>.mono (BT.out _ T9.out.2).size)
      clear hown hgrow
      go_wp2_with fail
      exact bodyPost_ret (v := .tuple #[.slice (some ⟨w9.heap.size, 0, none⟩) mm mm, .int .i64 (1 + u1), .int .i64 (0)]) (by simp [results, Try.results14, go_sem]) rfl ⟨_, _, _, _, rfl, RZ.out, BZ.out⟩
  case' inr.inr.inr.inr.inl =>
    obtain ⟨xa, xc, rfl⟩ : ∃ a c, v0 = .slice a L0.length c := row_form F6.out.row
    have FR7 : Hid (FR r w6 (.slice xa 0 xc) []) := .inl ⟨rfl, _, _, rfl⟩
    have T7 : Hid (Rd r w6 ∧ Turn r w1 w6) := ⟨F6.out.rd, F6.out.tn⟩
    clear F6
    go_upto_region 22 with fail
    generalize w6 = wz at FR7 T7 ⊢
    go_wp2_with fail
    refine (once_any r wz T7.out.1 60 (by omega) (by omega)).mono ?_
    rintro e w8 ⟨⟨qq, rfl⟩, k1, k2⟩
    have FH : Hid (FR r w8 (.slice xa 0 xc) ([])) := FR7.out.turn k2
    have T8 : Hid (Rd r w8 ∧ Turn r w1 w8) := ⟨k1, T7.out.2.trans k2⟩
    clear k1 k2 T7 FR7
    cases qq
    · go_wp2_with fail
      exact bodyPost_ret (v := .tuple #[.slice xa 0 xc, .int .i64 (1 + u1), .int .i64 (u2 - 1)]) (by simp [results, Try.results14, go_sem]) rfl ⟨_, _, _, _, rfl, FH.out.reads, BT.out _ T8.out.2⟩
    · go_wp2_with fail
      refine (below_any r w8 T8.out.1 2 (by omega) (by omega)).mono ?_
      rintro e w9 ⟨⟨y, ⟨hy1, hy2⟩, rfl⟩, k1, k2⟩
      have T9 : Hid (Rd r w9 ∧ Turn r w1 w9) := ⟨k1, T8.out.2.trans k2⟩
      obtain ⟨mm, hmm⟩ : ∃ mm : Nat, 4096 + y = (mm : Int) := ⟨(4096 + y).toNat, by omega⟩
      have hw : IntKind.i64.wrap (4096 + y) = (mm : Int) := (IntWalk.i64_in _ (by omega)).trans hmm
      have m1 : mm ≤ 5000 := by omega
      have m2 : ((mm : Int)) ≤ 5000 := by omega
      obtain ⟨LZ, hLZ⟩ : ∃ LZ : List Nat, LZ.length = mm := ⟨List.replicate mm 0, by simp⟩
      have FZ : Hid ((madeCells (Value.float .f64 0).cells (mm * 1)).toList = flts (ffill LZ 0)) := (by have := ffill_zero LZ; rw [hLZ] at this; exact this)
      have FZL : Hid ((ffill LZ 0).length = mm) := (by show _ = _; rw [ffill_len]; exact hLZ)
      clear k1 k2 hmm T8 FH hLZ
      go_wp2_with (at_make; refine wpList_make_full _ rfl _ _ 22 rfl w9.heap.size 40 i0 (.float .f64 0) 1 Try.underlying22 hi hz0 hz1 .i64 .i64 (mm : Int) (mm : Int) mm rfl rfl rfl rfl (by rw [hz2]; omega) (by unfold maxLen; omega) (Nat.le_refl _) ?_; intro wA hown hgrow)
      rw [FZ.out] at hown
      have RZ : Hid (Fls.Reads wA (.slice (some ⟨w9.heap.size, 0, none⟩) mm mm) (ffill LZ 0)) := (by
        have h : wA.ownsRow w9.heap.size 40 1 (.slice (some ⟨w9.heap.size, 0, none⟩) mm mm) (ffill LZ 0).length (flts (ffill LZ 0)) := by rw [FZL.out]; exact hown
        exact Fls.reads_row h)
      have BZ : Hid (Below w.heap.size w wA) := (BT.out _ T9.out.2).trans ((Below.refl w9.heap.size w9).grown hgrow (Nat.le_refl _) (fun k hk => by cases hk) |>.mono (BT.out _ T9.out.2).size)
      clear hown hgrow
      go_wp2_with fail
      exact bodyPost_ret (v := .tuple #[.slice (some ⟨w9.heap.size, 0, none⟩) mm mm, .int .i64 (1 + u1), .int .i64 (u2 - 1)]) (by simp [results, Try.results14, go_sem]) rfl ⟨_, _, _, _, rfl, RZ.out, BZ.out⟩
  case' inr.inr.inr.inr.inr.inl =>
    obtain ⟨g, cp, rfl, hg1, hg2, hg3⟩ : ∃ g cp, v0 = .slice (some ⟨g, 0, none⟩) L0.length cp ∧ w1.heap.size ≤ g ∧ g < w6.heap.size ∧ L0.length ≤ cp := (by
      rcases Fls.row_cases F6.out.row with ⟨h, _⟩ | ⟨g, cp, h1, h2, h3, h4, _⟩
      · have := L1.out.1; rw [h] at this; exact absurd this (by decide)
      · exact ⟨g, cp, h1, h2, h3, h4⟩)
    have gne : ¬ g = r := by omega
    have lp : (0 : Int) < (L0.length : Int) := by have := L1.out.1; omega
    have l60 : (L0.length : Int) ≤ 60 := by have := L1.out.2; omega
    obtain ⟨ln, hln⟩ : ∃ ln, ln = L0.length := ⟨_, rfl⟩
    have HLN : Hid (ln = L0.length) := hln
    rw [← hln] at lp l60 F6 ⊢
    clear hln
    have F0 : Hid (∃ L : List Nat, L.length = ln ∧ FS r w1 w6 (.slice (some ⟨g, 0, none⟩) ln cp) ln L) := ⟨L0, HLN.out.symm, F6.out⟩
    clear F6
    go_wp2_with fail
    go_loopw [9] (fun i wr => ∃ k : Nat, k ≤ ln ∧ i = .int .i64 k ∧ Hid (∃ L : List Nat, L.length = ln ∧ FS r w1 wr (.slice (some ⟨g, 0, none⟩) ln cp) ln L)) (fun i _ => ln - (intOf i).toNat)
    case atStart => exact ⟨0, Nat.zero_le _, rfl, F0⟩
    case round =>
      obtain ⟨k, hk, rfl, F⟩ := hrel
      by_cases hlt : k < ln
      · have i0' : (0 : Int) ≤ (k : Int) := by omega
        have i1 : (k : Int) < (ln : Int) := by omega
        obtain ⟨L, hL, FF⟩ := F.out
        go_wp2_with fail
        refine (none_any wr).mono ?_
        rintro e w8 ⟨bb, rfl, hcn, hlb, hw⟩
        have F8 : Hid (FS r w1 w8 (.slice (some ⟨g, 0, none⟩) ln cp) ln L) := (by show FS _ _ _ _ _ _; rw [hw]; exact FF.drewN 1)
        have q0 : ∃ z, w8.cell? ⟨g, k, none⟩ = some (.float .f64 z) := (by
          have h := F8.out.row
          rw [← hL] at h
          exact ⟨_, Fls.row_cell h k (by omega)⟩)
        obtain ⟨z0, q0⟩ := q0
        have q1 : w8.frozen? ⟨g, k, none⟩ = false := F8.out.row.frozenAt k
        have F9 : Hid (∃ L : List Nat, L.length = ln ∧ FS r w1 (w8.setCell ⟨g, k, none⟩ (.float .f64 bb)) (.slice (some ⟨g, 0, none⟩) ln cp) ln L) := ⟨L.set k bb, by rw [List.length_set]; exact hL, (by
          have h := F8.out
          rw [← hL] at h ⊢
          exact h.put hr k bb)⟩
        clear hw hcn F FF hL F8
        go_wp2_with fail
        go_roundw
        case rel => exact ⟨k + 1, by omega, by go_num, F9⟩
        case measure => simp [intOf]; omega
      · obtain ⟨L, hL, FF⟩ := F.out
        have FR7 : Hid (FR r wr (.slice (some ⟨g, 0, none⟩) ln cp) L) := (by show FR _ _ _ _; rw [← hL] at FF ⊢; exact FF.fr hr)
        have T7 : Hid (Rd r wr ∧ Turn r w1 wr) := ⟨FF.rd, FF.tn⟩
        clear F FF F0
        go_upto_region 22 with fail
        generalize wr = wz at FR7 T7 ⊢
        go_wp2_with fail
        refine (once_any r wz T7.out.1 60 (by omega) (by omega)).mono ?_
        rintro e w8 ⟨⟨qq, rfl⟩, k1, k2⟩
        have FH : Hid (FR r w8 (.slice (some ⟨g, 0, none⟩) ln cp) (L)) := FR7.out.turn k2
        have T8 : Hid (Rd r w8 ∧ Turn r w1 w8) := ⟨k1, T7.out.2.trans k2⟩
        clear k1 k2 T7 FR7
        cases qq
        · go_wp2_with fail
          exact bodyPost_ret (v := .tuple #[.slice (some ⟨g, 0, none⟩) ln cp, .int .i64 (1 + u1), .int .i64 (u2 - 1)]) (by simp [results, Try.results14, go_sem]) rfl ⟨_, _, _, _, rfl, FH.out.reads, BT.out _ T8.out.2⟩
        · go_wp2_with fail
          refine (below_any r w8 T8.out.1 2 (by omega) (by omega)).mono ?_
          rintro e w9 ⟨⟨y, ⟨hy1, hy2⟩, rfl⟩, k1, k2⟩
          have T9 : Hid (Rd r w9 ∧ Turn r w1 w9) := ⟨k1, T8.out.2.trans k2⟩
          obtain ⟨mm, hmm⟩ : ∃ mm : Nat, 4096 + y = (mm : Int) := ⟨(4096 + y).toNat, by omega⟩
          have hw : IntKind.i64.wrap (4096 + y) = (mm : Int) := (IntWalk.i64_in _ (by omega)).trans hmm
          have m1 : mm ≤ 5000 := by omega
          have m2 : ((mm : Int)) ≤ 5000 := by omega
          obtain ⟨LZ, hLZ⟩ : ∃ LZ : List Nat, LZ.length = mm := ⟨List.replicate mm 0, by simp⟩
          have FZ : Hid ((madeCells (Value.float .f64 0).cells (mm * 1)).toList = flts (ffill LZ 0)) := (by have := ffill_zero LZ; rw [hLZ] at this; exact this)
          have FZL : Hid ((ffill LZ 0).length = mm) := (by show _ = _; rw [ffill_len]; exact hLZ)
          clear k1 k2 hmm T8 FH hLZ
          go_wp2_with (at_make; refine wpList_make_full _ rfl _ _ 22 rfl w9.heap.size 40 i0 (.float .f64 0) 1 Try.underlying22 hi hz0 hz1 .i64 .i64 (mm : Int) (mm : Int) mm rfl rfl rfl rfl (by rw [hz2]; omega) (by unfold maxLen; omega) (Nat.le_refl _) ?_; intro wA hown hgrow)
          rw [FZ.out] at hown
          have RZ : Hid (Fls.Reads wA (.slice (some ⟨w9.heap.size, 0, none⟩) mm mm) (ffill LZ 0)) := (by
            have h : wA.ownsRow w9.heap.size 40 1 (.slice (some ⟨w9.heap.size, 0, none⟩) mm mm) (ffill LZ 0).length (flts (ffill LZ 0)) := by rw [FZL.out]; exact hown
            exact Fls.reads_row h)
          have BZ : Hid (Below w.heap.size w wA) := (BT.out _ T9.out.2).trans ((Below.refl w9.heap.size w9).grown hgrow (Nat.le_refl _) (fun k hk => by cases hk) |>.mono (BT.out _ T9.out.2).size)
          clear hown hgrow
          go_wp2_with fail
          exact bodyPost_ret (v := .tuple #[.slice (some ⟨w9.heap.size, 0, none⟩) mm mm, .int .i64 (1 + u1), .int .i64 (u2 - 1)]) (by simp [results, Try.results14, go_sem]) rfl ⟨_, _, _, _, rfl, RZ.out, BZ.out⟩
  case' inr.inr.inr.inr.inr.inr =>
    have e0 : (u == 0) = false := by simp; omega
    have e1 : (u == 1) = false := by simp; omega
    have e2 : (u == 2) = false := by simp; omega
    have e3 : (u == 3) = false := by simp; omega
    have e4 : (u == 4) = false := by simp; omega
    have e5 : (u == 5) = false := by simp; omega
    have FR7 : Hid (FR r w6 v0 L0) := F6.out.fr hr
    have T7 : Hid (Rd r w6 ∧ Turn r w1 w6) := ⟨F6.out.rd, F6.out.tn⟩
    clear F6
    go_upto_region 22 with fail
    generalize w6 = wz at FR7 T7 ⊢
    go_wp2_with fail
    refine (once_any r wz T7.out.1 60 (by omega) (by omega)).mono ?_
    rintro e w8 ⟨⟨qq, rfl⟩, k1, k2⟩
    have FH : Hid (FR r w8 (v0) (L0)) := FR7.out.turn k2
    have T8 : Hid (Rd r w8 ∧ Turn r w1 w8) := ⟨k1, T7.out.2.trans k2⟩
    clear k1 k2 T7 FR7
    cases qq
    · go_wp2_with fail
      exact bodyPost_ret (v := .tuple #[v0, .int .i64 (1 + u1), .int .i64 (u2 - 1)]) (by simp [results, Try.results14, go_sem]) rfl ⟨_, _, _, _, rfl, FH.out.reads, BT.out _ T8.out.2⟩
    · go_wp2_with fail
      refine (below_any r w8 T8.out.1 2 (by omega) (by omega)).mono ?_
      rintro e w9 ⟨⟨y, ⟨hy1, hy2⟩, rfl⟩, k1, k2⟩
      have T9 : Hid (Rd r w9 ∧ Turn r w1 w9) := ⟨k1, T8.out.2.trans k2⟩
      obtain ⟨mm, hmm⟩ : ∃ mm : Nat, 4096 + y = (mm : Int) := ⟨(4096 + y).toNat, by omega⟩
      have hw : IntKind.i64.wrap (4096 + y) = (mm : Int) := (IntWalk.i64_in _ (by omega)).trans hmm
      have m1 : mm ≤ 5000 := by omega
      have m2 : ((mm : Int)) ≤ 5000 := by omega
      obtain ⟨LZ, hLZ⟩ : ∃ LZ : List Nat, LZ.length = mm := ⟨List.replicate mm 0, by simp⟩
      have FZ : Hid ((madeCells (Value.float .f64 0).cells (mm * 1)).toList = flts (ffill LZ 0)) := (by have := ffill_zero LZ; rw [hLZ] at this; exact this)
      have FZL : Hid ((ffill LZ 0).length = mm) := (by show _ = _; rw [ffill_len]; exact hLZ)
      clear k1 k2 hmm T8 FH hLZ
      go_wp2_with (at_make; refine wpList_make_full _ rfl _ _ 22 rfl w9.heap.size 40 i0 (.float .f64 0) 1 Try.underlying22 hi hz0 hz1 .i64 .i64 (mm : Int) (mm : Int) mm rfl rfl rfl rfl (by rw [hz2]; omega) (by unfold maxLen; omega) (Nat.le_refl _) ?_; intro wA hown hgrow)
      rw [FZ.out] at hown
      have RZ : Hid (Fls.Reads wA (.slice (some ⟨w9.heap.size, 0, none⟩) mm mm) (ffill LZ 0)) := (by
        have h : wA.ownsRow w9.heap.size 40 1 (.slice (some ⟨w9.heap.size, 0, none⟩) mm mm) (ffill LZ 0).length (flts (ffill LZ 0)) := by rw [FZL.out]; exact hown
        exact Fls.reads_row h)
      have BZ : Hid (Below w.heap.size w wA) := (BT.out _ T9.out.2).trans ((Below.refl w9.heap.size w9).grown hgrow (Nat.le_refl _) (fun k hk => by cases hk) |>.mono (BT.out _ T9.out.2).size)
      clear hown hgrow
      go_wp2_with fail
      exact bodyPost_ret (v := .tuple #[.slice (some ⟨w9.heap.size, 0, none⟩) mm mm, .int .i64 (1 + u1), .int .i64 (u2 - 1)]) (by simp [results, Try.results14, go_sem]) rfl ⟨_, _, _, _, rfl, RZ.out, BZ.out⟩

end Go.Proofs.Ytgajajpcjbpalaa.Rd
