/- HeightTable: the program. -/
import Derived.Test.YtlgcikmimmcmkaaCa
import Derived.Test.YtlgcikmimmcmkaaAtF
import Derived.Laws.MakeOwn
namespace Go.Proofs.Ytlgcikmimmcmkaa.Ht
open Go.ChangeShapes Go.WideShapes Go.ChangeAt Go.RowKit
open Go.Proofs.Ytlgcikmimmcmkaa.Flt Go.Proofs.Ytlgcikmimmcmkaa.Wa Go.Proofs.Ytlgcikmimmcmkaa.An Go.Proofs.Ytlgcikmimmcmkaa.Co Go.Proofs.Ytlgcikmimmcmkaa.Ho Go.Proofs.Ytlgcikmimmcmkaa.Km Go.Proofs.Ytlgcikmimmcmkaa.Ca

attribute [local go_sem] Flt.run_store_float
def okT (L : Co.Ls) (f n : Int) : Bool := okP L && inn f (-1000000) 1000000 && inn n 0 4000 && decide (f + n - 1 ≤ 1000000)
/- a row of heights that is filled up to a place -/
def Up (w : World) (base : Nat) (v : Value) (m : Nat) (F : Nat → Nat) (k : Nat) : Prop := ∃ E : List Nat, E.length = m ∧ w.ownsRow base 36 1 v m (Fls.flts E) ∧ ∀ i, i < k → cn (E.getD i 0) = F i
theorem zeros_made (n : Nat) : (madeCells (Value.float .f64 0).cells (n * 1)).toList = Fls.flts (List.replicate n 0) := by
  apply List.ext_getElem
  · simp [madeCells, Fls.flts]
  · intro i h1 h2
    simp [madeCells, Fls.flts, Value.cells, Nat.mod_one]
theorem Up.step {w : World} {base g m cap : Nat} {F : Nat → Nat} {k x : Nat} (h : Up w base (.slice (some ⟨g, 0, none⟩) m cap) m F k) (hk : k < m) (hx : cn x = F k) : Up (w.setCell ⟨g, k, none⟩ (.float .f64 x)) base (.slice (some ⟨g, 0, none⟩) m cap) m F (k + 1) := by
  obtain ⟨E, hl, hr, hc⟩ := h
  refine ⟨E.set k x, by simp [hl], ?_, fun i hi => ?_⟩
  · rw [← Fls.flts_set]
    exact (hr.stored k _).1
  · by_cases e : i = k
    · subst e
      simpa [List.getD_eq_getElem?_getD, hl, hk] using hx
    · have := hc i (by omega)
      simpa [List.getD_eq_getElem?_getD, List.getElem?_set_ne (show k ≠ i by omega)] using this
theorem Up.cell {w : World} {base g m cap : Nat} {F : Nat → Nat} {k j : Nat} (h : Up w base (.slice (some ⟨g, 0, none⟩) m cap) m F k) (hj : j < m) : (∃ u, w.cell? ⟨g, j, none⟩ = some u) ∧ w.frozen? ⟨g, j, none⟩ = false ∧ g < w.heap.size := by
  obtain ⟨E, hl, hr, _⟩ := h
  have lx : (Fls.flts E).length = m * 1 := hr.1
  exact ⟨⟨(Fls.flts E)[j]'(by omega), by rw [hr.cellAt j (by omega)]; exact List.getElem?_eq_getElem _⟩, hr.frozenAt j, (hr.lt g rfl).2⟩
theorem Up.heap {w w' : World} {base g m cap : Nat} {F : Nat → Nat} {k : Nat} (h : Up w base (.slice (some ⟨g, 0, none⟩) m cap) m F k) (e : w'.heap[g]? = w.heap[g]?) : Up w' base (.slice (some ⟨g, 0, none⟩) m cap) m F k := by
  obtain ⟨E, hl, hr, hc⟩ := h
  refine ⟨E, hl, ⟨hr.1, ?_⟩, hc⟩
  rcases hr.2 with h2 | ⟨g', c', cur, h1, h2, h3, h4⟩
  · exact .inl h2
  · simp at h1
    obtain ⟨rfl, rfl⟩ := h1
    exact .inr ⟨g, cap, cur, rfl, h2, e.trans h3, h4⟩
theorem run_make_map (w : World) : (Instr.makeMap 46 none).run Try.prog w = .ok (.map (some w.heap.size)) (w.alloc (.map #[] 0)) := by kernel_rfl
set_option maxRecDepth 20000 in
set_option maxHeartbeats 2000000 in
theorem iht_yes (L : Co.Ls) (f : Int) (m : Nat) (v : Value) (w : World) (hL : Co.Reads w v L) (hok : okT L f m = true) :
    Calls Try.prog 7 #[v, .int .i64 f, .int .i64 (m : Int)] w fun e w' => ∃ v', e = .returned v' ∧ Up w' w.heap.size v' m (fun i => hs L (f + (i : Int)) L.length) m ∧ Below w.heap.size w w' := by
  obtain ⟨i0, hi, hz0, hz1, hz2⟩ := info_parts Fls.Try.info36
  unfold okT at hok
  rw [Bool.and_eq_true, Bool.and_eq_true, Bool.and_eq_true, decide_eq_true_eq] at hok
  obtain ⟨⟨⟨o1, o2⟩, o3⟩, o4⟩ := hok
  have p2 := (inn_iff _ _ _).1 o2
  have p3 := (inn_iff _ _ _).1 o3
  have C1 : Hid (Calls Try.prog 18 #[v] w fun e w' => e = .returned (.bool true) ∧ Below w.heap.size w w') := (by have := iok_any L v w hL; rw [o1] at this; exact this)
  have C2 : Hid (∀ w, Calls Try.prog 19 #[.int .i64 f] w fun e w' => e = .returned (.bool true) ∧ w' = w) := fun w => (by have := ihour f w; rw [o2] at this; exact this)
  have C3 : Hid (∀ w, Calls Try.prog 20 #[.int .i64 (m : Int), .int .i64 0, .int .i64 4000] w fun e w' => e = .returned (.bool true) ∧ w' = w) := fun w => (by have := win_any (m : Int) 0 4000 w; rw [o3] at this; exact this)
  have HL : Hid (∀ w', Below w.heap.size w w' → Co.Reads w' v L) := fun w' hb => hL.on hb
  have O1 : Hid (okP L = true) := o1
  obtain ⟨a, cap, rfl⟩ := hL.form
  have g4 : ¬ (1000000 : Int) < f + (m : Int) - 1 := by omega
  have g5 : IntKind.i64.wrap (f + (m : Int)) = f + (m : Int) := IntWalk.i64_in _ (by omega)
  have g6 : IntKind.i64.wrap (f + (m : Int) - 1) = f + (m : Int) - 1 := IntWalk.i64_in _ (by omega)
  have mkm : ∀ w : World, (Instr.makeMap 46 none).run Try.prog w = .ok (.map (some w.heap.size)) (w.alloc (.map #[] 0)) := fun w => run_make_map w
  clear hL o1 o2 o3 o4
  go_enter Try.func7, Try.ntmps7
  go_wp2_with fail
  refine C1.out.mono ?_
  rintro e w1 ⟨rfl, b1⟩
  have B1 : Hid (Below w.heap.size w w1) := b1
  clear b1
  go_wp2_with fail
  refine (C2.out _).mono ?_
  rintro e w2 ⟨rfl, hw⟩
  have hw' := hw.symm
  subst hw'
  go_wp2_with fail
  refine (C3.out _).mono ?_
  rintro e w2 ⟨rfl, hw⟩
  have hw' := hw.symm
  subst hw'
  obtain ⟨W, hW⟩ : ∃ W, W = (w1.alloc (.map #[] 0)).alloc (Obj.cells #[.int .i32 0, .int .u32 0, .slice a L.length cap, .map (some w1.heap.size)] 55) := ⟨_, rfl⟩
  have HW : Hid (W = (w1.alloc (.map #[] 0)).alloc (Obj.cells #[.int .i32 0, .int .u32 0, .slice a L.length cap, .map (some w1.heap.size)] 55)) := hW
  have z1 := B1.out.size
  have BW : Hid (Below w.heap.size w W) := (by rw [hW]; exact (B1.out.alloc z1 _).alloc (by simp; omega) _)
  have SW : Hid (St W (w1.heap.size + 1) w1.heap.size (.slice a L.length cap) 0) := (by rw [hW]; show St _ _ _ _ _; unfold St; simp [go_sem])
  have KW : Hid (KM W w1.heap.size 0 fun s => hs L s L.length) := (by
    rw [hW]
    exact (KM.made w1 _).heap (((Below.refl (w1.heap.size + 1) (w1.alloc (.map #[] 0))).alloc (by simp) _).block w1.heap.size (Nat.lt_succ_self _)))
  have ZW : Hid (W.heap.size = w1.heap.size + 2) := (by show _ = _; rw [hW]; simp)
  have FZ : Hid ((madeCells (Value.float .f64 0).cells (m * 1)).toList = Fls.flts (List.replicate m 0)) := zeros_made m
  have LB : Hid (w.heap.size ≤ W.heap.size) := BW.out.size
  clear hW
  go_wp2_with (at_make; (try rw [← HW.out]); refine wpList_make_full _ rfl _ _ 24 rfl w.heap.size 36 i0 (.float .f64 0) 1 Try.underlying24 hi hz0 hz1 .i64 .i64 (m : Int) (m : Int) m rfl rfl rfl rfl (by rw [hz2]; omega) (by unfold maxLen; omega) LB.out ?_; intro w4 hown hgrow)
  rw [FZ.out] at hown
  have BG : Below W.heap.size W w4 := (Below.refl _ _).grown hgrow (Nat.le_refl _) (fun k hk => by cases hk)
  obtain ⟨sb, hsb⟩ : ∃ sb, sb = w1.heap.size + 1 := ⟨_, rfl⟩
  obtain ⟨bm, hbm⟩ : ∃ bm, bm = w1.heap.size := ⟨_, rfl⟩
  obtain ⟨g, hg⟩ : ∃ g, g = W.heap.size := ⟨_, rfl⟩
  have NE : Hid (bm ≠ sb ∧ g ≠ sb ∧ g ≠ bm ∧ w.heap.size ≤ sb ∧ w.heap.size ≤ bm ∧ w.heap.size ≤ g) := (by have zW := ZW.out; show _ ∧ _; refine ⟨?_, ?_, ?_, ?_, ?_, ?_⟩ <;> omega)
  have U4 : Hid (Up w4 w.heap.size (.slice (some ⟨g, 0, none⟩) m m) m (fun i => hs L (f + (i : Int)) L.length) 0) := ⟨List.replicate m 0, by simp, by rw [hg]; exact hown, fun i hi => absurd hi (by omega)⟩
  have B4 : Hid (Below w.heap.size w w4) := BW.out.trans (BG.mono LB.out)
  have S4 : Hid (St w4 sb bm (.slice a L.length cap) 0) := (by rw [hsb, hbm]; exact SW.out.heap (BG.block _ (by have := ZW.out; omega)) BG.size)
  have K4 : Hid (KM w4 bm 0 fun s => hs L s L.length) := (by rw [hbm]; exact KW.out.heap (BG.block _ (by have := ZW.out; omega)))
  rw [← hg, ← hsb]
  clear hown hgrow BG hg hsb hbm ZW SW KW BW HW FZ
  go_loopw [36] (fun i wr => ∃ k : Nat, k ≤ m ∧ i = .int .i64 k ∧ Hid (Up wr w.heap.size (.slice (some ⟨g, 0, none⟩) m m) m (fun i => hs L (f + (i : Int)) L.length) k) ∧ Hid (Below w.heap.size w wr) ∧ Hid (St wr sb bm (.slice a L.length cap) 0) ∧ Hid (KM wr bm k fun s => hs L s L.length)) (fun i _ => m - (intOf i).toNat)
  case atStart => exact ⟨0, by omega, rfl, U4, B4, S4, K4⟩
  case round =>
    obtain ⟨k, hk, rfl, UR, BR, SR, KR⟩ := hrel
    by_cases hlt : k < m
    · have i1 : (0 : Int) ≤ (k : Int) := by omega
      have i2 : (k : Int) < (m : Int) := by omega
      have i3 : IntKind.i64.wrap (f + (k : Int)) = f + (k : Int) := IntWalk.i64_in _ (by omega)
      have A : Hid (Calls Try.prog 21 #[.pointer (some ⟨sb, 0, none⟩), .int .i64 (f + (k : Int))] wr fun e w' => ∃ x, e = .returned (.float .f64 x) ∧ cn x = hs L (f + (k : Int)) L.length ∧ Ch sb bm wr w' ∧ St w' sb bm (.slice a L.length cap) 0 ∧ KM w' bm (k + 1) (fun s => hs L s L.length)) := at_any L sb bm k (f + (k : Int)) _ wr NE.out.1 SR.out KR.out (by omega) (fun w' hc => HL.out w' (BR.out.trans (hc.below NE.out.2.2.2.1 NE.out.2.2.2.2.1 BR.out.size))) O1.out (by omega)
      go_wp2_with fail
      refine A.out.mono ?_
      rintro e w5 ⟨x, rfl, hx, ch, s5, k5⟩
      have HX : Hid (cn x = hs L (f + (k : Int)) L.length) := hx
      have UA : Up w5 w.heap.size (.slice (some ⟨g, 0, none⟩) m m) m (fun i => hs L (f + (i : Int)) L.length) k := UR.out.heap (ch.2 g (UR.out.cell hlt).2.2 NE.out.2.1 NE.out.2.2.1)
      have U5 : Hid (Up w5 w.heap.size (.slice (some ⟨g, 0, none⟩) m m) m (fun i => hs L (f + (i : Int)) L.length) k) := UA
      have B5 : Hid (Below w.heap.size w w5) := BR.out.trans (ch.below NE.out.2.2.2.1 NE.out.2.2.2.2.1 BR.out.size)
      have S5 : Hid (St w5 sb bm (.slice a L.length cap) 0) := s5
      have K5 : Hid (KM w5 bm (k + 1) fun s => hs L s L.length) := k5
      obtain ⟨⟨u, q1⟩, q2, q3⟩ := UA.cell hlt
      have U6 : Hid (Up (w5.setCell ⟨g, k, none⟩ (.float .f64 x)) w.heap.size (.slice (some ⟨g, 0, none⟩) m m) m (fun i => hs L (f + (i : Int)) L.length) (k + 1)) := U5.out.step hlt HX.out
      have B6 : Hid (Below w.heap.size w (w5.setCell ⟨g, k, none⟩ (.float .f64 x))) := B5.out.setCell (p := ⟨g, k, none⟩) NE.out.2.2.2.2.2 _
      have S6 : Hid (St (w5.setCell ⟨g, k, none⟩ (.float .f64 x)) sb bm (.slice a L.length cap) 0) := S5.out.heap (Below.heap_setCell w5 ⟨g, k, none⟩ _ sb (fun e => NE.out.2.1 e.symm)) (by simp)
      have K6 : Hid (KM (w5.setCell ⟨g, k, none⟩ (.float .f64 x)) bm (k + 1) fun s => hs L s L.length) := K5.out.heap (Below.heap_setCell w5 ⟨g, k, none⟩ _ bm (fun e => NE.out.2.2.1 e.symm))
      clear ch s5 k5 UA hx
      go_wp2_with fail
      go_roundw
      case rel => exact ⟨k + 1, by omega, by go_num, U6, B6, S6, K6⟩
      case measure => simp [intOf]; omega
    · have hkn : k = m := by omega
      subst hkn
      go_wp2_with fail
      go_ret
      exact ⟨_, rfl, UR.out, BR.out⟩
end Go.Proofs.Ytlgcikmimmcmkaa.Ht
