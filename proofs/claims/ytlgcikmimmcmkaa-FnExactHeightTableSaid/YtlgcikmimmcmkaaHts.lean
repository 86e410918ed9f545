/- HeightTable: the model; what is refused. -/
import Derived.Test.YtlgcikmimmcmkaaHti
import Derived.Maps.AppendAt
namespace Go.Proofs.Ytlgcikmimmcmkaa.Ht
open Go.ChangeShapes Go.WideShapes Go.ChangeAt Go.RowKit
open Go.Proofs.Ytlgcikmimmcmkaa.Flt Go.Proofs.Ytlgcikmimmcmkaa.Wa Go.Proofs.Ytlgcikmimmcmkaa.An Go.Proofs.Ytlgcikmimmcmkaa.Co Go.Proofs.Ytlgcikmimmcmkaa.Ho Go.Proofs.Ytlgcikmimmcmkaa.Km Go.Proofs.Ytlgcikmimmcmkaa.Ca

attribute [local go_sem] Flt.run_store_float
theorem cell_one (w : World) (v0 : Value) (t : TypeId) : ∀ j u, [v0][j]? = some u → (w.alloc (Obj.cells #[v0] t)).cell? ((⟨w.heap.size, 0, none⟩ : Addr).add j) = some u := by
  intro j u hj
  match j, hj with
  | 0, hj => simp at hj; subst hj; simp [Addr.add]
theorem one_one (x : Nat) : ∀ u ∈ [Value.float .f64 x], u.oneCell' = true := by intro u hu; simp at hu; subst hu; rfl
theorem Up.form {w : World} {base : Nat} {v : Value} {k : Nat} {F : Nat → Nat} (h : Up w base v k F k) : ∃ a c, v = .slice a k c := by
  obtain ⟨E, hl, hr, _⟩ := h
  obtain ⟨a, c, e⟩ := (Fls.reads_row (L := E) (by rw [hl]; exact hr)).form
  rw [hl] at e
  exact ⟨a, c, e⟩
theorem row_none (w : World) (b : Nat) (F : Nat → Nat) : Up w b (.slice none 0 0) 0 F 0 := ⟨[], rfl, ⟨by simp, .inl ⟨rfl, rfl⟩⟩, fun i hi => absurd hi (by omega)⟩
theorem row_lit (w : World) (F : Nat → Nat) : Up (w.alloc (Obj.cells #[] 36)) w.heap.size (.slice (some ⟨w.heap.size, 0, none⟩) 0 0) 0 F 0 := ⟨[], rfl, World.ownsRow_lit w #[] 0 (Nat.le_refl _) (Nat.zero_le _) rfl, fun i hi => absurd hi (by omega)⟩
theorem Up.on {w w' : World} {base : Nat} {v : Value} {m k : Nat} {F : Nat → Nat} (h : Up w base v m F k) (hb : Below w.heap.size w w') : Up w' base v m F k := by
  obtain ⟨E, hl, hr, hc⟩ := h
  refine ⟨E, hl, ?_, hc⟩
  refine hr.kept (row := none) ⟨hb.os, hb.tape, hb.output, hb.size, fun k hk _ => hb.block k hk⟩ ?_
  by_cases e : v.ownBlock = none
  · exact Or.inl e
  · exact Or.inr e
set_option maxRecDepth 20000 in
set_option maxHeartbeats 2000000 in
theorem sht_yes (L : Co.Ls) (f : Int) (m : Nat) (v : Value) (w : World) (hL : Co.Reads w v L) (hok : okT L f m = true) :
    Calls Try.prog 5 #[v, .int .i64 f, .int .i64 (m : Int)] w fun e w' => ∃ v', e = .returned v' ∧ Up w' w.heap.size v' m (fun i => hs L (f + (i : Int)) L.length) m ∧ Below w.heap.size w w' := by
  obtain ⟨i0, hi, hz0, hz1, hz2⟩ := info_parts Fls.Try.info36
  unfold okT at hok
  rw [Bool.and_eq_true, Bool.and_eq_true, Bool.and_eq_true, decide_eq_true_eq] at hok
  obtain ⟨⟨⟨o1, o2⟩, o3⟩, o4⟩ := hok
  have p2 := (inn_iff _ _ _).1 o2
  have p3 := (inn_iff _ _ _).1 o3
  obtain ⟨W, hW⟩ : ∃ W, W = w.alloc (Obj.cells #[] 36) := ⟨_, rfl⟩
  have HW : Hid (W = w.alloc (Obj.cells #[] 36)) := hW
  have BW : Below w.heap.size w W := (by rw [hW]; exact (Below.refl _ _).alloc (Nat.le_refl _) _)
  have HB : Hid (Below w.heap.size w W) := BW
  have UW : Hid (Up W w.heap.size (.slice (some ⟨w.heap.size, 0, none⟩) 0 0) 0 (fun i => hs L (f + (i : Int)) L.length) 0) := (by rw [hW]; exact row_lit w _)
  have C1 : Hid (Calls Try.prog 13 #[v] W fun e w' => e = .returned (.bool true) ∧ Below W.heap.size W w') := (by have := sok_any L v W (hL.on BW); rw [o1] at this; exact this)
  have C2 : Hid (∀ w, Calls Try.prog 15 #[.int .i64 f] w fun e w' => e = .returned (.bool true) ∧ w' = w) := fun w => (by have := shour f w; rw [o2] at this; exact this)
  have C3 : Hid (∀ w, Calls Try.prog 14 #[.int .i64 (m : Int), .int .i64 0, .int .i64 4000] w fun e w' => e = .returned (.bool true) ∧ w' = w) := fun w => (by have := sin_any (m : Int) 0 4000 w; rw [o3] at this; exact this)
  have C4 : Hid (0 < m → ∀ w, Calls Try.prog 15 #[.int .i64 (f + (m : Int) - 1)] w fun e w' => e = .returned (.bool true) ∧ w' = w) := fun h0 w => (by have := shour (f + (m : Int) - 1) w; rw [(inn_iff _ _ _).2 (by omega)] at this; exact this)
  have CH : Hid (∀ (k : Nat) w', k < m → Below w.heap.size w w' → Calls Try.prog 16 #[v, .int .i64 (f + (k : Int))] w' fun e w'' => ∃ x, e = .returned (.float .f64 x) ∧ cn x = hs L (f + (k : Int)) L.length ∧ Below w'.heap.size w' w'') := fun k w' hk hb => shei_yes L (f + (k : Int)) v w' (hL.on hb) o1 ((inn_iff _ _ _).2 (by omega))
  obtain ⟨a, cap, rfl⟩ := hL.form
  have g5 : IntKind.i64.wrap (f + (m : Int)) = f + (m : Int) := IntWalk.i64_in _ (by omega)
  have g6 : IntKind.i64.wrap (f + (m : Int) - 1) = f + (m : Int) - 1 := IntWalk.i64_in _ (by omega)
  clear hL o1 o2 o3 o4 hW BW
  by_cases h0 : 0 < m
  · have C4' : Hid (∀ w, Calls Try.prog 15 #[.int .i64 (f + (m : Int) - 1)] w fun e w' => e = .returned (.bool true) ∧ w' = w) := C4.out h0
    have h00 : (0 : Int) < (m : Int) := by omega
    go_enter Try.func5, Try.ntmps5
    go_wp2_with fail
    rw [← HW.out]
    refine C1.out.mono ?_
    rintro e w1 ⟨rfl, b1⟩
    have B1 : Hid (Below w.heap.size w w1) := HB.out.trans (b1.mono HB.out.size)
    have U1 : Hid (Up w1 w.heap.size (.slice (some ⟨w.heap.size, 0, none⟩) 0 0) 0 (fun i => hs L (f + (i : Int)) L.length) 0) := UW.out.on b1
    clear b1
    go_wp2_with fail
    refine (C3.out _).mono ?_
    rintro e w2 ⟨rfl, hw⟩
    have hw' := hw.symm
    subst hw'
    go_wp2_with fail
    refine (C2.out _).mono ?_
    rintro e w2 ⟨rfl, hw⟩
    have hw' := hw.symm
    subst hw'
    go_wp2_with fail
    refine (C4'.out _).mono ?_
    rintro e w2 ⟨rfl, hw⟩
    have hw' := hw.symm
    subst hw'
    go_wp2_with fail
    go_loopw [7, 8] (fun u i wr => ∃ (k : Nat) (v' : Value), k ≤ m ∧ i = .int .i64 k ∧ u = v' ∧ Hid (Up wr w.heap.size v' k (fun i => hs L (f + (i : Int)) L.length) k) ∧ Hid (Below w.heap.size w wr)) (fun _ i _ => m - (intOf i).toNat)
    case atStart => exact ⟨0, _, by omega, rfl, rfl, U1, B1⟩
    case round =>
      obtain ⟨k, v', hk, rfl, hu4, UR, BR⟩ := hrel
      have hu5 := hu4.symm
      subst hu5
      clear hu4
      by_cases hlt : k < m
      · have i2 : (k : Int) < (m : Int) := by omega
        have i3 : IntKind.i64.wrap (f + (k : Int)) = f + (k : Int) := IntWalk.i64_in _ (by omega)
        obtain ⟨sa, sc, hv⟩ := UR.out.form
        subst hv
        have A := CH.out k wr hlt BR.out
        have HA : Hid (Calls Try.prog 16 #[.slice a L.length cap, .int .i64 (f + (k : Int))] wr fun e w'' => ∃ x, e = .returned (.float .f64 x) ∧ cn x = hs L (f + (k : Int)) L.length ∧ Below wr.heap.size wr w'') := A
        clear A
        go_wp2_with fail
        refine HA.out.mono ?_
        rintro e w3 ⟨x, rfl, hx, b3⟩
        obtain ⟨E, hl, hr, hc⟩ := UR.out.on b3
        have B3 : Hid (Below w.heap.size w w3) := BR.out.trans (b3.mono BR.out.size)
        have HR : Hid (w3.ownsRow w.heap.size 36 1 (.slice sa k sc) k (Fls.flts E)) := hr
        have HX : Hid (cn x = hs L (f + (k : Int)) L.length) := hx
        have HCE : Hid (∀ i, i < k → cn (E.getD i 0) = hs L (f + (i : Int)) L.length) := hc
        have z3 := B3.out.size
        clear hr hc hx b3
        go_wp2_with (at_builtin; refine wpList_append_own _ rfl _ _ 24 rfl w.heap.size 36 i0 (.float .f64 0) 1 8 Try.underlying24 hi hz0 hz1 hz2 rfl (by decide) _ _ _ rfl (HR.out.alloc _) ⟨w3.heap.size, 0, none⟩ 1 1 [.float .f64 x] rfl rfl (cell_one w3 _ 36) (one_one _) (by unfold maxLen; omega) (by omega) (by simp; omega) ?_)
        intro v5 w5 hown hgrow _
        have U5 : Hid (Up w5 w.heap.size v5 (k + 1) (fun i => hs L (f + (i : Int)) L.length) (k + 1)) := ⟨E ++ [x], by simp [hl], by simpa [Fls.flts] using hown, fun i hi => by
          by_cases e : i = k
          · subst e
            have : (E ++ [x]).getD i 0 = x := by simp [List.getD_eq_getElem?_getD, ← hl]
            rw [this]; exact HX.out
          · have : (E ++ [x]).getD i 0 = E.getD i 0 := by simp [List.getD_eq_getElem?_getD, List.getElem?_append_left (show i < E.length by omega)]
            rw [this]; exact HCE.out i (by omega)⟩
        have B5 : Hid (Below w.heap.size w w5) := (B3.out.alloc z3 _).grown hgrow (by simp; omega) (fun b hb => (HR.out.lt b hb).1)
        clear hown hgrow
        go_wp2_with fail
        go_roundw
        case rel => exact ⟨k + 1, v5, by omega, by go_num, rfl, U5, B5⟩
        case measure => simp [intOf]; omega
      · have hkn : k = m := by omega
        subst hkn
        go_wp2_with fail
        go_ret
        exact ⟨_, rfl, UR.out, BR.out⟩
  · have hm0 : m = 0 := by omega
    subst hm0
    have C3' : Hid (∀ w, Calls Try.prog 14 #[.int .i64 0, .int .i64 0, .int .i64 4000] w fun e w' => e = .returned (.bool true) ∧ w' = w) := C3.out
    show Calls Try.prog 5 #[.slice a L.length cap, .int .i64 f, .int .i64 0] w _
    clear g5 g6 p3 C3 C4 CH h0
    generalize (fun i : Nat => hs L (f + (i : Int)) L.length) = F at *
    go_enter Try.func5, Try.ntmps5
    go_wp2_with fail
    rw [← HW.out]
    refine C1.out.mono ?_
    rintro e w1 ⟨rfl, b1⟩
    have B1 : Hid (Below w.heap.size w w1) := HB.out.trans (b1.mono HB.out.size)
    have U1 : Hid (Up w1 w.heap.size (.slice (some ⟨w.heap.size, 0, none⟩) 0 0) 0 F 0) := UW.out.on b1
    clear b1
    go_wp2_with fail
    refine (C3'.out _).mono ?_
    rintro e w2 ⟨rfl, hw⟩
    have hw' := hw.symm
    subst hw'
    go_wp2_with fail
    refine (C2.out _).mono ?_
    rintro e w2 ⟨rfl, hw⟩
    have hw' := hw.symm
    subst hw'
    go_wp2_with fail
    go_loop [7, 8] (fun u i => u = .slice (some ⟨w.heap.size, 0, none⟩) 0 0 ∧ i = .int .i64 0) (fun _ _ => 0)
    case atStart => exact ⟨rfl, rfl⟩
    case round =>
      obtain ⟨rfl, rfl⟩ := hrel
      go_wp2_with fail
      go_ret
      exact ⟨_, rfl, U1.out, B1.out⟩
end Go.Proofs.Ytlgcikmimmcmkaa.Ht
