/- Clean in the model: for every row of bytes. -/
import Derived.Test.YtpehoakdhbicfaaDoorICl
import Derived.Test.YtpehoakdhbicfaaDoorRunf
namespace Go.Proofs.YtpehoakdhbicfaaDoor.Ru
open Go.ChangeShapes Go.WideShapes Go.ChangeAt Go.RowKit

theorem row_form {e : TypeId} {w : World} {base n : Nat} {v : Value} {xs : List Value} (h : w.ownsRow base e 1 v n xs) : ∃ a cap, v = .slice a n cap := by
  rcases h.2 with ⟨rfl, rfl⟩ | ⟨g, cap, _, rfl, _⟩
  · exact ⟨_, _, rfl⟩
  · exact ⟨_, _, rfl⟩
theorem empty_row (e : TypeId) (W : World) (base : Nat) (h : base ≤ W.heap.size) : (W.alloc (.cells #[] e)).ownsRow base e 1 (.slice (some ⟨W.heap.size, 0, none⟩) 0 0) 0 [] :=
  ⟨by simp, .inr ⟨W.heap.size, 0, #[], rfl, h, heap_alloc_new W _, Nat.le_refl _, Nat.zero_le _, by simp, by simp⟩⟩
theorem row_reads {w : World} {base : Nat} {v : Value} {l : List UInt8} (h : w.ownsRow base 5 1 v l.length (Lib.byteCells l)) : Reads w v l := by
  rcases h.2 with ⟨rfl, hn⟩ | ⟨g, cap, cur, rfl, _, hb, hc, hm, hsz, hx⟩
  · exact Or.inl ⟨List.eq_nil_of_length_eq_zero hn, _, _, rfl⟩
  · refine Or.inr ⟨g, 0, cap, rfl, hc, hm, (Array.getElem?_eq_some_iff.1 hb).1, fun i hi => ?_⟩
    rw [Nat.zero_add, h.cellAt i (by omega)]
    simp [Lib.byteCells, List.getElem?_map, List.getElem?_eq_getElem hi]

theorem rn_of_good {s : ByteArray} {p : Nat} (h : ¬ bad s p) : rn s p = ((Utf8.decode s p).1 : Int) := by
  unfold rn
  rw [if_neg h]

set_option maxHeartbeats 4000000 in
set_option maxRecDepth 1000000 in
theorem sclean (v : Value) (L : List UInt8) (s : ByteArray) (hsL : s = ⟨L.toArray⟩) (w : World) (hR0 : Reads w v L) (hs : s.size ≤ 20000) :
    Calls Tryd.prog 7 #[v] w fun e w' => ∃ k, Ends s k ∧ e = .returned (.string ⟨(outs s k).toArray⟩) ∧ Below w.heap.size w w' := by
  obtain ⟨i0, hi, hz0, hz1, hz2⟩ := info_parts Tryd.info5
  have hcv := conv_reads hR0
  rw [← hsL] at hcv
  have hll : s.size = L.length := by rw [hsL]; simp [ByteArray.size]
  obtain ⟨a0, cap0, rfl⟩ := hR0.form
  rw [← hll] at hcv hR0 ⊢
  have R0 : Hid ((w.alloc (.cells #[] 5)).ownsRow w.heap.size 5 1 (.slice (some ⟨w.heap.size, 0, none⟩) 0 0) (outs s 0).length (Lib.byteCells (outs s 0))) := empty_row 5 w _ (Nat.le_refl _)
  clear hR0 hsL hll
  go_enter Tryd.func7, Tryd.ntmps7
  go_wp2_with fail
  go_loopw [4, 5] (fun v x wr => ∃ k : Nat, Hid (lows s k) ∧ x = .int .i64 (pos s k : Nat) ∧ Hid (wr.ownsRow w.heap.size 5 1 v (outs s k).length (Lib.byteCells (outs s k))) ∧ Hid (Below w.heap.size w wr)) (fun _ x _ => (s.size - intOf x).toNat)
  case atStart => exact ⟨0, lows_zero s, rfl, R0, (Below.refl _ _).alloc (Nat.le_refl _) _⟩
  case round =>
    obtain ⟨k, LO, rfl, R, BW⟩ := hrel
    obtain ⟨aa, cap, hv⟩ := row_form R.out
    subst hv
    have pb := pos_ge LO.out
    have os := outs_size LO.out
    have WD := wd_in s (pos s k)
    have PN : Hid (pos s k + wd s (pos s k) = pos s (k + 1)) := rfl
    have HO : Hid (outs s (k + 1) = outs s k ++ cl s (pos s k)) := rfl
    have LS : Hid (pos s k < s.size → lows s (k + 1)) := fun h => lows_succ LO.out h
    have EN : Hid (¬ pos s k < s.size → Ends s k) := fun h => ⟨h, LO.out⟩
    have RP : Hid (∀ w, pos s k < s.size → Calls Tryd.prog 22 #[.string s, .int .i64 (pos s k : Nat)] w fun e w' => e = .returned (.tuple #[.int .i64 (rn s (pos s k)), .int .i64 (wd s (pos s k))]) ∧ w' = w) := fun w h => rune_any s (pos s k) w (by omega) h
    by_cases hp : pos s k < s.size
    · have wd' := WD hp
      have LO' : Hid (lows s (k + 1)) := LS.out hp
      have wz := BW.out.size
      have PE : Hid ((pos s k : Int) + (wd s (pos s k) : Int) = ((pos s (k + 1) : Nat) : Int)) := by show _ = _; rw [← PN.out]; omega
      have hob : ∀ b, (Value.slice aa (outs s k).length cap).ownBlock = some b → w.heap.size ≤ b := fun b hb => (R.out.lt b hb).1
      have HOB : Hid (∀ b, (Value.slice aa (outs s k).length cap).ownBlock = some b → w.heap.size ≤ b) := hob
      clear WD LS EN LO hob PN
      by_cases hbad : bad s (pos s k)
      · have er := rn_bad hbad
        have E : Hid (cl s (pos s k) = [63]) := cl_bad hbad
        rw [er.1] at RP
        clear er hbad
        generalize wd s (pos s k) = n at *
        go_wp2_with fail
        refine (RP.out _ hp).mono ?_
        rintro e w' ⟨rfl, hw⟩
        subst hw
        go_wp2_with (at_builtin; refine wpList_append_own _ rfl _ _ 22 rfl w.heap.size 5 i0 (.int .u8 0) 1 1 Tryd.underlying22 hi hz0 hz1 hz2 rfl (by decide) _ _ _ rfl (R.out.alloc _) ⟨w'.heap.size, 0, none⟩ 1 1 [.int .u8 63] rfl rfl ?c1 ?c2 ?c3 ?c4 ?c5 ?_)
        case c1 =>
          intro j u hj
          match j, hj with
          | 0, hj => simp at hj; subst hj; simp [Addr.add]
        case c2 => intro u hu; simp at hu; subst hu; rfl
        case c3 => unfold maxLen; omega
        case c4 => omega
        case c5 => simp; omega
        · intro v' w2 hown' hgrow _
          have R' : Hid (w2.ownsRow w.heap.size 5 1 v' (outs s (k + 1)).length (Lib.byteCells (outs s (k + 1)))) := by
            show World.ownsRow _ _ _ _ _ _ _
            rw [HO.out, E.out, Lib.byteCells_append, List.length_append]
            exact hown'
          have B' : Hid (Below w.heap.size w w2) := (BW.out.alloc BW.out.size _).grown hgrow (by simp; omega) HOB.out
          clear hown' hgrow HOB R BW
          go_wp2_with fail
          go_roundw
          case rel => exact ⟨k + 1, LO', congrArg (Value.int .i64) PE.out, R', B'⟩
          case measure => simp [intOf]; omega
      · have er := rn_of_good hbad
        have C13 : Hid ((Utf8.decode s (pos s k)).1 = 13 → cl s (pos s k) = []) := fun h => cl_cr hbad h
        have CH : Hid ((Utf8.decode s (pos s k)).1 ≠ 13 → hid (Utf8.decode s (pos s k)).1 → cl s (pos s k) = [32]) := fun h h' => cl_hid hbad h h'
        have CO : Hid ((Utf8.decode s (pos s k)).1 ≠ 13 → ¬ hid (Utf8.decode s (pos s k)).1 → cl s (pos s k) = (s.extract (pos s k) (pos s k + wd s (pos s k))).data.toList) := fun h h' => cl_own hbad h h'
        have ES := ext_size s (pos s k) (wd s (pos s k)) wd'.2.2
        rw [er] at RP
        clear er hbad
        generalize wd s (pos s k) = n at *
        generalize (Utf8.decode s (pos s k)).1 = r at *
        by_cases q13 : r = 13
        · subst q13
          have R' : Hid (wr.ownsRow w.heap.size 5 1 (.slice aa (outs s k).length cap) (outs s (k + 1)).length (Lib.byteCells (outs s (k + 1)))) := by
            show World.ownsRow _ _ _ _ _ _ _
            rw [HO.out, C13.out rfl, List.append_nil]
            exact R.out
          clear R
          go_wp2_with fail
          refine (RP.out _ hp).mono ?_
          rintro e w' ⟨rfl, hw⟩
          subst hw
          go_wp2_with fail
          go_roundw
          case rel => exact ⟨k + 1, LO', congrArg (Value.int .i64) PE.out, R', BW⟩
          case measure => simp [intOf]; omega
        by_cases q10 : r = 10
        · subst q10
          have E : Hid (cl s (pos s k) = (s.extract (pos s k) (pos s k + n)).data.toList) := CO.out (by omega) (by unfold hid; omega)
          go_wp2_with fail
          refine (RP.out _ hp).mono ?_
          rintro e w' ⟨rfl, hw⟩
          subst hw
          go_wp2_with (at_builtin; refine Lib.wpList_append_own_string _ rfl _ _ 22 9 rfl w.heap.size 5 i0 Tryd.underlying22 Tryd.underlying9 hi hz0 hz1 hz2 _ _ _ rfl R.out (s.extract (pos s k) (pos s k + n)) rfl ?c1 ?c2 ?c3 ?_)
          case c1 => unfold maxLen; omega
          case c2 => omega
          case c3 => exact wz
          · intro v' w2 hown' hgrow _
            have R' : Hid (w2.ownsRow w.heap.size 5 1 v' (outs s (k + 1)).length (Lib.byteCells (outs s (k + 1)))) := by
              show World.ownsRow _ _ _ _ _ _ _
              rw [HO.out, E.out, Lib.byteCells_append, List.length_append, cells_data, len_data, ES]
              exact hown'
            have B' : Hid (Below w.heap.size w w2) := BW.out.grown hgrow wz HOB.out
            clear hown' hgrow HOB R BW
            go_wp2_with fail
            go_roundw
            case rel => exact ⟨k + 1, LO', congrArg (Value.int .i64) PE.out, R', B'⟩
            case measure => simp [intOf]; omega
        have n10 := q10
        by_cases q1 : r < 32
        · have E : Hid (cl s (pos s k) = [32]) := CH.out q13 (by unfold hid; omega)
          have d0 : decide ((r : Int) < 32) = true := decide_eq_true (by omega)
          have d1 : decide (127 ≤ (r : Int)) = false := decide_eq_false (by omega)
          have e13 : ((r : Int) == 13) = false := by rw [beq_eq_false_iff_ne]; omega
          have e10 : ((r : Int) == 10) = false := by rw [beq_eq_false_iff_ne]; omega
          have e10b : ((r : Int) != 10) = true := by rw [bne, e10]; rfl
          go_wp2_with fail
          refine (RP.out _ hp).mono ?_
          rintro e w' ⟨rfl, hw⟩
          subst hw
          go_wp2_with (at_builtin; refine wpList_append_own _ rfl _ _ 22 rfl w.heap.size 5 i0 (.int .u8 0) 1 1 Tryd.underlying22 hi hz0 hz1 hz2 rfl (by decide) _ _ _ rfl (R.out.alloc _) ⟨w'.heap.size, 0, none⟩ 1 1 [.int .u8 32] rfl rfl ?c1 ?c2 ?c3 ?c4 ?c5 ?_)
          case c1 =>
            intro j u hj
            match j, hj with
            | 0, hj => simp at hj; subst hj; simp [Addr.add]
          case c2 => intro u hu; simp at hu; subst hu; rfl
          case c3 => unfold maxLen; omega
          case c4 => omega
          case c5 => simp; omega
          · intro v' w2 hown' hgrow _
            have R' : Hid (w2.ownsRow w.heap.size 5 1 v' (outs s (k + 1)).length (Lib.byteCells (outs s (k + 1)))) := by
              show World.ownsRow _ _ _ _ _ _ _
              rw [HO.out, E.out, Lib.byteCells_append, List.length_append]
              exact hown'
            have B' : Hid (Below w.heap.size w w2) := (BW.out.alloc BW.out.size _).grown hgrow (by simp; omega) HOB.out
            clear hown' hgrow HOB R BW
            go_wp2_with fail
            go_roundw
            case rel => exact ⟨k + 1, LO', congrArg (Value.int .i64) PE.out, R', B'⟩
            case measure => simp [intOf]; omega
        by_cases q2 : r < 127
        · have E : Hid (cl s (pos s k) = (s.extract (pos s k) (pos s k + n)).data.toList) := CO.out q13 (by unfold hid; omega)
          have d0 : decide ((r : Int) < 32) = false := decide_eq_false (by omega)
          have d1 : decide (127 ≤ (r : Int)) = false := decide_eq_false (by omega)
          have e13 : ((r : Int) == 13) = false := by rw [beq_eq_false_iff_ne]; omega
          have e10 : ((r : Int) == 10) = false := by rw [beq_eq_false_iff_ne]; omega
          have e10b : ((r : Int) != 10) = true := by rw [bne, e10]; rfl
          go_wp2_with fail
          refine (RP.out _ hp).mono ?_
          rintro e w' ⟨rfl, hw⟩
          subst hw
          go_wp2_with (at_builtin; refine Lib.wpList_append_own_string _ rfl _ _ 22 9 rfl w.heap.size 5 i0 Tryd.underlying22 Tryd.underlying9 hi hz0 hz1 hz2 _ _ _ rfl R.out (s.extract (pos s k) (pos s k + n)) rfl ?c1 ?c2 ?c3 ?_)
          case c1 => unfold maxLen; omega
          case c2 => omega
          case c3 => exact wz
          · intro v' w2 hown' hgrow _
            have R' : Hid (w2.ownsRow w.heap.size 5 1 v' (outs s (k + 1)).length (Lib.byteCells (outs s (k + 1)))) := by
              show World.ownsRow _ _ _ _ _ _ _
              rw [HO.out, E.out, Lib.byteCells_append, List.length_append, cells_data, len_data, ES]
              exact hown'
            have B' : Hid (Below w.heap.size w w2) := BW.out.grown hgrow wz HOB.out
            clear hown' hgrow HOB R BW
            go_wp2_with fail
            go_roundw
            case rel => exact ⟨k + 1, LO', congrArg (Value.int .i64) PE.out, R', B'⟩
            case measure => simp [intOf]; omega
        by_cases q3 : r < 160
        · have E : Hid (cl s (pos s k) = [32]) := CH.out q13 (by unfold hid; omega)
          have d0 : decide ((r : Int) < 32) = false := decide_eq_false (by omega)
          have d1 : decide (127 ≤ (r : Int)) = true := decide_eq_true (by omega)
          have d2 : decide ((r : Int) < 160) = true := decide_eq_true (by omega)
          have e13 : ((r : Int) == 13) = false := by rw [beq_eq_false_iff_ne]; omega
          have e10 : ((r : Int) == 10) = false := by rw [beq_eq_false_iff_ne]; omega
          have e10b : ((r : Int) != 10) = true := by rw [bne, e10]; rfl
          go_wp2_with fail
          refine (RP.out _ hp).mono ?_
          rintro e w' ⟨rfl, hw⟩
          subst hw
          go_wp2_with (at_builtin; refine wpList_append_own _ rfl _ _ 22 rfl w.heap.size 5 i0 (.int .u8 0) 1 1 Tryd.underlying22 hi hz0 hz1 hz2 rfl (by decide) _ _ _ rfl (R.out.alloc _) ⟨w'.heap.size, 0, none⟩ 1 1 [.int .u8 32] rfl rfl ?c1 ?c2 ?c3 ?c4 ?c5 ?_)
          case c1 =>
            intro j u hj
            match j, hj with
            | 0, hj => simp at hj; subst hj; simp [Addr.add]
          case c2 => intro u hu; simp at hu; subst hu; rfl
          case c3 => unfold maxLen; omega
          case c4 => omega
          case c5 => simp; omega
          · intro v' w2 hown' hgrow _
            have R' : Hid (w2.ownsRow w.heap.size 5 1 v' (outs s (k + 1)).length (Lib.byteCells (outs s (k + 1)))) := by
              show World.ownsRow _ _ _ _ _ _ _
              rw [HO.out, E.out, Lib.byteCells_append, List.length_append]
              exact hown'
            have B' : Hid (Below w.heap.size w w2) := (BW.out.alloc BW.out.size _).grown hgrow (by simp; omega) HOB.out
            clear hown' hgrow HOB R BW
            go_wp2_with fail
            go_roundw
            case rel => exact ⟨k + 1, LO', congrArg (Value.int .i64) PE.out, R', B'⟩
            case measure => simp [intOf]; omega
        · have E : Hid (cl s (pos s k) = (s.extract (pos s k) (pos s k + n)).data.toList) := CO.out q13 (by unfold hid; omega)
          have d0 : decide ((r : Int) < 32) = false := decide_eq_false (by omega)
          have d1 : decide (127 ≤ (r : Int)) = true := decide_eq_true (by omega)
          have d2 : decide ((r : Int) < 160) = false := decide_eq_false (by omega)
          have e13 : ((r : Int) == 13) = false := by rw [beq_eq_false_iff_ne]; omega
          have e10 : ((r : Int) == 10) = false := by rw [beq_eq_false_iff_ne]; omega
          have e10b : ((r : Int) != 10) = true := by rw [bne, e10]; rfl
          go_wp2_with fail
          refine (RP.out _ hp).mono ?_
          rintro e w' ⟨rfl, hw⟩
          subst hw
          go_wp2_with (at_builtin; refine Lib.wpList_append_own_string _ rfl _ _ 22 9 rfl w.heap.size 5 i0 Tryd.underlying22 Tryd.underlying9 hi hz0 hz1 hz2 _ _ _ rfl R.out (s.extract (pos s k) (pos s k + n)) rfl ?c1 ?c2 ?c3 ?_)
          case c1 => unfold maxLen; omega
          case c2 => omega
          case c3 => exact wz
          · intro v' w2 hown' hgrow _
            have R' : Hid (w2.ownsRow w.heap.size 5 1 v' (outs s (k + 1)).length (Lib.byteCells (outs s (k + 1)))) := by
              show World.ownsRow _ _ _ _ _ _ _
              rw [HO.out, E.out, Lib.byteCells_append, List.length_append, cells_data, len_data, ES]
              exact hown'
            have B' : Hid (Below w.heap.size w w2) := BW.out.grown hgrow wz HOB.out
            clear hown' hgrow HOB R BW
            go_wp2_with fail
            go_roundw
            case rel => exact ⟨k + 1, LO', congrArg (Value.int .i64) PE.out, R', B'⟩
            case measure => simp [intOf]; omega
    · have EN' : Hid (Ends s k) := EN.out hp
      have cv := conv_reads (row_reads R.out)
      clear EN LS WD LO RP PN
      go_wp2_with fail
      go_ret
      exact ⟨k, EN'.out, rfl, BW.out⟩

set_option maxHeartbeats 1000000 in
theorem sclean_big (v : Value) (L : List UInt8) (w : World) (hR0 : Reads w v L) (hs : 20000 < L.length) :
    Calls Tryd.prog 7 #[v] w fun e w' => e = .returned (.string ⟨#[]⟩) ∧ w' = w := by
  obtain ⟨a0, cap0, rfl⟩ := hR0.form
  go_enter Tryd.func7, Tryd.ntmps7
  go_wp2
  go_ret
  exact ⟨rfl, rfl⟩
set_option maxHeartbeats 1000000 in
theorem iclean_big (v : Value) (L : List UInt8) (w : World) (hR0 : Reads w v L) (hs : 20000 < L.length) :
    Calls Tryd.prog 6 #[v] w fun e w' => e = .returned (.string ⟨#[]⟩) ∧ w' = w := by
  obtain ⟨a0, cap0, rfl⟩ := hR0.form
  go_enter Tryd.func6, Tryd.ntmps6
  go_wp2
  go_ret
  exact ⟨rfl, rfl⟩
end Go.Proofs.YtpehoakdhbicfaaDoor.Ru
