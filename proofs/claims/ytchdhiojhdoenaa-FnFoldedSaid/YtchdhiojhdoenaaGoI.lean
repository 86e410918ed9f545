/- Fold in the program. -/
import Derived.Test.YtchdhiojhdoenaaGoK
namespace Go.Proofs.Ytchdhiojhdoenaa.Ru
open Go.ChangeShapes Go.WideShapes Go.ChangeAt Go.RowKit
attribute [local go_sem ↓] Go.wp_at_zero Go.wp_at_succ

set_option maxHeartbeats 4000000 in
set_option maxRecDepth 1000000 in
theorem ifold (s : ByteArray) (b : Nat) (w : World) (hs : s.size ≤ 20000) (hb8 : 8 ≤ b) (hb200 : b ≤ 200) :
    Calls Try.prog 6 #[.string s, .int .i64 b] w fun e w' => ∃ v, e = .returned v ∧ w'.ownsRow w.heap.size 9 1 v (fld b (wordsB s)).1.length (strs (fld b (wordsB s)).1) ∧ Below w.heap.size w w' := by
  obtain ⟨i0, hi, hz0, hz1, hz2⟩ := info_parts Try.info9
  have WI' : Hid (∀ w, Calls Try.prog 14 #[.int .i64 b, .int .i64 8, .int .i64 200] w fun e w' => e = .returned (.bool true) ∧ w' = w) := fun w => by
    have := iwithin b 8 200 w
    rw [decide_eq_true (show (8 : Int) ≤ b by omega), decide_eq_true (show (b : Int) ≤ 200 by omega)] at this
    exact this
  have FF : Hid (∀ w, Calls Try.prog 15 #[.string s, .func (.func 16) #[] #[]] w fun e w' => ∃ A, e = .returned (.slice (some ⟨A, 0, none⟩) (wordsB s).length (wordsB s).length) ∧ Cs w' A (wordsB s) ∧ Below w.heap.size w w') := fun w => ifields s w hs
  have CU : Hid (∀ (x : ByteArray) (w : World), x.size ≤ 20000 → Calls Try.prog 17 #[.string x, .int .i64 b] w fun e w' => ∃ v, e = .returned (.tuple #[v, .int .i64 ((chs x b).2 : Nat)]) ∧ w'.ownsRow w.heap.size 9 1 v (chs x b).1.length (strs (chs x b).1) ∧ Below w.heap.size w w') := fun x w hx => icut x b w hx hb8 hb200
  have JO : Hid (∀ (bk : Nat) (l x : ByteArray) (w : World), l.size ≤ 1000000 → x.size ≤ 1000000 → bk < w.heap.size → w.cell? ⟨bk, 0, none⟩ = some (.string l) → w.cell? ⟨bk, 1, none⟩ = some (.string ⟨#[32]⟩) → w.cell? ⟨bk, 2, none⟩ = some (.string x) → Calls Try.prog 18 #[.slice (some ⟨bk, 0, none⟩) 3 3] w fun e w' => e = .returned (.string (l ++ ⟨#[32]⟩ ++ x)) ∧ Below w.heap.size w w') := fun bk l x w a1 a2 a3 a4 a5 a6 => ijoined bk l x w a1 a2 a3 a4 a5 a6
  have WB := words_bnd s
  have WP : Hid (∀ x ∈ wordsB s, 0 < x.size ∧ x.size ≤ s.size) := words_pos s
  have FI : Hid (∀ l, FInv b l) := finv b (by omega)
  have d3 : ¬ (20000 : Int) < (s.size : Int) := by omega
  have bl := bnd_len (wordsB s)
  go_enter Try.func6, Try.ntmps6
  go_wp2_with fail
  refine (WI'.out _).mono ?_
  rintro e wz ⟨rfl, hw⟩
  have hw' := hw.symm
  subst hw'
  clear hw
  go_wp2_with fail
  refine (FF.out _).mono ?_
  rintro e w1 ⟨gw, rfl, CW0, B0⟩
  have CW : Hid (Cs w1 gw (wordsB s)) := CW0
  have B1 : Hid (Below w.heap.size w w1) := B0
  have R1 : Hid (w1.ownsRow w.heap.size 9 1 (.slice none 0 0) (fld b ((wordsB s).take 0)).1.length (strs (fld b ((wordsB s).take 0)).1)) := World.ownsRow_nil _ _ _ _
  have VN : Hid ((Value.slice none 0 0).ownBlock ≠ some gw) := by show _ ≠ _; simp [Value.ownBlock]
  clear CW0 B0
  go_wp2_with fail
  go_loopw [5, 6, 23] (fun v r y wr => ∃ i : Nat, i ≤ (wordsB s).length ∧ y = .int .i64 (i : Nat) ∧ Hid (r = .int .i64 ((fld b ((wordsB s).take i)).2 : Nat)) ∧ Hid (wr.ownsRow w.heap.size 9 1 v (fld b ((wordsB s).take i)).1.length (strs (fld b ((wordsB s).take i)).1)) ∧ Hid (Cs wr gw (wordsB s)) ∧ Hid (v.ownBlock ≠ some gw) ∧ Hid (Below w.heap.size w wr)) (fun _ _ y _ => ((wordsB s).length - intOf y).toNat)
  case atStart => exact ⟨0, Nat.zero_le _, rfl, rfl, R1, CW, VN, B1⟩
  case round =>
    clear R1 CW VN B1
    obtain ⟨i, hiW, rfl, HR, R, CW, VN, BW⟩ := hrel
    have hr := HR.out
    subst hr
    clear HR
    obtain ⟨aa, cap, hv⟩ := row_form R.out
    subst hv
    by_cases hik : i < (wordsB s).length
    · have q := CW.out.2 i hik
      have XP := WP.out _ (getD_mem (wordsB s) i hik)
      have TS : Hid ((wordsB s).take (i + 1) = (wordsB s).take i ++ [(wordsB s).getD i emp]) := take_snoc (wordsB s) i hik
      have F := FI.out ((wordsB s).take i)
      have bt1 := bnd_take (wordsB s) i
      obtain ⟨f1, f2, f3, f4⟩ := F
      have FS : Hid (fld b ((wordsB s).take (i + 1)) = fst1 b (fld b ((wordsB s).take i)) ((wordsB s).getD i emp)) := by
        show _ = _
        rw [TS.out, fld_snoc]
      have i0' : (0 : Int) ≤ (i : Int) := by omega
      have i1' : (i : Int) < ((wordsB s).length : Int) := by omega
      generalize (wordsB s).getD i emp = x at *
      have cl := cnt_le x
      have CUx : Hid (∀ (w : World), Calls Try.prog 17 #[.string x, .int .i64 b] w fun e w' => ∃ v, e = .returned (.tuple #[v, .int .i64 ((chs x b).2 : Nat)]) ∧ w'.ownsRow w.heap.size 9 1 v (chs x b).1.length (strs (chs x b).1) ∧ Below w.heap.size w w') := fun w => CU.out x w (by omega)
      obtain ⟨st, hst⟩ : ∃ st, fld b ((wordsB s).take i) = st := ⟨_, rfl⟩
      rw [hst] at R FS VN f1 f2 f3 f4 ⊢
      obtain ⟨L, room⟩ := st
      clear hst
      dsimp only at R FS VN f1 f2 f3 f4 ⊢
      have CS := cond_same (x := x) (show 1 ≤ b by omega) f3 f4
      have k3 := chs_pos x b
      have k4 := (chf_len x b (cnt x) (by omega) (cnt x) 0).1
      have k4' : (chs x b).1.length ≤ cnt x - 0 + 1 := k4
      have k5 := (chf_len x b (cnt x) (by omega) (cnt x) 0).2
      have k5' : (chs x b).2 ≤ cnt x - 0 := k5
      have k6 := chf_room x b (cnt x) (by omega) (cnt x) 0 (by omega)
      have k6' : (chs x b).2 ≤ b := k6
      clear k4 k5 k6
      go_wp2_with fail
      refine (CUx.out _).mono ?_
      rintro e w2 ⟨pv, rfl, PR, PB⟩
      have R2 : Hid (w2.ownsRow w.heap.size 9 1 (.slice aa L.length cap) L.length (strs L)) := row_below R.out PB
      have CW2 : Hid (Cs w2 gw (wordsB s)) := CW.out.below PB
      have BW2 : Hid (Below w.heap.size w w2) := BW.out.trans (PB.mono BW.out.size)
      have PC : ∃ gp pc, pv = .slice (some ⟨gp, 0, none⟩) (chs x b).1.length pc ∧ wr.heap.size ≤ gp ∧ Cs w2 gp (chs x b).1 := by
        rcases srow_cases PR with ⟨h, _⟩ | ⟨gp, pc, h0, h1, h2, h3, h4⟩
        · rw [h] at k3; exact absurd k3 (by decide)
        · subst h0
          exact ⟨gp, pc, rfl, h1, h2, fun j hj => srow_cell PR j hj⟩
      obtain ⟨gp, pc, rfl, hgp, CP0⟩ := PC
      have CP : Hid (Cs w2 gp (chs x b).1) := CP0
      have hLn : L.length ≤ 1000000 := by omega
      clear R CW BW q PR PB CP0 CUx
      by_cases hc : 0 < L.length ∧ cnt x + 1 ≤ room
      · have hcs := CS.2 hc
        have hcc := chs_cnt (show 1 ≤ b by omega) hcs.1
        obtain ⟨hc1, hc2⟩ := hc
        have RC : ∃ g0, aa = some ⟨g0, 0, none⟩ ∧ w.heap.size ≤ g0 ∧ g0 < w2.heap.size := by
          rcases srow_cases R2.out with ⟨h, _⟩ | ⟨g0, c0, h0, h1, h2, h3, h4⟩
          · rw [h] at hc1; exact absurd hc1 (by decide)
          · simp at h0
            obtain ⟨rfl, rfl⟩ := h0
            exact ⟨g0, rfl, h1, h2⟩
        obtain ⟨g0, rfl, hg0, hg1⟩ := RC
        have lc := srow_cell R2.out (L.length - 1) (by omega)
        have lsz := f2 _ (getD_mem L (L.length - 1) (by omega))
        have FP : Hid (fld b ((wordsB s).take (i + 1)) = (L.set (L.length - 1) (L.getD (L.length - 1) emp ++ ⟨#[32]⟩ ++ x), room - (cnt x + 1))) := by
          show _ = _
          rw [FS.out]
          unfold fst1
          rw [if_pos ⟨hc1, hc2⟩]
        have HR2 : Hid ((room : Int) - (1 + ((chs x b).2 : Int)) = ((fld b ((wordsB s).take (i + 1))).2 : Nat)) := by
          show _ = _
          rw [FP.out, hcc]
          show _ = ((room - (cnt x + 1) : Nat) : Int)
          omega
        have zz : (L.getD (L.length - 1) emp).size ≤ 100000 := by omega
        have zx : x.size ≤ 100000 := by omega
        have e1 : (((chs x b).1.length : Int) == 1) = true := by rw [hcs.1]; rfl
        have e2 : ((chs x b).2 : Int) < (room : Int) := by have := hcs.2; omega
        have RSf : Hid (∀ w3 : World, w3.ownsRow w.heap.size 9 1 (.slice (some ⟨g0, 0, none⟩) L.length cap) L.length (strs L) → (w3.setCell ⟨g0, L.length - 1, none⟩ (.string (L.getD (L.length - 1) emp ++ ⟨#[32]⟩ ++ x))).ownsRow w.heap.size 9 1 (.slice (some ⟨g0, 0, none⟩) L.length cap) (fld b ((wordsB s).take (i + 1))).1.length (strs (fld b ((wordsB s).take (i + 1))).1) ∧ w3.grownBy (w3.setCell ⟨g0, L.length - 1, none⟩ (.string (L.getD (L.length - 1) emp ++ ⟨#[32]⟩ ++ x))) (some g0)) := fun w3 h => by
          rw [FP.out]
          show World.ownsRow _ _ _ _ _ (L.set _ _).length _ ∧ _
          rw [List.length_set, ← strs_set]
          exact h.stored _ _
        have LF : Hid (∀ w3 : World, w3.ownsRow w.heap.size 9 1 (.slice (some ⟨g0, 0, none⟩) L.length cap) L.length (strs L) → w3.frozen? ⟨g0, L.length - 1, none⟩ = false ∧ w3.cell? ⟨g0, L.length - 1, none⟩ = some (.string (L.getD (L.length - 1) emp))) := fun w3 h => ⟨h.frozenAt _, srow_cell h _ (by omega)⟩
        clear FP FS CP CS hcs hcc f1 f2 f4 lsz
        generalize L.getD (L.length - 1) emp = la at *
        obtain ⟨SL, hSL⟩ : ∃ SL, SL = strs L := ⟨_, rfl⟩
        rw [← hSL] at R2 RSf LF
        clear hSL
        obtain ⟨m, hm⟩ : ∃ m, L.length = m + 1 := ⟨L.length - 1, by omega⟩
        generalize L.length = n at *
        subst hm
        simp only [Nat.add_sub_cancel] at *
        have j0 : (0 : Int) ≤ (m : Int) := by omega
        have j2 : (m : Int) ≤ 1000000 := by omega
        generalize (chs x b).1.length = kk at *
        generalize (chs x b).2 = kc at *
        go_wp2_with fail
        refine (JO.out _ la x _ (by omega) (by omega) (by simp) (by simp [go_sem]) (by simp [go_sem]) (by simp [go_sem])).mono ?_
        rintro e w3 ⟨rfl, hb3⟩
        have R3 : Hid (w3.ownsRow w.heap.size 9 1 (.slice (some ⟨g0, 0, none⟩) (m + 1) cap) (m + 1) SL) := row_below (R2.out.alloc _) hb3
        have CW3 : Hid (Cs w3 gw (wordsB s)) := (CW2.out.alloc _).below hb3
        have BW3 : Hid (Below w.heap.size w w3) := (BW2.out.alloc BW2.out.size _).trans (hb3.mono (BW2.out.alloc BW2.out.size _).size)
        obtain ⟨lf3, lc3⟩ := LF.out w3 R3.out
        obtain ⟨rs1, rs2⟩ := RSf.out w3 R3.out
        have RS : Hid ((w3.setCell ⟨g0, m, none⟩ (.string (la ++ ⟨#[32]⟩ ++ x))).ownsRow w.heap.size 9 1 (.slice (some ⟨g0, 0, none⟩) (m + 1) cap) (fld b ((wordsB s).take (i + 1))).1.length (strs (fld b ((wordsB s).take (i + 1))).1)) := rs1
        have CS3 : Hid (Cs (w3.setCell ⟨g0, m, none⟩ (.string (la ++ ⟨#[32]⟩ ++ x))) gw (wordsB s)) := CW3.out.grown rs2 (by have := VN.out; simpa [Value.ownBlock] using this)
        have BS : Hid (Below w.heap.size w (w3.setCell ⟨g0, m, none⟩ (.string (la ++ ⟨#[32]⟩ ++ x)))) := BW3.out.setCell hg0 _
        clear rs1 rs2 R2 CW2 BW2 R3 CW3 BW3 RSf LF hb3 lc
        generalize la ++ ⟨#[32]⟩ ++ x = lx at *
        go_wp2_with fail
        go_roundw
        case rel => exact ⟨i + 1, by omega, by go_num, congrArg (Value.int .i64) HR2.out, RS, CS3, VN, BS⟩
        case measure => simp [intOf]; omega
      · have ncs : ¬ ((chs x b).1.length = 1 ∧ (chs x b).2 < room) := fun h => hc (CS.1 h)
        have FP : Hid (fld b ((wordsB s).take (i + 1)) = (L ++ (chs x b).1, b - (chs x b).2)) := by
          show _ = _
          rw [FS.out]
          unfold fst1
          rw [if_neg hc]
        have HR2 : Hid ((b : Int) - ((chs x b).2 : Int) = ((fld b ((wordsB s).take (i + 1))).2 : Nat)) := by
          show _ = _
          rw [FP.out]
          show _ = ((b - (chs x b).2 : Nat) : Int)
          omega
        have RF : Hid (∀ (w4 : World) (v' : Value), w4.ownsRow w.heap.size 9 1 v' (L.length + (chs x b).1.length) (strs L ++ strs (chs x b).1) → w4.ownsRow w.heap.size 9 1 v' (fld b ((wordsB s).take (i + 1))).1.length (strs (fld b ((wordsB s).take (i + 1))).1)) := fun w4 v' h => by
          rw [FP.out]
          show World.ownsRow _ _ _ _ _ (L ++ (chs x b).1).length (strs (L ++ (chs x b).1))
          rw [strs, List.map_append, List.length_append]
          exact h
        have NW : Hid (∀ (w4 : World), Cs w4 gp (chs x b).1 → ∀ j u, (strs (chs x b).1)[j]? = some u → w4.cell? ((⟨gp, 0, none⟩ : Addr).add j) = some u) := fun w4 h j u hj => by
          have hl : j < (chs x b).1.length := by
            by_cases c : j < (chs x b).1.length
            · exact c
            · rw [List.getElem?_eq_none (by simp [strs]; omega)] at hj; cases hj
          have := h.2 j hl
          simp [strs, List.getElem?_map, List.getElem?_eq_getElem hl] at hj
          subst hj
          have e : (⟨gp, 0, none⟩ : Addr).add j = ⟨gp, j, none⟩ := by
            unfold Addr.add
            split
            · rename_i h; subst h; rfl
            · simp
          rw [e, this]
          simp [List.getD_eq_getElem?_getD, List.getElem?_eq_getElem hl]
        have OC : Hid (∀ u ∈ strs (chs x b).1, u.oneCell' = true) := fun u hu => by
          obtain ⟨y, _, rfl⟩ := List.mem_map.1 hu
          rfl
        have SLn : Hid ((strs (chs x b).1).length = (chs x b).1.length * 1) := by show _ = _; simp [strs]
        have kd : (chs x b).1.length ≠ 1 ∨ (chs x b).1.length = 1 ∧ (room : Int) ≤ ((chs x b).2 : Int) := by
          by_cases c : (chs x b).1.length = 1
          · exact .inr ⟨c, by
              by_cases d : (chs x b).2 < room
              · exact absurd ⟨c, d⟩ ncs
              · omega⟩
          · exact .inl c
        have rb : room ≤ 200 := by omega
        clear FP FS CS ncs hc f1 f2 f4
        generalize strs (chs x b).1 = SN at *
        generalize (chs x b).1.length = kk at *
        generalize (chs x b).2 = kc at *
        obtain ⟨SL, hSL⟩ : ∃ SL, SL = strs L := ⟨_, rfl⟩
        rw [← hSL] at R2 RF
        clear hSL
        generalize L.length = n at *
        have kd' : ((kk : Int) == 1) = false ∨ ((kk : Int) == 1) = true ∧ (room : Int) ≤ (kc : Int) := by
          rcases kd with h | ⟨h, h'⟩
          · exact .inl (by rw [beq_eq_false_iff_ne]; omega)
          · exact .inr ⟨by rw [h]; rfl, h'⟩
        clear kd
        rcases kd' with e1 | ⟨e1, e2⟩
        all_goals
          go_wp2_with (at_builtin; refine wpList_append_own_at _ rfl _ _ 26 rfl w.heap.size 9 i0 (.string ⟨#[]⟩) 1 16 Try.underlying26 hi hz0 hz1 hz2 rfl (by decide) _ _ _ rfl R2.out ⟨gp, 0, none⟩ kk pc SN rfl SLn.out (NW.out _ CP.out) OC.out ?c3 ?c4 ?c5 ?_)
          case c3 => unfold maxLen; omega
          case c4 => omega
          case c5 => exact BW2.out.size
          · intro v' w4 hown' hgrow _ hat
            have hob : ∀ b', (Value.slice aa n cap).ownBlock = some b' → w.heap.size ≤ b' := fun b' hb => (R2.out.lt b' hb).1
            have R4 : Hid (w4.ownsRow w.heap.size 9 1 v' (fld b ((wordsB s).take (i + 1))).1.length (strs (fld b ((wordsB s).take (i + 1))).1)) := RF.out w4 v' hown'
            have B4 : Hid (Below w.heap.size w w4) := BW2.out.grown hgrow BW2.out.size hob
            have CW4 : Hid (Cs w4 gw (wordsB s)) := CW2.out.grown hgrow VN.out
            have VN4 : Hid (v'.ownBlock ≠ some gw) := at_ne hat VN.out CW2.out.1
            clear hown' hgrow hob hat R2 BW2 CW2 VN RF NW
            go_wp2_with fail
            go_roundw
            case rel => exact ⟨i + 1, by omega, by go_num, congrArg (Value.int .i64) HR2.out, R4, CW4, VN4, B4⟩
            case measure => simp [intOf]; omega
    · have ei : i = (wordsB s).length := by omega
      have RF : Hid (wr.ownsRow w.heap.size 9 1 (.slice aa (fld b ((wordsB s).take i)).1.length cap) (fld b (wordsB s)).1.length (strs (fld b (wordsB s)).1)) := by
        show World.ownsRow _ _ _ _ _ _ _
        have := R.out
        rw [ei, List.take_length] at this ⊢
        exact this
      have ei' : ¬ (i : Int) < ((wordsB s).length : Int) := by omega
      clear R ei
      go_wp2_with fail
      go_ret
      exact ⟨_, rfl, RF.out, BW.out⟩
end Go.Proofs.Ytchdhiojhdoenaa.Ru
