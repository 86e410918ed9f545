/- ReadNumber in the model: no word of its own. -/
import Derived.Test.YtpgdhmmhnjgeeaaDoorRnS
namespace Go.Proofs.YtpgdhmmhnjgeeaaDoor.Dec
open Go.ChangeShapes Go.WideShapes Go.ChangeAt Go.RowKit Flt

theorem belowN {B : Nat} {a w : World} (h : Below B a w) (n : Nat) : Below B a (w.drewN n) := ⟨h.os, h.tape, h.output, h.size, h.block⟩
theorem eq_bytes (l : List UInt8) (s : ByteArray) : ((⟨l.toArray⟩ : ByteArray).toList != s.toList) = !decide (l = s.data.toList) := by
  rw [Lib.toList_data, Lib.toList_data]
  show (l.toArray.toList != s.data.toList) = _
  by_cases h : l = s.data.toList
  · rw [h]; simp
  · rw [decide_eq_false h]; simpa using h
theorem eq_bytes2 (l : List UInt8) (s : ByteArray) : (l == s.toList) = decide (l = s.data.toList) := by
  rw [Lib.toList_data]
  by_cases h : l = s.data.toList
  · rw [h]; simp
  · rw [decide_eq_false h]; simpa using h
theorem eq_bytes3 (l : List UInt8) (s : ByteArray) : (!(l == s.toList)) = !decide (l = s.data.toList) := by rw [eq_bytes2]
theorem head_at (s : ByteArray) (h : 0 < s.size) : (s.data.toList.head? = some 45) ↔ s[0].toNat = 45 := by
  have e : s.data.toList = s[0] :: s.data.toList.drop 1 := by
    have := drop_at s 0 h
    rw [List.drop_zero] at this
    exact this
  rw [e]
  simp [← UInt8.toNat_inj]

set_option maxHeartbeats 2000000 in
theorem sread_long (s : ByteArray) (w : World) (hs : s.size ≤ 4194304) (h1 : (s.toList == [47]) = false) (h2 : (s.toList == [104, 105, 103, 104]) = false) (h3 : (s.toList == [108, 111, 119]) = false) (hl : 30 < s.size) :
    Calls Tryd.prog 4 #[.string s] w (fb 0 false w) := by
  have hl' : (30 : Int) < (s.size : Int) := by omega
  have c0 : cn 0 = 0 := by decide +kernel
  have C0 : Hid (cn 0 = 0) := c0
  clear c0
  go_enter Tryd.func4, Tryd.ntmps4
  go_wp2_with fail
  go_ret2
  exact ⟨⟨0, rfl, C0.out⟩, Below.refl _ _⟩

set_option maxHeartbeats 4000000 in
set_option maxRecDepth 100000 in
theorem sread_any (s : ByteArray) (w : World) (V : Nat) (B : Bool) (h1 : (s.toList == [47]) = false) (h2 : (s.toList == [104, 105, 103, 104]) = false) (h3 : (s.toList == [108, 111, 119]) = false) (hl : s.size ≤ 30) (A0 : Ans s.data.toList V B) :
    Calls Tryd.prog 4 #[.string s] w (fb V B w) := by
  have hl' : ¬ (30 : Int) < (s.size : Int) := by omega
  have A : Hid (Ans s.data.toList V B) := A0
  have F0 : Hid (V = 0 ∧ B = false → ∀ w', Below w.heap.size w w' → fb V B w (.returned (.tuple #[.float .f64 0, .bool false])) w') := fun h w' hb => by
    obtain ⟨rfl, rfl⟩ := h
    exact ⟨⟨0, rfl, by decide +kernel⟩, hb⟩
  have SP : Hid (∀ (z : Int) (p : Nat) (w : World), z.natAbs ≤ 1000000000000000 → p ≤ 6 → Calls Tryd.prog 9 #[.int .i64 z, .int .i64 p] w fun e w' => e = .returned (.string ⟨(tz z p).toArray⟩) ∧ Below w.heap.size w w') := fun z p w a b => spoint z p w a b
  have LT : Hid (∀ (p : Nat) (w : World), p ≤ 6 → Calls Tryd.prog 10 #[.int .i64 p] w fun e w' => e = .returned (.int .i64 ((10 : Int) ^ p)) ∧ w' = w) := fun p w h => lten_any p w h
  have DG : Hid (∀ (b : Nat) (w : World), Calls Tryd.prog 8 #[.int .u8 b] w fun e w' => e = .returned (.bool (decide (48 ≤ b) && decide (b ≤ 57))) ∧ w' = w) := fun b w => sdigit b w
  clear A0
  obtain ⟨Q, hQ⟩ : ∃ Q : Ending → World → Prop, Q = fb V B w := ⟨_, rfl⟩
  rw [← hQ] at F0 ⊢
  have HQ : Hid (Q = fb V B w) := hQ
  clear hQ
  go_enter Tryd.func4, Tryd.ntmps4
  go_wp2_with fail
  go_loop [5, 6, 7] (fun x y t => ∃ (i n : Nat) (q : Option Nat), i ≤ s.size ∧ t = .int .i64 i ∧ x = .int .i64 n ∧ Hid (y = .int .i64 (qz q)) ∧ n ≤ 10000000000000010 ∧ (∀ k, q = some k → k ≤ i) ∧ Hid (scan true 0 none s.data.toList = scan (decide (i = 0)) n q (s.data.toList.drop i))) (fun _ _ t => s.size - (intOf t).toNat)
  case atStart => exact ⟨0, 0, none, Nat.zero_le _, rfl, rfl, rfl, by omega, fun k h => (by cases h), rfl⟩
  case round =>
    obtain ⟨i, n, q, hi, rfl, rfl, HY, hn, hq, HS⟩ := hrel
    have hy := HY.out
    subst hy
    clear HY
    by_cases hlt : i < s.size
    · have ix := fun w => idx9 w s i hlt
      have hb : s[i].toNat < 256 := s[i].toNat_lt
      have SC : Hid (scan true 0 none s.data.toList = _) := HS.out.trans (by rw [drop_at s i hlt, scan_cons])
      obtain ⟨b, hbb⟩ : ∃ b, b = s[i] := ⟨_, rfl⟩
      rw [← hbb] at ix hb SC
      clear hbb HS
      by_cases c46 : b = 46 ∧ q = none
      · have SC' : Hid (scan true 0 none s.data.toList = scan (decide (i + 1 = 0)) n (some 0) (s.data.toList.drop (i + 1))) := by
          show _ = _
          rw [SC.out, if_pos c46, decide_eq_false (by omega)]
        obtain ⟨rfl, rfl⟩ := c46
        have e1 : ((46 : Int) == 46) = true := rfl
        have e2 : ((46 : UInt8).toNat : Int) = 46 := rfl
        rw [e2] at ix
        have q0 : qz none = -1 := rfl
        rw [q0]
        clear SC
        go_wp2_with fail
        go_round
        case rel => exact ⟨i + 1, n, some 0, by omega, by go_num, rfl, rfl, hn, fun k h => by have := Option.some.inj h; omega, SC'⟩
        case measure => simp [intOf]; omega
      · have SC2 : Hid (scan true 0 none s.data.toList = if isD b then (if 1000000000000000 < n then none else scan false (n * 10 + (b.toNat - 48)) (q.map (· + 1)) (s.data.toList.drop (i + 1))) else if decide (i = 0) = true ∧ b = 45 then scan false n q (s.data.toList.drop (i + 1)) else none) := by
          show _ = _
          rw [SC.out, if_neg c46]
        clear SC
        cases hd : isD b
        · -- no digit
          have DB : Hid (∀ w, Calls Tryd.prog 8 #[.int .u8 b.toNat] w fun e w' => e = .returned (.bool false) ∧ w' = w) := fun w => by
            have := DG.out b.toNat w
            have hd' : (decide (48 ≤ b.toNat) && decide (b.toNat ≤ 57)) = false := hd
            rw [hd'] at this
            exact this
          have t46 : ((b.toNat : Int) == 46) = false ∨ ((b.toNat : Int) == 46) = true ∧ ∃ k : Nat, qz q = (k : Int) := by
            by_cases e : b = 46
            · refine .inr ⟨by rw [e]; rfl, ?_⟩
              cases q with
              | none => exact absurd ⟨e, rfl⟩ c46
              | some k => exact ⟨k, rfl⟩
            · exact .inl (by rw [beq_eq_false_iff_ne]; intro x; exact e (UInt8.toNat_inj.1 (by show b.toNat = 46; omega)))
          by_cases cs : i = 0 ∧ b = 45
          · obtain ⟨hi0, rfl⟩ := cs
            have SC' : Hid (scan true 0 none s.data.toList = scan (decide (i + 1 = 0)) n q (s.data.toList.drop (i + 1))) := by
              show _ = _
              rw [SC2.out, hd, if_neg (by decide), if_pos ⟨by rw [hi0]; rfl, rfl⟩, decide_eq_false (by omega)]
            subst hi0
            have ix0 : ∀ w, (Instr.index 9 (.string s) (.int .i64 0)).run Tryd.prog w = .ok (.int .u8 45) w := ix
            have DB0 : Hid (∀ w, Calls Tryd.prog 8 #[.int .u8 45] w fun e w' => e = .returned (.bool false) ∧ w' = w) := DB.out
            clear t46 SC2 hd c46 ix DB
            go_wp2_with fail
            refine (DB0.out _).mono ?_
            rintro e wz ⟨rfl, hw⟩
            have hw' := hw.symm
            subst hw'
            clear hw
            go_wp2_with fail
            go_round
            case rel => exact ⟨1, n, q, by omega, rfl, rfl, rfl, hn, fun k h => by have := hq k h; omega, SC'⟩
            case measure => simp [intOf]; omega
          · have DE : Hid (V = 0 ∧ B = false) := by
              refine A.out.dead ?_
              rw [SC2.out, hd, if_neg (by decide), if_neg (fun x => cs ⟨by simpa using x.1, x.2⟩)]
            have ts : (0 : Int) < (i : Int) ∨ i = 0 ∧ ((b.toNat : Int) != 45) = true := by
              by_cases c0 : i = 0
              · refine .inr ⟨c0, ?_⟩
                rw [bne_iff_ne]
                intro x
                exact cs ⟨c0, UInt8.toNat_inj.1 (by show b.toNat = 45; omega)⟩
              · exact .inl (by omega)
            clear SC2 hd c46 cs
            generalize b.toNat = z at *
            generalize qz q = y at *
            rcases ts with ts | ⟨rfl, ts⟩
            · rcases t46 with t46 | ⟨t46, k, rfl⟩
              all_goals
                go_wp2_with fail
                refine (DB.out _).mono ?_
                rintro e wz ⟨rfl, hw⟩
                have hw' := hw.symm
                subst hw'
                clear hw
                go_wp2_with fail
                exact F0.out DE.out _ (Below.refl _ _)
            · have ix0 : ∀ w, (Instr.index 9 (.string s) (.int .i64 0)).run Tryd.prog w = .ok (.int .u8 (z : Int)) w := ix
              clear ix
              rcases t46 with t46 | ⟨t46, k, rfl⟩
              all_goals
                go_wp2_with fail
                refine (DB.out _).mono ?_
                rintro e wz ⟨rfl, hw⟩
                have hw' := hw.symm
                subst hw'
                clear hw
                go_wp2_with fail
                exact F0.out DE.out _ (Below.refl _ _)
        · -- a digit
          have hne := isD_ne hd
          have hdd : 48 ≤ b.toNat ∧ b.toNat ≤ 57 := by unfold isD at hd; simpa using hd
          have DB : Hid (∀ w, Calls Tryd.prog 8 #[.int .u8 b.toNat] w fun e w' => e = .returned (.bool true) ∧ w' = w) := fun w => by
            have := DG.out b.toNat w
            have hd' : (decide (48 ≤ b.toNat) && decide (b.toNat ≤ 57)) = true := hd
            rw [hd'] at this
            exact this
          have t46 : ((b.toNat : Int) == 46) = false := by rw [beq_eq_false_iff_ne]; intro x; exact hne.1 (UInt8.toNat_inj.1 (by show b.toNat = 46; omega))
          by_cases cb : 1000000000000000 < n
          · have DE : Hid (V = 0 ∧ B = false) := by
              refine A.out.dead ?_
              rw [SC2.out, hd, if_pos rfl, if_pos cb]
            have cb' : (1000000000000000 : Int) < (n : Int) := by omega
            clear SC2 hd c46 hne
            generalize b.toNat = z at *
            generalize qz q = y at *
            go_wp2_with fail
            refine (DB.out _).mono ?_
            rintro e wz ⟨rfl, hw⟩
            have hw' := hw.symm
            subst hw'
            clear hw
            go_wp2_with fail
            exact F0.out DE.out _ (Below.refl _ _)
          · have SC' : Hid (scan true 0 none s.data.toList = scan (decide (i + 1 = 0)) (n * 10 + (b.toNat - 48)) (q.map (· + 1)) (s.data.toList.drop (i + 1))) := by
              show _ = _
              rw [SC2.out, hd, if_pos rfl, if_neg cb, decide_eq_false (by omega)]
            have cb' : ¬ (1000000000000000 : Int) < (n : Int) := by omega
            have qd : q = none ∨ ∃ k, q = some k := by cases q with | none => exact .inl rfl | some k => exact .inr ⟨k, rfl⟩
            clear SC2 hd c46 hne
            generalize b.toNat = z at *
            rcases qd with rfl | ⟨k, rfl⟩
            · have q0 : qz none = -1 := rfl
              rw [q0]
              go_wp2_with fail
              refine (DB.out _).mono ?_
              rintro e wz ⟨rfl, hw⟩
              have hw' := hw.symm
              subst hw'
              clear hw
              go_wp2_with fail
              go_round
              case rel => exact ⟨i + 1, n * 10 + (z - 48), none, by omega, by go_num, by congr 1; omega, rfl, by omega, fun k h => (by cases h), SC'⟩
              case measure => simp [intOf]; omega
            · have q0 : qz (some k) = (k : Int) := rfl
              have hk := hq k rfl
              rw [q0]
              go_wp2_with fail
              refine (DB.out _).mono ?_
              rintro e wz ⟨rfl, hw⟩
              have hw' := hw.symm
              subst hw'
              clear hw
              go_wp2_with fail
              go_round
              case rel => exact ⟨i + 1, n * 10 + (z - 48), some (k + 1), by omega, by go_num, by congr 1; omega, by show _ = _; congr 1, by omega, fun j h => by have := Option.some.inj h; omega, SC'⟩
              case measure => simp [intOf]; omega
    · have SE : Hid (scan true 0 none s.data.toList = some (n, q)) := by
        show _ = _
        rw [HS.out, List.drop_eq_nil_of_le (by simp; omega)]
        rfl
      have i1 : ¬ (i : Int) < (s.size : Int) := by omega
      by_cases bad : q = some 0 ∨ (∃ k, q = some k ∧ 6 < k) ∨ 1000000000000000 < n
      · have DE : Hid (V = 0 ∧ B = false) := A.out.bad n q SE.out bad
        have bd : ((qz q == 0) = true) ∨ ((qz q == 0) = false ∧ 6 < qz q) ∨ ((qz q == 0) = false ∧ ¬ 6 < qz q ∧ (1000000000000000 : Int) < (n : Int)) := by
          cases q with
          | none =>
            refine .inr (.inr ⟨rfl, by decide, ?_⟩)
            rcases bad with h | ⟨k, h, _⟩ | h
            · cases h
            · cases h
            · omega
          | some k =>
            by_cases c0 : k = 0
            · exact .inl (by rw [c0]; rfl)
            · have e0 : (qz (some k) == 0) = false := by rw [beq_eq_false_iff_ne]; show (k : Int) ≠ 0; omega
              by_cases c6 : 6 < k
              · exact .inr (.inl ⟨e0, by show (6 : Int) < (k : Int); omega⟩)
              · refine .inr (.inr ⟨e0, by show ¬ (6 : Int) < (k : Int); omega, ?_⟩)
                rcases bad with h | ⟨k', h, h'⟩ | h
                · have := Option.some.inj h; omega
                · have := Option.some.inj h; omega
                · omega
        clear HS SE bad hq
        generalize qz q = y at *
        rcases bd with bd | ⟨bd, b2⟩ | ⟨bd, b2, b3⟩
        all_goals
          go_wp2_with fail
          exact F0.out DE.out _ (Below.refl _ _)
      · have nb : n ≤ 1000000000000000 := by
          by_cases c : 1000000000000000 < n
          · exact absurd (.inr (.inr c)) bad
          · omega
        have nb' : ¬ (1000000000000000 : Int) < (n : Int) := by omega
        clear HS
        cases q with
        | none =>
          have q0 : qz none = -1 := rfl
          rw [q0]
          clear bad hq
          by_cases z0 : s.size = 0
          · have NOT : Hid (∀ (z' : Int) (p' : Nat), z'.natAbs ≤ 1000000000000000 → tz z' p' = s.data.toList → z' = (n : Int) ∧ p' = 0) := fun z' p' a e => by
              obtain ⟨x1, x2⟩ := cand SE.out a e
              refine ⟨?_, x2⟩
              rw [if_neg] at x1
              · exact x1
              · have e0 : s.data.toList = [] := List.eq_nil_of_length_eq_zero (by simpa using z0)
                rw [e0]; simp
            have z0' : ¬ (0 : Int) < (s.size : Int) := by omega
            go_wp2_with fail
            refine (SP.out ((n : Int)) 0 _ (by omega) (by omega)).mono ?_
            rintro e w1 ⟨rfl, hb1⟩
            have B1 : Hid (Below w.heap.size w w1) := hb1
            have eb := eq_bytes (tz ((n : Int)) 0) s
            have eb3 := eq_bytes2 (tz ((n : Int)) 0) s
            have eb4 := eq_bytes3 (tz ((n : Int)) 0) s
            have eb2 : (tz ((n : Int)) 0 != s.toList) = !decide (tz ((n : Int)) 0 = s.data.toList) := by
              rw [Lib.toList_data]
              by_cases h : tz ((n : Int)) 0 = s.data.toList
              · rw [h]; simp
              · rw [decide_eq_false h]; simpa using h
            clear hb1
            by_cases hz : tz ((n : Int)) 0 = s.data.toList
            · obtain ⟨hV, hB⟩ := A.out.yes ((n : Int)) 0 (by omega) (by omega) hz
              have HV : Hid (V = opF .quo (cn (floatOfInt .f64 ((n : Int)))) (cn (tenF 0)) ∧ B = true) := ⟨hV, hB⟩
              rw [decide_eq_true hz] at eb eb2 eb3 eb4
              have t10 := ten_int 0 (by omega)
              have hqu : ∀ x y w, (binOp .quo 22 (.float .f64 x) (.float .f64 y)).run Tryd.prog w = .ok (.float .f64 (opB .quo x y w)) (w.drewN (opD .quo x y)) := fun x y w => run_op Tryd.prog .quo (.inr (.inr (.inr rfl))) 22 x y w
              clear hV hB hz NOT
              generalize tz ((n : Int)) 0 = T at *
              go_wp2_with fail
              refine (LT.out 0 _ (by omega)).mono ?_
              rintro e wz ⟨rfl, hw⟩
              have hw' := hw.symm
              subst hw'
              clear hw
              go_wp2_with fail
              rw [HQ.out]
              refine ⟨⟨?vx1, ?va1, ?vb1⟩, belowN B1.out _⟩
              case va1 => rw [HV.out.2]; rfl
              case vb1 => rw [HV.out.1]; exact cn_op _ _ _ _
            · have DE : Hid (V = 0 ∧ B = false) := A.out.no (fun z' p' a1 a2 e => by
                obtain ⟨x1, x2⟩ := NOT.out z' p' a1 e
                rw [x1, x2] at e
                exact hz e)
              rw [decide_eq_false hz] at eb eb2 eb3 eb4
              clear hz NOT
              generalize tz ((n : Int)) 0 = T at *
              go_wp2_with fail
              exact F0.out DE.out _ B1.out
          · have z0' : (0 : Int) < (s.size : Int) := by omega
            have z1 : 0 < s.size := by omega
            have ix0 : ∀ w, (Instr.index 9 (.string s) (.int .i64 0)).run Tryd.prog w = .ok (.int .u8 (s[0].toNat : Int)) w := fun w => idx9 w s 0 z1
            have ha := head_at s z1
            by_cases c45 : s[0].toNat = 45
            · have NOT : Hid (∀ (z' : Int) (p' : Nat), z'.natAbs ≤ 1000000000000000 → tz z' p' = s.data.toList → z' = -(n : Int) ∧ p' = 0) := fun z' p' a e => by
                obtain ⟨x1, x2⟩ := cand SE.out a e
                rw [if_pos (ha.2 c45)] at x1
                exact ⟨x1, x2⟩
              have t45 : ((s[0].toNat : Int) == 45) = true := by rw [c45]; rfl
              clear ha c45
              generalize (s[0].toNat : Int) = fb0 at *
              go_wp2_with fail
              refine (SP.out (-(n : Int)) 0 _ (by omega) (by omega)).mono ?_
              rintro e w1 ⟨rfl, hb1⟩
              have B1 : Hid (Below w.heap.size w w1) := hb1
              have eb := eq_bytes (tz (-(n : Int)) 0) s
              have eb3 := eq_bytes2 (tz (-(n : Int)) 0) s
              have eb4 := eq_bytes3 (tz (-(n : Int)) 0) s
              have eb2 : (tz (-(n : Int)) 0 != s.toList) = !decide (tz (-(n : Int)) 0 = s.data.toList) := by
                rw [Lib.toList_data]
                by_cases h : tz (-(n : Int)) 0 = s.data.toList
                · rw [h]; simp
                · rw [decide_eq_false h]; simpa using h
              clear hb1
              by_cases hz : tz (-(n : Int)) 0 = s.data.toList
              · obtain ⟨hV, hB⟩ := A.out.yes (-(n : Int)) 0 (by omega) (by omega) hz
                have HV : Hid (V = opF .quo (cn (floatOfInt .f64 (-(n : Int)))) (cn (tenF 0)) ∧ B = true) := ⟨hV, hB⟩
                rw [decide_eq_true hz] at eb eb2 eb3 eb4
                have t10 := ten_int 0 (by omega)
                have hqu : ∀ x y w, (binOp .quo 22 (.float .f64 x) (.float .f64 y)).run Tryd.prog w = .ok (.float .f64 (opB .quo x y w)) (w.drewN (opD .quo x y)) := fun x y w => run_op Tryd.prog .quo (.inr (.inr (.inr rfl))) 22 x y w
                clear hV hB hz NOT
                generalize tz (-(n : Int)) 0 = T at *
                go_wp2_with fail
                refine (LT.out 0 _ (by omega)).mono ?_
                rintro e wz ⟨rfl, hw⟩
                have hw' := hw.symm
                subst hw'
                clear hw
                go_wp2_with fail
                rw [HQ.out]
                refine ⟨⟨?vx2, ?va2, ?vb2⟩, belowN B1.out _⟩
                case va2 => rw [HV.out.2]; rfl
                case vb2 => rw [HV.out.1]; exact cn_op _ _ _ _
              · have DE : Hid (V = 0 ∧ B = false) := A.out.no (fun z' p' a1 a2 e => by
                  obtain ⟨x1, x2⟩ := NOT.out z' p' a1 e
                  rw [x1, x2] at e
                  exact hz e)
                rw [decide_eq_false hz] at eb eb2 eb3 eb4
                clear hz NOT
                generalize tz (-(n : Int)) 0 = T at *
                go_wp2_with fail
                exact F0.out DE.out _ B1.out
            · have NOT : Hid (∀ (z' : Int) (p' : Nat), z'.natAbs ≤ 1000000000000000 → tz z' p' = s.data.toList → z' = (n : Int) ∧ p' = 0) := fun z' p' a e => by
                obtain ⟨x1, x2⟩ := cand SE.out a e
                rw [if_neg (fun x => c45 (ha.1 x))] at x1
                exact ⟨x1, x2⟩
              have t45 : ((s[0].toNat : Int) == 45) = false := by rw [beq_eq_false_iff_ne]; omega
              clear ha c45
              generalize (s[0].toNat : Int) = fb0 at *
              go_wp2_with fail
              refine (SP.out ((n : Int)) 0 _ (by omega) (by omega)).mono ?_
              rintro e w1 ⟨rfl, hb1⟩
              have B1 : Hid (Below w.heap.size w w1) := hb1
              have eb := eq_bytes (tz ((n : Int)) 0) s
              have eb3 := eq_bytes2 (tz ((n : Int)) 0) s
              have eb4 := eq_bytes3 (tz ((n : Int)) 0) s
              have eb2 : (tz ((n : Int)) 0 != s.toList) = !decide (tz ((n : Int)) 0 = s.data.toList) := by
                rw [Lib.toList_data]
                by_cases h : tz ((n : Int)) 0 = s.data.toList
                · rw [h]; simp
                · rw [decide_eq_false h]; simpa using h
              clear hb1
              by_cases hz : tz ((n : Int)) 0 = s.data.toList
              · obtain ⟨hV, hB⟩ := A.out.yes ((n : Int)) 0 (by omega) (by omega) hz
                have HV : Hid (V = opF .quo (cn (floatOfInt .f64 ((n : Int)))) (cn (tenF 0)) ∧ B = true) := ⟨hV, hB⟩
                rw [decide_eq_true hz] at eb eb2 eb3 eb4
                have t10 := ten_int 0 (by omega)
                have hqu : ∀ x y w, (binOp .quo 22 (.float .f64 x) (.float .f64 y)).run Tryd.prog w = .ok (.float .f64 (opB .quo x y w)) (w.drewN (opD .quo x y)) := fun x y w => run_op Tryd.prog .quo (.inr (.inr (.inr rfl))) 22 x y w
                clear hV hB hz NOT
                generalize tz ((n : Int)) 0 = T at *
                go_wp2_with fail
                refine (LT.out 0 _ (by omega)).mono ?_
                rintro e wz ⟨rfl, hw⟩
                have hw' := hw.symm
                subst hw'
                clear hw
                go_wp2_with fail
                rw [HQ.out]
                refine ⟨⟨?vx3, ?va3, ?vb3⟩, belowN B1.out _⟩
                case va3 => rw [HV.out.2]; rfl
                case vb3 => rw [HV.out.1]; exact cn_op _ _ _ _
              · have DE : Hid (V = 0 ∧ B = false) := A.out.no (fun z' p' a1 a2 e => by
                  obtain ⟨x1, x2⟩ := NOT.out z' p' a1 e
                  rw [x1, x2] at e
                  exact hz e)
                rw [decide_eq_false hz] at eb eb2 eb3 eb4
                clear hz NOT
                generalize tz ((n : Int)) 0 = T at *
                go_wp2_with fail
                exact F0.out DE.out _ B1.out
        | some k =>
          have kp : k ≠ 0 ∧ k ≤ 6 := by
            refine ⟨fun c => bad (.inl (by rw [c])), ?_⟩
            by_cases c : 6 < k
            · exact absurd (.inr (.inl ⟨k, rfl, c⟩)) bad
            · omega
          have q0 : qz (some k) = (k : Int) := rfl
          rw [q0]
          obtain ⟨kp1, kp2⟩ := kp
          have k1 : ((k : Int) == 0) = false := by rw [beq_eq_false_iff_ne]; omega
          have k2 : ¬ 6 < (k : Int) := by omega
          have k3 : (0 : Int) ≤ (k : Int) := by omega
          have k4 : max (k : Int) 0 = (k : Int) := by omega
          clear bad hq
          by_cases z0 : s.size = 0
          · have NOT : Hid (∀ (z' : Int) (p' : Nat), z'.natAbs ≤ 1000000000000000 → tz z' p' = s.data.toList → z' = (n : Int) ∧ p' = k) := fun z' p' a e => by
              obtain ⟨x1, x2⟩ := cand SE.out a e
              refine ⟨?_, x2⟩
              rw [if_neg] at x1
              · exact x1
              · have e0 : s.data.toList = [] := List.eq_nil_of_length_eq_zero (by simpa using z0)
                rw [e0]; simp
            have z0' : ¬ (0 : Int) < (s.size : Int) := by omega
            go_wp2_with fail
            refine (SP.out ((n : Int)) k _ (by omega) (by omega)).mono ?_
            rintro e w1 ⟨rfl, hb1⟩
            have B1 : Hid (Below w.heap.size w w1) := hb1
            have eb := eq_bytes (tz ((n : Int)) k) s
            have eb3 := eq_bytes2 (tz ((n : Int)) k) s
            have eb4 := eq_bytes3 (tz ((n : Int)) k) s
            have eb2 : (tz ((n : Int)) k != s.toList) = !decide (tz ((n : Int)) k = s.data.toList) := by
              rw [Lib.toList_data]
              by_cases h : tz ((n : Int)) k = s.data.toList
              · rw [h]; simp
              · rw [decide_eq_false h]; simpa using h
            clear hb1
            by_cases hz : tz ((n : Int)) k = s.data.toList
            · obtain ⟨hV, hB⟩ := A.out.yes ((n : Int)) k (by omega) (by omega) hz
              have HV : Hid (V = opF .quo (cn (floatOfInt .f64 ((n : Int)))) (cn (tenF k)) ∧ B = true) := ⟨hV, hB⟩
              rw [decide_eq_true hz] at eb eb2 eb3 eb4
              have t10 := ten_int k (by omega)
              have hqu : ∀ x y w, (binOp .quo 22 (.float .f64 x) (.float .f64 y)).run Tryd.prog w = .ok (.float .f64 (opB .quo x y w)) (w.drewN (opD .quo x y)) := fun x y w => run_op Tryd.prog .quo (.inr (.inr (.inr rfl))) 22 x y w
              clear hV hB hz NOT
              generalize tz ((n : Int)) k = T at *
              go_wp2_with fail
              refine (LT.out k _ (by omega)).mono ?_
              rintro e wz ⟨rfl, hw⟩
              have hw' := hw.symm
              subst hw'
              clear hw
              go_wp2_with fail
              rw [HQ.out]
              refine ⟨⟨?vx4, ?va4, ?vb4⟩, belowN B1.out _⟩
              case va4 => rw [HV.out.2]; rfl
              case vb4 => rw [HV.out.1]; exact cn_op _ _ _ _
            · have DE : Hid (V = 0 ∧ B = false) := A.out.no (fun z' p' a1 a2 e => by
                obtain ⟨x1, x2⟩ := NOT.out z' p' a1 e
                rw [x1, x2] at e
                exact hz e)
              rw [decide_eq_false hz] at eb eb2 eb3 eb4
              clear hz NOT
              generalize tz ((n : Int)) k = T at *
              go_wp2_with fail
              exact F0.out DE.out _ B1.out
          · have z0' : (0 : Int) < (s.size : Int) := by omega
            have z1 : 0 < s.size := by omega
            have ix0 : ∀ w, (Instr.index 9 (.string s) (.int .i64 0)).run Tryd.prog w = .ok (.int .u8 (s[0].toNat : Int)) w := fun w => idx9 w s 0 z1
            have ha := head_at s z1
            by_cases c45 : s[0].toNat = 45
            · have NOT : Hid (∀ (z' : Int) (p' : Nat), z'.natAbs ≤ 1000000000000000 → tz z' p' = s.data.toList → z' = -(n : Int) ∧ p' = k) := fun z' p' a e => by
                obtain ⟨x1, x2⟩ := cand SE.out a e
                rw [if_pos (ha.2 c45)] at x1
                exact ⟨x1, x2⟩
              have t45 : ((s[0].toNat : Int) == 45) = true := by rw [c45]; rfl
              clear ha c45
              generalize (s[0].toNat : Int) = fb0 at *
              go_wp2_with fail
              refine (SP.out (-(n : Int)) k _ (by omega) (by omega)).mono ?_
              rintro e w1 ⟨rfl, hb1⟩
              have B1 : Hid (Below w.heap.size w w1) := hb1
              have eb := eq_bytes (tz (-(n : Int)) k) s
              have eb3 := eq_bytes2 (tz (-(n : Int)) k) s
              have eb4 := eq_bytes3 (tz (-(n : Int)) k) s
              have eb2 : (tz (-(n : Int)) k != s.toList) = !decide (tz (-(n : Int)) k = s.data.toList) := by
                rw [Lib.toList_data]
                by_cases h : tz (-(n : Int)) k = s.data.toList
                · rw [h]; simp
                · rw [decide_eq_false h]; simpa using h
              clear hb1
              by_cases hz : tz (-(n : Int)) k = s.data.toList
              · obtain ⟨hV, hB⟩ := A.out.yes (-(n : Int)) k (by omega) (by omega) hz
                have HV : Hid (V = opF .quo (cn (floatOfInt .f64 (-(n : Int)))) (cn (tenF k)) ∧ B = true) := ⟨hV, hB⟩
                rw [decide_eq_true hz] at eb eb2 eb3 eb4
                have t10 := ten_int k (by omega)
                have hqu : ∀ x y w, (binOp .quo 22 (.float .f64 x) (.float .f64 y)).run Tryd.prog w = .ok (.float .f64 (opB .quo x y w)) (w.drewN (opD .quo x y)) := fun x y w => run_op Tryd.prog .quo (.inr (.inr (.inr rfl))) 22 x y w
                clear hV hB hz NOT
                generalize tz (-(n : Int)) k = T at *
                go_wp2_with fail
                refine (LT.out k _ (by omega)).mono ?_
                rintro e wz ⟨rfl, hw⟩
                have hw' := hw.symm
                subst hw'
                clear hw
                go_wp2_with fail
                rw [HQ.out]
                refine ⟨⟨?vx5, ?va5, ?vb5⟩, belowN B1.out _⟩
                case va5 => rw [HV.out.2]; rfl
                case vb5 => rw [HV.out.1]; exact cn_op _ _ _ _
              · have DE : Hid (V = 0 ∧ B = false) := A.out.no (fun z' p' a1 a2 e => by
                  obtain ⟨x1, x2⟩ := NOT.out z' p' a1 e
                  rw [x1, x2] at e
                  exact hz e)
                rw [decide_eq_false hz] at eb eb2 eb3 eb4
                clear hz NOT
                generalize tz (-(n : Int)) k = T at *
                go_wp2_with fail
                exact F0.out DE.out _ B1.out
            · have NOT : Hid (∀ (z' : Int) (p' : Nat), z'.natAbs ≤ 1000000000000000 → tz z' p' = s.data.toList → z' = (n : Int) ∧ p' = k) := fun z' p' a e => by
                obtain ⟨x1, x2⟩ := cand SE.out a e
                rw [if_neg (fun x => c45 (ha.1 x))] at x1
                exact ⟨x1, x2⟩
              have t45 : ((s[0].toNat : Int) == 45) = false := by rw [beq_eq_false_iff_ne]; omega
              clear ha c45
              generalize (s[0].toNat : Int) = fb0 at *
              go_wp2_with fail
              refine (SP.out ((n : Int)) k _ (by omega) (by omega)).mono ?_
              rintro e w1 ⟨rfl, hb1⟩
              have B1 : Hid (Below w.heap.size w w1) := hb1
              have eb := eq_bytes (tz ((n : Int)) k) s
              have eb3 := eq_bytes2 (tz ((n : Int)) k) s
              have eb4 := eq_bytes3 (tz ((n : Int)) k) s
              have eb2 : (tz ((n : Int)) k != s.toList) = !decide (tz ((n : Int)) k = s.data.toList) := by
                rw [Lib.toList_data]
                by_cases h : tz ((n : Int)) k = s.data.toList
                · rw [h]; simp
                · rw [decide_eq_false h]; simpa using h
              clear hb1
              by_cases hz : tz ((n : Int)) k = s.data.toList
              · obtain ⟨hV, hB⟩ := A.out.yes ((n : Int)) k (by omega) (by omega) hz
                have HV : Hid (V = opF .quo (cn (floatOfInt .f64 ((n : Int)))) (cn (tenF k)) ∧ B = true) := ⟨hV, hB⟩
                rw [decide_eq_true hz] at eb eb2 eb3 eb4
                have t10 := ten_int k (by omega)
                have hqu : ∀ x y w, (binOp .quo 22 (.float .f64 x) (.float .f64 y)).run Tryd.prog w = .ok (.float .f64 (opB .quo x y w)) (w.drewN (opD .quo x y)) := fun x y w => run_op Tryd.prog .quo (.inr (.inr (.inr rfl))) 22 x y w
                clear hV hB hz NOT
                generalize tz ((n : Int)) k = T at *
                go_wp2_with fail
                refine (LT.out k _ (by omega)).mono ?_
                rintro e wz ⟨rfl, hw⟩
                have hw' := hw.symm
                subst hw'
                clear hw
                go_wp2_with fail
                rw [HQ.out]
                refine ⟨⟨?vx6, ?va6, ?vb6⟩, belowN B1.out _⟩
                case va6 => rw [HV.out.2]; rfl
                case vb6 => rw [HV.out.1]; exact cn_op _ _ _ _
              · have DE : Hid (V = 0 ∧ B = false) := A.out.no (fun z' p' a1 a2 e => by
                  obtain ⟨x1, x2⟩ := NOT.out z' p' a1 e
                  rw [x1, x2] at e
                  exact hz e)
                rw [decide_eq_false hz] at eb eb2 eb3 eb4
                clear hz NOT
                generalize tz ((n : Int)) k = T at *
                go_wp2_with fail
                exact F0.out DE.out _ B1.out
end Go.Proofs.YtpgdhmmhnjgeeaaDoor.Dec
