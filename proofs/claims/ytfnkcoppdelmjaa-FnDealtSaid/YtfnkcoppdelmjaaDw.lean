/- The law of what is dealt. -/
import Derived.Test.YtfnkcoppdelmjaaDd
import Derived.BigRegion
namespace Go.Proofs.Ytfnkcoppdelmjaa.Dl
open Go.ChangeShapes Go.WideShapes Go.ChangeAt Go.RowKit
open Al Eo Lists
theorem fnd_before {U : List Int} {z B : Int} {j : Nat} (h : j < fnd U z B) : B < U.getD j 0 + z := by
  have hl : j < U.length := Nat.lt_of_lt_of_le h (fnd_le U z B)
  have := List.not_of_lt_findIdx (xs := U) (p := fun u => decide (u + z ≤ B)) h
  have e : U.getD j 0 = U[j] := by simp [List.getD_eq_getElem?_getD, hl]
  rw [e]
  simpa using this
theorem okD_false {L : En.Ls} {B S : Int} (h : (decide (L.length ≤ 300) && (inn B 0 1000000000000 && inn S 1 100)) = false) : okD L B S = false := by
  unfold okD okE
  cases h1 : decide (L.length ≤ 300) <;> cases h2 : inn B 0 1000000000000 <;> cases h3 : inn S 1 100 <;> simp_all
theorem sdeal_all (L : En.Ls) (v : Value) (B S : Int) (w : World) (h : En.Reads w v L) (hf : Ft L) : Calls Try.prog 12 #[v, .int .i64 B, .int .i64 S] w fun e w' => ∃ a n c, e = .returned (.tuple #[.slice a n c, .bool (okD L B S)]) ∧ Below w.heap.size w w' := by
  cases q : (decide (L.length ≤ 300) && (inn B 0 1000000000000 && inn S 1 100))
  · refine (sdeal_no L v B S w h q).mono ?_
    rintro e w' ⟨u0, rfl, ho, hb⟩
    obtain ⟨a, c, rfl⟩ := form_of ho rfl
    exact ⟨a, 0, c, by rw [okD_false q], hb⟩
  · simp only [Bool.and_eq_true, decide_eq_true_eq] at q
    obtain ⟨q1, q2, q3⟩ := q
    have hs := (inn_iff _ _ _).1 q3
    obtain ⟨n, rfl⟩ : ∃ n : Nat, S = (n : Int) := ⟨S.toNat, by omega⟩
    refine (sdeal_any L v B n w h hf q1 q2 q3 _ rfl).mono ?_
    rintro e w' ⟨u0, rfl, ho, hb⟩
    obtain ⟨a, c, rfl⟩ := form_of ho rfl
    have e : okD L B n = okE L := by unfold okD; rw [q2, q3]; simp
    exact ⟨a, _, c, by rw [e], hb⟩
structure DU (bs n : Nat) (w2 wr : World) (U : List Int) : Prop where
  us : wr.ownsRow bs 2 1 (.slice (some ⟨bs, 0, none⟩) n n) n (ints U)
  bl : Below bs w2 wr
theorem DU.drew {bs n : Nat} {w2 wr : World} {U : List Int} (h : DU bs n w2 wr U) : DU bs n w2 wr.drew U := ⟨h.us, h.bl.drew⟩
theorem DU.set {bs n : Nat} {w2 wr : World} {U : List Int} (h : DU bs n w2 wr U) (f : Nat) (x : Int) : DU bs n w2 (wr.setCell ⟨bs, f, none⟩ (.int .i64 x)) (U.set f x) :=
  ⟨by rw [← Lists.ints_set]; exact (h.us.stored _ _).1, h.bl.setCell (p := ⟨bs, f, none⟩) (Nat.le_refl _) _⟩

set_option maxRecDepth 20000 in
set_option maxHeartbeats 4000000 in
theorem dealtLaw0 (HE : Ed.EntryC) (a : Option Addr) (len cap : Nat) (w : World) (hc : Go.Proofs.Ytfnkcoppdelmjaa.Rd.Code w a len cap) (hn : len < 9223372036854775808) : Calls Try.prog 4 #[.slice a len cap] w fun e w' => e = .returned (.bool true) ∧ Below w.heap.size w w' := by
  by_cases hl : 1048576 < len
  · have C : Hid (Calls Try.prog 5 #[.slice a len cap] w fun e w' => e = .returned (.bool true) ∧ w' = w) := Rd.big_yes a len cap w hl hn
    clear hc
    go_enter Try.func4, Try.ntmps4
    go_wp2_with fail
    refine C.out.mono ?_
    rintro e w1 ⟨rfl, hw⟩
    subst hw
    go_wp2_with fail
    go_ret
    exact ⟨rfl, Below.refl _ _⟩
  have C : Hid (Calls Try.prog 5 #[.slice a len cap] w fun e w' => e = .returned (.bool false) ∧ w' = w) := Rd.big_no a len cap w (by omega)
  have D : Hid (Calls Try.prog 11 #[.slice a len cap] w fun e w' => ∃ v L, ∃ B S : Int, e = .returned (.tuple #[v, .int .i64 B, .int .i64 S]) ∧ En.Reads w' v L ∧ Ft L ∧ (-1 ≤ B ∧ B ≤ 1000000000001) ∧ (0 ≤ S ∧ S ≤ 101) ∧ Below w.heap.size w w') := Ed.drawdeal_any HE a len cap w hc (by omega)
  clear hc HE
  go_enter Try.func4, Try.ntmps4
  go_wp2_with fail
  refine C.out.mono ?_
  rintro e w1 ⟨rfl, hw⟩
  have hw' := hw.symm
  subst hw'
  clear hw
  go_wp2_with fail
  refine D.out.mono ?_
  rintro e w1 ⟨v, L, B, S, rfl, rL, fL, hB, hS, hb⟩
  have B1 : Hid (Below w.heap.size w w1) := hb
  have SA : Hid (Calls Try.prog 12 #[v, .int .i64 B, .int .i64 S] w1 fun e w' => ∃ a n c, e = .returned (.tuple #[.slice a n c, .bool (okD L B S)]) ∧ Below w1.heap.size w1 w') := sdeal_all L v B S w1 rL fL
  cases ho : okD L B S
  · have IA : Hid (∀ w2, Below w1.heap.size w1 w2 → Calls Try.prog 13 #[v, .int .i64 B, .int .i64 S] w2 fun e w' => ∃ a c, e = .returned (.tuple #[.slice a 0 c, .bool false]) ∧ Below w2.heap.size w2 w') := fun w2 hb => (ideal_no L v B S w2 (rL.on hb) fL ho).mono (by
      rintro e w' ⟨u0, rfl, ho, hb⟩
      obtain ⟨a, c, rfl⟩ := form_of ho rfl
      exact ⟨a, c, rfl, hb⟩)
    rw [ho] at SA
    obtain ⟨sa, sc, hv⟩ := rL.form
    subst hv
    clear ho rL fL hb C D
    go_wp2_with fail
    refine SA.out.mono ?_
    rintro e w2 ⟨a2, n2, c2, rfl, b2⟩
    have B2 : Hid (Below w1.heap.size w1 w2) := b2
    clear b2 SA
    go_wp2_with fail
    refine (IA.out w2 B2.out).mono ?_
    rintro e w3 ⟨a3, c3, rfl, b3⟩
    have B3 : Hid (Below w.heap.size w w3) := (B1.out.trans (B2.out.mono B1.out.size)).trans (b3.mono (Nat.le_trans B1.out.size B2.out.size))
    clear b3 IA
    go_wp2_with fail
    go_ret
    exact ⟨rfl, B3.out⟩
  · have hoo := ho
    unfold okD at hoo
    simp only [Bool.and_eq_true] at hoo
    obtain ⟨ok1, ok2, ok3⟩ := hoo
    have b01 := (inn_iff _ _ _).1 ok2
    have s01 := (inn_iff _ _ _).1 ok3
    obtain ⟨n, hnS⟩ : ∃ n : Nat, S = (n : Int) := ⟨S.toNat, by omega⟩
    subst hnS
    have l300 := okE_len ok1
    have IA : Hid (∀ w2, Below w1.heap.size w1 w2 → Calls Try.prog 13 #[v, .int .i64 B, .int .i64 n] w2 fun e w' => ∃ a c, e = .returned (.tuple #[.slice a L.length c, .bool true]) ∧ Lists.Reads w' (.slice a L.length c) (dls L B n L.length) ∧ Below w2.heap.size w2 w') := fun w2 hb => (ideal_yes L v B n w2 (rL.on hb) fL ho).mono (by
      rintro e w' ⟨u0, rfl, ho, hb⟩
      obtain ⟨a, c, rfl⟩ := form_of ho rfl
      have := Lists.reads_row ho
      rw [dls_len] at this
      exact ⟨a, c, by rw [dls_len], this, hb⟩)
    have HZ : Hid (∀ k, k < L.length → 0 ≤ En.c4 L k ∧ En.c4 L k ≤ 1000000000) := fun k hk => ek_size (okE_at ok1 k hk)
    have HRL : Hid (En.Reads w1 v L) := rL
    obtain ⟨sa, sc, hv⟩ := rL.form
    subst hv
    obtain ⟨m, hm⟩ : ∃ m, m = L.length := ⟨_, rfl⟩
    have HM : Hid (m = L.length) := hm
    rw [ho] at SA
    rw [← hm] at SA IA HZ HRL l300 ⊢
    obtain ⟨i0, hi, hz0, hz1, hz2⟩ := info_parts Lists.Try.info2
    clear ho rL fL hb C D ok1 ok2 ok3 hm
    go_wp2_with fail
    refine SA.out.mono ?_
    rintro e w2 ⟨a2, n2, c2, rfl, b2⟩
    have B2 : Hid (Below w1.heap.size w1 w2) := b2
    clear b2 SA
    go_wp2_with fail
    refine (IA.out w2 B2.out).mono ?_
    rintro e w3 ⟨oa, oc, rfl, r3, b3⟩
    have B3 : Hid (Below w1.heap.size w1 w3) := B2.out.trans (b3.mono B2.out.size)
    have BW : Hid (Below w.heap.size w w3) := B1.out.trans (B3.out.mono B1.out.size)
    have HL : Hid (∀ (wr : World) (i : Nat), Below w3.heap.size w3 wr → i < m → ∃ b o, sa = some ⟨b, o, none⟩ ∧ b ≠ w3.heap.size ∧ wr.cell? ⟨b, o + i * 5 + 4, none⟩ = some (.int .i64 (En.c4 L i))) := fun wr i hb hi => (by
      have rr := HRL.out.on B3.out
      rw [HM.out] at hi rr
      rcases rr with ⟨rfl, _⟩ | ⟨b, o, c, e, _, _, x, y⟩
      · simp at hi
      · simp at e; exact ⟨b, o, e.1, by omega, ((y i hi).below hb x).2.2.2.2⟩)
    have HO : Hid (∀ (wr : World) (i : Nat), Below w3.heap.size w3 wr → i < m → ∃ b o, oa = some ⟨b, o, none⟩ ∧ b ≠ w3.heap.size ∧ wr.cell? ⟨b, o + i, none⟩ = some (.int .i64 (aw (us L B n i) (En.c4 L i) B))) := fun wr i hb hi => (by
      rcases r3 with ⟨e, _⟩ | ⟨b, o, c, e, _, _, x, y⟩
      · have := dls_len L B n m; rw [e] at this; simp at this; omega
      · simp at e
        have hi' : i < (dls L B n m).length := by rw [dls_len]; exact hi
        have := y i hi'
        rw [dls_at L B n _ i hi] at this
        exact ⟨b, o, e.1, by omega, (hb.cell (p := ⟨b, o + i, none⟩) x).trans this⟩)
    have FN : Hid ((madeCells (Value.int .i64 0).cells (n * 1)).toList = ints (us L B n 0)) := (by
      show _ = _
      apply List.ext_getElem
      · simp [madeCells, ints, us]
      · intro i h1 h2
        simp [madeCells, ints, us, Value.cells, Nat.mod_one])
    clear b3 IA HRL r3
    go_wp2_with (at_make; refine wpList_make_full _ rfl _ _ 33 rfl w3.heap.size 2 i0 (.int .i64 0) 1 Try.underlying33 hi hz0 hz1 .i64 .i64 (n : Int) (n : Int) n rfl rfl rfl rfl (by rw [hz2]; omega) (by unfold maxLen; omega) (Nat.le_refl _) ?_; intro w4 hown hgrow)
    rw [FN.out] at hown
    have D0 : Hid (DU w3.heap.size n w3 w4 (us L B n 0)) := ⟨hown, (Below.refl _ _).grown hgrow (Nat.le_refl _) (fun b hb => by cases hb)⟩
    have BL : Hid (∀ wr, Below w3.heap.size w3 wr → Below w.heap.size w wr) := fun wr hb => BW.out.trans (hb.mono BW.out.size)
    have bs0 : w3.heap.size < w4.heap.size := (hown.lt w3.heap.size rfl).2
    generalize w3.heap.size = bs at *
    clear hown hgrow FN BW B3 B2 B1
    go_wp2_with fail
    go_loopw [11] (fun i wr => ∃ k : Nat, k ≤ m ∧ i = .int .i64 k ∧ Hid (DU bs n w3 wr (us L B n k))) (fun i _ => m - (intOf i).toNat)
    case atStart => exact ⟨0, Nat.zero_le _, rfl, D0⟩
    case round =>
      clear D0
      obtain ⟨k, hk, rfl, D⟩ := hrel
      by_cases hlt : k < m
      · have i0' : (0 : Int) ≤ (k : Int) := by omega
        have i1 : (k : Int) < (m : Int) := by omega
        have hz := HZ.out k hlt
        have BU : Hid (Bd (us L B n k) B) := us_bd L B n b01.1 k (fun i hi => (HZ.out i (by omega)).1)
        have HUL : Hid ((us L B n k).length = n) := us_len L B n k
        have HUN : Hid (us L B n (k + 1) = nxt (us L B n k) (En.c4 L k) B) := rfl
        obtain ⟨b, o, rfl, hbn, junk⟩ := HL.out wr k D.out.bl hlt
        obtain ⟨ob, oo, rfl, hobn, junk2⟩ := HO.out wr k D.out.bl hlt
        clear junk junk2
        have CL : Hid (∀ wr, Below bs w3 wr → wr.cell? ⟨b, o + k * 5 + 4, none⟩ = some (.int .i64 (En.c4 L k))) := fun wr hb => (HL.out wr k hb hlt).elim fun b' x => x.elim fun o' y => by
          have := y.1
          simp at this
          obtain ⟨rfl, rfl⟩ := this
          exact y.2.2
        have CO : Hid (∀ wr, Below bs w3 wr → wr.cell? ⟨ob, oo + k, none⟩ = some (.int .i64 (aw (us L B n k) (En.c4 L k) B))) := fun wr hb => (HO.out wr k hb hlt).elim fun b' x => x.elim fun o' y => by
          have := y.1
          simp at this
          obtain ⟨rfl, rfl⟩ := this
          exact y.2.2
        generalize En.c4 L k = z at *
        generalize us L B n k = U at *
        have NB : Hid (∀ j, j < fnd U z B → B < U.getD j 0 + z) := fun j hj => fnd_before hj
        have FL : Hid (fnd U z B ≤ n) := (by have := fnd_le U z B; rw [HUL.out] at this; exact this)
        have FY : Hid (fnd U z B < n → U.getD (fnd U z B) 0 + z ≤ B) := fun h => fnd_yes (by rw [HUL.out]; exact h)
        have HNX : Hid (nxt U z B = U.set (fnd U z B) (U.getD (fnd U z B) 0 + z)) := rfl
        have HAW : Hid (aw U z B = if fnd U z B < n then (fnd U z B : Int) else -1) := (by show _ = _; unfold aw; rw [HUL.out])
        have hb' : bs ≠ b := fun h => hbn h.symm
        have hob' : bs ≠ ob := fun h => hobn h.symm
        obtain ⟨wo, hwo⟩ : ∃ wo, wo = wr := ⟨_, rfl⟩
        subst hwo
        by_cases hf : fnd U z B < n
        · have tw : aw U z B = ((fnd U z B : Nat) : Int) := by rw [HAW.out, if_pos hf]
          have fy := FY.out hf
          have fb := BU.out (fnd U z B) (by rw [HUL.out]; exact hf)
          rw [tw] at CO
          generalize fnd U z B = f at *
          clear tw HAW FY FL
          have f0 : (0 : Int) ≤ (f : Int) := by omega
          have f1 : (f : Int) < (n : Int) := by omega
          have f2 : ¬ (f : Int) < -1 := by omega
          have f3 : ¬ (f : Int) < 0 := by omega
          have f5 : ¬ (n : Int) ≤ (f : Int) := by omega
          have f6 : -1 ≤ (f : Int) := by omega
          have g1 : decide ((f : Int) < -1) = false := decide_eq_false (by omega)
          have g2 : decide ((n : Int) ≤ (f : Int)) = false := decide_eq_false (by omega)
          have g3 : decide (n ≤ f) = false := decide_eq_false (by omega)
          have g4 : decide ((f : Int) < 0) = false := decide_eq_false (by omega)
          have g5 : ¬ n ≤ f := by omega
          have co := CO.out wo D.out.bl
          go_wp2_with fail
          go_loopw [12] (fun i ws => ∃ s : Nat, s ≤ f ∧ i = .int .i64 s ∧ Hid (DU bs n w3 ws U)) (fun i _ => f - (intOf i).toNat)
          case atStart => exact ⟨0, Nat.zero_le _, rfl, D⟩
          case round =>
            clear D co
            obtain ⟨s, hs, rfl, D⟩ := hrel
            have ul := HUL.out
            have co := CO.out _ D.out.bl
            by_cases hsf : s < f
            · have s0 : (0 : Int) ≤ (s : Int) := by omega
              have s1 : (s : Int) < (n : Int) := by omega
              have s2 : (s : Int) < (f : Int) := by omega
              have cz := CL.out _ D.out.bl
              have cu : wr.cell? ⟨bs, s, none⟩ = some (.int .i64 (U.getD s 0)) := Lists.row_cell (L := U) (cap := n) (base := bs) (by rw [ul]; exact D.out.us) _ (by omega)
              have bu := BU.out s (by omega)
              have nb := NB.out s hsf
              generalize U.getD s 0 = uz at *
              have ew : IntKind.i64.wrap (uz + z) = uz + z := IntWalk.i64_in _ (by omega)
              go_wp2_with fail
              go_region
              all_goals go_wp2_with fail
              all_goals go_roundw
              case rel => exact ⟨s + 1, by omega, by go_num, D.out.drew⟩
              case measure => simp [intOf]; omega
            · have hse : s = f := by omega
              subst hse
              have s1 : (s : Int) < (n : Int) := by omega
              have cz := CL.out _ D.out.bl
              have cu : wr.cell? ⟨bs, s, none⟩ = some (.int .i64 (U.getD s 0)) := Lists.row_cell (L := U) (cap := n) (base := bs) (by rw [ul]; exact D.out.us) _ (by omega)
              have fu : wr.frozen? ⟨bs, s, none⟩ = false := D.out.us.frozenAt _
              have DN : Hid (DU bs n w3 (wr.setCell ⟨bs, s, none⟩ (.int .i64 (U.getD s 0 + z))) (us L B n (k + 1))) := (by show DU _ _ _ _ _; rw [HUN.out, HNX.out]; exact D.out.set _ _)
              generalize U.getD s 0 = uz at *
              have ew : IntKind.i64.wrap (uz + z) = uz + z := IntWalk.i64_in _ (by omega)
              go_wp2_with fail
              go_region
              all_goals go_wp2_with fail
              all_goals go_roundw
              case rel => exact ⟨k + 1, by omega, by go_num, DN.out.drew⟩
              case measure => simp [intOf]; omega
        · have fe : fnd U z B = n := by have := FL.out; omega
          have tw : aw U z B = -1 := by rw [HAW.out, if_neg hf]
          rw [tw] at CO
          rw [fe] at NB HNX
          have NX : Hid (us L B n (k + 1) = U) := (by show _ = _; rw [HUN.out, HNX.out]; exact List.set_eq_of_length_le (by have := HUL.out; omega))
          clear tw HAW FY FL fe hf HNX HUN
          have f2 : ¬ (-1 : Int) < -1 := by omega
          have f4 : (-1 : Int) < (n : Int) := by omega
          have f5 : ¬ (n : Int) ≤ -1 := by omega
          have g2 : decide ((n : Int) ≤ -1) = false := decide_eq_false (by omega)
          have co := CO.out wo D.out.bl
          go_wp2_with fail
          go_loopw [12] (fun i ws => ∃ s : Nat, s ≤ n ∧ i = .int .i64 s ∧ Hid (DU bs n w3 ws U)) (fun i _ => n - (intOf i).toNat)
          case atStart => exact ⟨0, Nat.zero_le _, rfl, D⟩
          case round =>
            clear D co
            obtain ⟨s, hs, rfl, D⟩ := hrel
            have ul := HUL.out
            have co := CO.out _ D.out.bl
            by_cases hsf : s < n
            · have s0 : (0 : Int) ≤ (s : Int) := by omega
              have s1 : (s : Int) < (n : Int) := by omega
              have cz := CL.out _ D.out.bl
              have cu : wr.cell? ⟨bs, s, none⟩ = some (.int .i64 (U.getD s 0)) := Lists.row_cell (L := U) (cap := n) (base := bs) (by rw [ul]; exact D.out.us) _ (by omega)
              have bu := BU.out s (by omega)
              have nb := NB.out s hsf
              generalize U.getD s 0 = uz at *
              have ew : IntKind.i64.wrap (uz + z) = uz + z := IntWalk.i64_in _ (by omega)
              go_wp2_with fail
              go_region
              all_goals go_wp2_with fail
              all_goals go_roundw
              case rel => exact ⟨s + 1, by omega, by go_num, D.out.drew⟩
              case measure => simp [intOf]; omega
            · have hse : s = n := by omega
              have s1 : ¬ (s : Int) < (n : Int) := by omega
              have DN : Hid (DU bs n w3 wr (us L B n (k + 1))) := (by show DU _ _ _ _ _; rw [NX.out]; exact D.out)
              go_wp2_with fail
              go_roundw
              case rel => exact ⟨k + 1, by omega, by go_num, DN⟩
              case measure => simp [intOf]; omega
      · have hkm : k = m := by omega
        subst hkm
        go_wp2_with fail
        go_ret
        exact ⟨rfl, BL.out _ D.out.bl⟩
end Go.Proofs.Ytfnkcoppdelmjaa.Dl
