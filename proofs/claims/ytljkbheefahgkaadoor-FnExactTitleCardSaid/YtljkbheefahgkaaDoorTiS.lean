/- A title: the model. -/
import Derived.Test.YtljkbheefahgkaaDoorTiP
namespace Go.Proofs.YtljkbheefahgkaaDoor.Ru
open Go.ChangeShapes Go.WideShapes Go.ChangeAt Go.RowKit
def okm (n : Int) : Bool := decide (1 ≤ n) && decide (n ≤ 1000)
theorem okm_yes {n : Int} (h1 : 1 ≤ n) (h2 : n ≤ 1000) : okm n = true := by unfold okm; simp; omega
theorem okm_no {n : Int} (h : ¬ (1 ≤ n ∧ n ≤ 1000)) : okm n = false := by unfold okm; simp; omega
set_option maxHeartbeats 400000 in
theorem s_in (n : Int) (w : World) : Calls Tryd.prog 6 #[.int .i64 n, .int .i64 1, .int .i64 1000] w fun e w' => e = .returned (.bool (okm n)) ∧ w' = w := by
  by_cases h1 : n < 1
  · rw [okm_no (by omega)]
    go_enter Tryd.func6, Tryd.ntmps6
    go_wp2
    all_goals (go_ret; exact ⟨rfl, rfl⟩)
  · by_cases h2 : 1000 < n
    · rw [okm_no (by omega)]
      have h1' : 1 ≤ n := by omega
      have h3 : decide (n ≤ 1000) = false := by simp; omega
      go_enter Tryd.func6, Tryd.ntmps6
      go_wp2
      all_goals (go_ret; exact ⟨rfl, rfl⟩)
    · rw [okm_yes (by omega) (by omega)]
      have h1' : 1 ≤ n := by omega
      have h2' : n ≤ 1000 := by omega
      have h3 : decide (n ≤ 1000) = true := by simp; omega
      go_enter Tryd.func6, Tryd.ntmps6
      go_wp2
      all_goals (go_ret; exact ⟨rfl, rfl⟩)
set_option maxHeartbeats 400000 in
theorem stitle_no (s : ByteArray) (n : Int) (w : World) (h : okm n = false ∨ (okm n = true ∧ 20000 < s.size)) :
    Calls Tryd.prog 4 #[.string s, .int .i64 n] w fun e w' => e = .returned (.string ⟨#[]⟩) ∧ w' = w := by
  have SI : Hid (∀ w, Calls Tryd.prog 6 #[.int .i64 n, .int .i64 1, .int .i64 1000] w fun e w' => e = .returned (.bool (okm n)) ∧ w' = w) := fun w => s_in n w
  rcases h with h | ⟨h, hs⟩
  · rw [h] at SI
    clear h
    go_enter Tryd.func4, Tryd.ntmps4
    go_wp2_with (go_at_call 6; refine (SI.out _).mono ?_; rintro e w' ⟨rfl, rfl⟩)
    go_ret
    exact ⟨rfl, rfl⟩
  · rw [h] at SI
    clear h
    have hs' : (20000 : Int) < (s.size : Int) := by omega
    go_enter Tryd.func4, Tryd.ntmps4
    go_wp2_with (go_at_call 6; refine (SI.out _).mono ?_; rintro e w' ⟨rfl, rfl⟩)
    go_ret
    exact ⟨rfl, rfl⟩
theorem str_add (a : ByteArray) (l m : List UInt8) (h : a.data.toList = l) : a ++ (⟨m.toArray⟩ : ByteArray) = ⟨(l ++ m).toArray⟩ := by
  apply ByteArray.ext
  rw [ByteArray.data_append]
  apply Array.ext'
  simp [← h]
theorem str_none (a : ByteArray) (l : List UInt8) (h : a.data.toList = l) : a ++ (⟨#[]⟩ : ByteArray) = ⟨l.toArray⟩ := by
  have := str_add a l [] h
  simpa using this
theorem str_is (a : ByteArray) (l : List UInt8) (h : a.data.toList = l) : a = ⟨l.toArray⟩ := by
  apply ByteArray.ext
  apply Array.ext'
  simpa using h
def slLen (v : Value) : Nat := match v with | .slice _ n _ => n | _ => 0
set_option maxHeartbeats 1000000 in
theorem stitle_yes (s : ByteArray) (m : Nat) (w : World) (hs : s.size ≤ 20000) (h1 : 1 ≤ m) (h2 : m ≤ 1000) (RA : RuneAt s) :
    Calls Tryd.prog 4 #[.string s, .int .i64 m] w fun e w' => e = .returned (.string ⟨(ttl s m).toArray⟩) ∧ Below w.heap.size w w' := by
  have SI : Hid (∀ w, Calls Tryd.prog 6 #[.int .i64 (m : Int), .int .i64 1, .int .i64 1000] w fun e w' => e = .returned (.bool true) ∧ w' = w) := fun w => by have := s_in (m : Int) w; rwa [okm_yes (by omega) (by omega)] at this
  have SR : Hid (Calls Tryd.prog 7 #[.string s] w fun e w' => ∃ a cap, e = .returned (.slice a (cnt s) cap) ∧ cnt s ≤ cap ∧ (cnt s = 0 ∨ ∃ g, a = some ⟨g, 0, none⟩ ∧ g < w'.heap.size ∧ ∀ j, j < cnt s → w'.cell? ⟨g, j, none⟩ = some (.string (seg s j (j + 1)))) ∧ Below w.heap.size w w') := (srunes s w (by omega) RA).mono (by
    rintro e w' ⟨k, v, hk, rfl, hrow, hb⟩
    have ek := ends_cnt hk
    subst ek
    obtain ⟨h0, hr⟩ := id hrow
    rcases hr with ⟨rfl, hn⟩ | ⟨g, cap, cur, rfl, hg, hh, hc, hm, _⟩
    · exact ⟨none, 0, by rw [hn], by omega, .inl hn, hb⟩
    · refine ⟨_, cap, rfl, hc, .inr ⟨g, rfl, ?_, fun j hj => ?_⟩, hb⟩
      · by_cases x : g < w'.heap.size
        · exact x
        · rw [Array.getElem?_eq_none (by omega)] at hh; cases hh
      · have := hrow.cellAt j (by omega)
        rw [this]
        simp [pieces, hj, piece_seg])
  obtain ⟨c, hc⟩ : ∃ c, c = cnt s := ⟨_, rfl⟩
  have HC : Hid (c = cnt s) := hc
  have hcs : c ≤ 20000 := by have := cnt_le s; omega
  rw [← hc] at SR
  -- behind the cut: so many pieces from the front on
  have EN : Hid (∀ k, k ≤ c → (seg s 0 (tr s k)).data.toList = Lib.trimRightB (seg s 0 k).data.toList 32) := fun k hk => tr_bytes s k (by omega)
  have TM : Hid (m < c → ttl s m = Lib.trimRightB (seg s 0 m).data.toList 32 ++ [226, 128, 166]) := fun h => by unfold ttl; rw [if_pos (by omega)]
  have TN : Hid (¬ m < c → ttl s m = Lib.trimRightB (seg s 0 c).data.toList 32) := fun h => by unfold ttl; rw [if_neg (by omega), hc, seg_all]
  have SJ : Hid (∀ (a : Option Addr) (n cap : Nat) (w : World), n ≤ c → (n = 0 ∨ ∃ g o, a = some ⟨g, o, none⟩ ∧ g < w.heap.size ∧ ∀ j, j < n → w.cell? ⟨g, o + j, none⟩ = some (.string (seg s (0 + j) (0 + j + 1)))) → Calls Tryd.prog 8 #[.slice a n cap] w fun e w' => e = .returned (.string (seg s 0 (0 + n))) ∧ Below w.heap.size w w') := fun a n cap w hn h => sjoined s a 0 n cap w hs (by omega) h
  have SZ : Hid (∀ k, k ≤ c → (seg s 0 (0 + k)).size ≤ 20000) := fun k hk => by have := seg_le s 0 (0 + k) (by omega); omega
  have TS : Hid (∀ n, n + 1 ≤ c → tr s (n + 1) = if (seg s n (n + 1)).toList == [32] then tr s n else n + 1) := fun n _ => rfl
  have hsz : ¬ (20000 : Int) < (s.size : Int) := by omega
  clear hc RA hs
  go_enter Tryd.func4, Tryd.ntmps4
  go_wp2_with (go_at_call 6; refine (SI.out _).mono ?_; rintro e w' ⟨rfl, hw⟩; have hw2 := hw.symm; subst hw2)
  refine SR.out.mono ?_
  rintro e w1 ⟨a, cap, rfl, hcap, hcell, hb⟩
  have HB : Hid (Below w.heap.size w w1) := hb
  clear hb SI SR hsz
  rcases Nat.eq_zero_or_pos c with h0 | h0
  · have HE : Hid (c = 0) := h0
    subst h0
    clear hcell
    have SJ0 := SJ.out a 0 cap w1 (Nat.zero_le _) (.inl rfl)
    have i1 : ¬ (m : Int) < 0 := by omega
    have FE : Hid (seg s 0 (0 + 0) = ⟨(ttl s m).toArray⟩) := str_is _ _ (by rw [TN.out (by omega), ← EN.out 0 (Nat.zero_le _)]; rfl)
    have sz := SZ.out 0 (Nat.zero_le _)
    generalize seg s 0 (0 + 0) = q at *
    have u0 : ¬ 9223372036854775807 < q.size := by omega
    go_wp2_with fail
    go_loop [5] (fun p => p = .slice a 0 cap) (fun p => slLen p)
    case atStart => rfl
    case round =>
      subst hrel
      go_wp2_with fail
      refine SJ0.mono ?_
      rintro e w2 ⟨rfl, b2⟩
      have HB2 : Hid (Below w.heap.size w w2) := HB.out.trans (b2.mono HB.out.size)
      clear b2 SJ0
      go_wp2_with fail
      go_ret
      refine ⟨?_, HB2.out⟩
      rw [FE.out]
      exact congrArg (fun x => Ending.returned (.string x)) (str_none _ _ (by simp))
  · obtain ⟨g, rfl, hg, hcl⟩ := hcell.resolve_left (by omega)
    have CL : Hid (∀ j, j < c → w1.cell? ⟨g, j, none⟩ = some (.string (seg s j (j + 1)))) := hcl
    clear hcl
    by_cases hm : m < c
    · have i1 : (m : Int) < (c : Int) := by omega
      have i2 : (m : Int) ≤ (cap : Int) := by omega
      have TMH : Hid (ttl s m = Lib.trimRightB (seg s 0 m).data.toList 32 ++ [226, 128, 166]) := TM.out hm
      clear TM TN
      go_wp2_with fail
      have LE : Hid (m ≤ c) := (by show m ≤ c; omega)
      go_loop [5] (fun p => ∃ j : Nat, j ≤ m ∧ p = .slice (some ⟨g, 0, none⟩) j cap ∧ Hid (tr s j = tr s m)) (fun p => slLen p)
      case atStart => exact ⟨m, Nat.le_refl _, rfl, rfl⟩
      case round =>
        obtain ⟨j, hj, rfl, TE⟩ := hrel
        rcases Nat.eq_zero_or_pos j with j0 | j0
        · subst j0
          have SJ0 := SJ.out (some ⟨g, 0, none⟩) 0 cap w1 (Nat.zero_le _) (.inl rfl)
          go_wp2_with fail
          refine SJ0.mono ?_
          rintro e w2 ⟨rfl, b2⟩
          have HB2 : Hid (Below w.heap.size w w2) := HB.out.trans (b2.mono HB.out.size)
          have FE : Hid ((seg s 0 (0 + 0)).data.toList = Lib.trimRightB (seg s 0 m).data.toList 32) := (by show _ = _; rw [← EN.out m LE.out, ← TE.out]; rfl)
          clear b2 SJ0
          have sz := SZ.out 0 (Nat.zero_le _)
          generalize seg s 0 (0 + 0) = q at *
          have u0 : ¬ 9223372036854775807 < q.size := by omega
          have u1 : ¬ 9223372036854775807 < q.size + 3 := by omega
          go_wp2_with fail
          go_ret
          exact ⟨by rw [TMH.out, ← FE.out]; exact congrArg (fun x => Ending.returned (.string x)) (str_add _ _ _ rfl), HB2.out⟩
        · obtain ⟨i, rfl⟩ : ∃ i, j = i + 1 := ⟨j - 1, by omega⟩
          have lc := LE.out
          have cl := CL.out i (by omega)
          have i3 : (0 : Int) < ((i + 1 : Nat) : Int) := by omega
          have i4 : IntKind.i64.wrap (((i + 1 : Nat) : Int) - 1) = (i : Int) := by rw [IntWalk.i64_in _ (by omega)]; omega
          have i5 : (i : Int) ≤ (cap : Int) := by omega
          by_cases hq : ((seg s i (i + 1)).toList == [32]) = true
          · have TE2 : Hid (tr s i = tr s m) := (by show _ = _; rw [← TE.out, TS.out i (by omega), if_pos hq])
            generalize seg s i (i + 1) = q at *
            go_wp2_with fail
            go_round
            case rel => exact ⟨i, by omega, by go_num, TE2⟩
            case measure => simp [slLen]
          · have hq' : ((seg s i (i + 1)).toList == [32]) = false := by simpa using hq
            have TE2 : Hid (i + 1 = tr s m) := (by show _ = _; rw [← TE.out, TS.out i (by omega), if_neg hq])
            have SJ0 := SJ.out (some ⟨g, 0, none⟩) (i + 1) cap w1 (by omega) (.inr ⟨g, 0, rfl, hg, fun j hj => by have := CL.out j (by omega); simpa using this⟩)
            have FE : Hid ((seg s 0 (0 + (i + 1))).data.toList = Lib.trimRightB (seg s 0 m).data.toList 32) := (by show _ = _; rw [← EN.out m LE.out, ← TE2.out, Nat.zero_add])
            clear hq
            generalize seg s i (i + 1) = q at *
            have sz := SZ.out (i + 1) (by omega)
            generalize seg s 0 (0 + (i + 1)) = z at *
            have u0 : ¬ 9223372036854775807 < z.size := by omega
            have u1 : ¬ 9223372036854775807 < z.size + 3 := by omega
            go_wp2_with fail
            refine SJ0.mono ?_
            rintro e w2 ⟨rfl, b2⟩
            have HB2 : Hid (Below w.heap.size w w2) := HB.out.trans (b2.mono HB.out.size)
            clear b2 SJ0
            go_wp2_with fail
            go_ret
            exact ⟨by rw [TMH.out, ← FE.out]; exact congrArg (fun x => Ending.returned (.string x)) (str_add _ _ _ rfl), HB2.out⟩
    · have i1 : ¬ (m : Int) < (c : Int) := by omega
      have TMH : Hid (ttl s m = Lib.trimRightB (seg s 0 c).data.toList 32) := TN.out hm
      clear TM TN
      go_wp2_with fail
      have LE : Hid (c ≤ c) := (by show c ≤ c; omega)
      go_loop [5] (fun p => ∃ j : Nat, j ≤ c ∧ p = .slice (some ⟨g, 0, none⟩) j cap ∧ Hid (tr s j = tr s c)) (fun p => slLen p)
      case atStart => exact ⟨c, Nat.le_refl _, rfl, rfl⟩
      case round =>
        obtain ⟨j, hj, rfl, TE⟩ := hrel
        rcases Nat.eq_zero_or_pos j with j0 | j0
        · subst j0
          have SJ0 := SJ.out (some ⟨g, 0, none⟩) 0 cap w1 (Nat.zero_le _) (.inl rfl)
          go_wp2_with fail
          refine SJ0.mono ?_
          rintro e w2 ⟨rfl, b2⟩
          have HB2 : Hid (Below w.heap.size w w2) := HB.out.trans (b2.mono HB.out.size)
          have FE : Hid ((seg s 0 (0 + 0)).data.toList = Lib.trimRightB (seg s 0 c).data.toList 32) := (by show _ = _; rw [← EN.out c LE.out, ← TE.out]; rfl)
          clear b2 SJ0
          have sz := SZ.out 0 (Nat.zero_le _)
          generalize seg s 0 (0 + 0) = q at *
          have u0 : ¬ 9223372036854775807 < q.size := by omega
          have u1 : ¬ 9223372036854775807 < q.size + 3 := by omega
          go_wp2_with fail
          go_ret
          exact ⟨by rw [TMH.out, ← FE.out]; exact congrArg (fun x => Ending.returned (.string x)) (str_none _ _ rfl), HB2.out⟩
        · obtain ⟨i, rfl⟩ : ∃ i, j = i + 1 := ⟨j - 1, by omega⟩
          have lc := LE.out
          have cl := CL.out i (by omega)
          have i3 : (0 : Int) < ((i + 1 : Nat) : Int) := by omega
          have i4 : IntKind.i64.wrap (((i + 1 : Nat) : Int) - 1) = (i : Int) := by rw [IntWalk.i64_in _ (by omega)]; omega
          have i5 : (i : Int) ≤ (cap : Int) := by omega
          by_cases hq : ((seg s i (i + 1)).toList == [32]) = true
          · have TE2 : Hid (tr s i = tr s c) := (by show _ = _; rw [← TE.out, TS.out i (by omega), if_pos hq])
            generalize seg s i (i + 1) = q at *
            go_wp2_with fail
            go_round
            case rel => exact ⟨i, by omega, by go_num, TE2⟩
            case measure => simp [slLen]
          · have hq' : ((seg s i (i + 1)).toList == [32]) = false := by simpa using hq
            have TE2 : Hid (i + 1 = tr s c) := (by show _ = _; rw [← TE.out, TS.out i (by omega), if_neg hq])
            have SJ0 := SJ.out (some ⟨g, 0, none⟩) (i + 1) cap w1 (by omega) (.inr ⟨g, 0, rfl, hg, fun j hj => by have := CL.out j (by omega); simpa using this⟩)
            have FE : Hid ((seg s 0 (0 + (i + 1))).data.toList = Lib.trimRightB (seg s 0 c).data.toList 32) := (by show _ = _; rw [← EN.out c LE.out, ← TE2.out, Nat.zero_add])
            clear hq
            generalize seg s i (i + 1) = q at *
            have sz := SZ.out (i + 1) (by omega)
            generalize seg s 0 (0 + (i + 1)) = z at *
            have u0 : ¬ 9223372036854775807 < z.size := by omega
            have u1 : ¬ 9223372036854775807 < z.size + 3 := by omega
            go_wp2_with fail
            refine SJ0.mono ?_
            rintro e w2 ⟨rfl, b2⟩
            have HB2 : Hid (Below w.heap.size w w2) := HB.out.trans (b2.mono HB.out.size)
            clear b2 SJ0
            go_wp2_with fail
            go_ret
            exact ⟨by rw [TMH.out, ← FE.out]; exact congrArg (fun x => Ending.returned (.string x)) (str_none _ _ rfl), HB2.out⟩
end Go.Proofs.YtljkbheefahgkaaDoor.Ru
