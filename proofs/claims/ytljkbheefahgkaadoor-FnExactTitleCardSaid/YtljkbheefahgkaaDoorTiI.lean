/- A title: the program. -/
import Derived.Test.YtljkbheefahgkaaDoorTiS
import Derived.Test.YtljkbheefahgkaaDoorShelf
namespace Go.Proofs.YtljkbheefahgkaaDoor.Ru
open Go.ChangeShapes Go.WideShapes Go.ChangeAt Go.RowKit
set_option maxHeartbeats 400000 in
theorem i_in (n : Int) (w : World) : Calls Tryd.prog 9 #[.int .i64 n, .int .i64 1, .int .i64 1000] w fun e w' => e = .returned (.bool (okm n)) ∧ w' = w := by
  by_cases h1 : n < 1
  · rw [okm_no (by omega)]
    go_enter Tryd.func9, Tryd.ntmps9
    go_wp2
    all_goals (go_ret; exact ⟨rfl, rfl⟩)
  · by_cases h2 : 1000 < n
    · rw [okm_no (by omega)]
      have h1' : 1 ≤ n := by omega
      have h3 : decide (n ≤ 1000) = false := by simp; omega
      go_enter Tryd.func9, Tryd.ntmps9
      go_wp2
      all_goals (go_ret; exact ⟨rfl, rfl⟩)
    · rw [okm_yes (by omega) (by omega)]
      have h1' : 1 ≤ n := by omega
      have h2' : n ≤ 1000 := by omega
      have h3 : decide (n ≤ 1000) = true := by simp; omega
      go_enter Tryd.func9, Tryd.ntmps9
      go_wp2
      all_goals (go_ret; exact ⟨rfl, rfl⟩)
set_option maxHeartbeats 400000 in
theorem ititle_no (s : ByteArray) (n : Int) (w : World) (h : okm n = false ∨ (okm n = true ∧ 20000 < s.size)) :
    Calls Tryd.prog 5 #[.string s, .int .i64 n] w fun e w' => e = .returned (.string ⟨#[]⟩) ∧ w' = w := by
  have SI : Hid (∀ w, Calls Tryd.prog 9 #[.int .i64 n, .int .i64 1, .int .i64 1000] w fun e w' => e = .returned (.bool (okm n)) ∧ w' = w) := fun w => i_in n w
  rcases h with h | ⟨h, hs⟩
  · rw [h] at SI
    clear h
    go_enter Tryd.func5, Tryd.ntmps5
    go_wp2_with (go_at_call 9; refine (SI.out _).mono ?_; rintro e w' ⟨rfl, rfl⟩)
    go_ret
    exact ⟨rfl, rfl⟩
  · rw [h] at SI
    clear h
    have hs' : (20000 : Int) < (s.size : Int) := by omega
    go_enter Tryd.func5, Tryd.ntmps5
    go_wp2_with (go_at_call 9; refine (SI.out _).mono ?_; rintro e w' ⟨rfl, rfl⟩)
    go_ret
    exact ⟨rfl, rfl⟩
set_option maxHeartbeats 400000 in
theorem joined2 (a b : ByteArray) (w : World) (g : Nat) (hg : g < w.heap.size) (h0 : w.cell? ⟨g, 0, none⟩ = some (.string a)) (h1 : w.cell? ⟨g, 1, none⟩ = some (.string b)) (hl : a.size + b.size ≤ 100000) :
    Calls Tryd.prog 10 #[.slice (some ⟨g, 0, none⟩) 2 2] w fun e w' => e = .returned (.string ⟨(a.data.toList ++ b.data.toList).toArray⟩) ∧ Below w.heap.size w w' := by
  have J : Hid (Calls Tryd.prog 13 #[.slice (some ⟨g, 0, none⟩) 2 2, .string ⟨#[]⟩] w fun e w' => e = .returned (.string ⟨(a.data.toList ++ b.data.toList).toArray⟩) ∧ Below w.heap.size w w') := (Tryd.strings_Join g 0 2 [a, b] ⟨#[]⟩ w (fun j x hj => by
      match j, hj with
      | 0, hj => simp at hj; subst hj; simpa using h0
      | 1, hj => simp at hj; subst hj; simpa using h1) hg (by simp) (by simp) (by
      simp [Lib.join]
      have := dat_len a
      have := dat_len b
      simp at *
      omega)).mono (by
    rintro e w' ⟨rfl, hb⟩
    exact ⟨by simp [Lib.join], hb⟩)
  go_enter Tryd.func10, Tryd.ntmps10
  go_wp2_with fail
  refine J.out.mono ?_
  rintro e w1 ⟨rfl, hb⟩
  have HB : Hid (Below w.heap.size w w1) := hb
  clear hb
  go_wp2_with fail
  go_ret
  exact ⟨rfl, HB.out⟩
set_option maxHeartbeats 1000000 in
theorem ititle_yes (s : ByteArray) (m : Nat) (w : World) (hs : s.size ≤ 20000) (h1 : 1 ≤ m) (h2 : m ≤ 1000) :
    Calls Tryd.prog 5 #[.string s, .int .i64 m] w fun e w' => e = .returned (.string ⟨(ttl s m).toArray⟩) ∧ Below w.heap.size w w' := by
  have SI : Hid (∀ w, Calls Tryd.prog 9 #[.int .i64 (m : Int), .int .i64 1, .int .i64 1000] w fun e w' => e = .returned (.bool true) ∧ w' = w) := fun w => by have := i_in (m : Int) w; rwa [okm_yes (by omega) (by omega)] at this
  have TRM : Hid (∀ (x : ByteArray) (w : World), x.size ≤ 20000 → Calls Tryd.prog 11 #[.string x, .string ⟨#[32]⟩] w fun e w' => e = .returned (.string ⟨(Lib.trimRightB x.data.toList 32).toArray⟩) ∧ w' = w) := fun x w hx => Tryd.strings_TrimRight_one x 32 (by decide) w (by omega)
  have hsz : ¬ (20000 : Int) < (s.size : Int) := by omega
  go_enter Tryd.func5, Tryd.ntmps5
  go_wp2_with (go_at_call 9; refine (SI.out _).mono ?_; rintro e w' ⟨rfl, hw⟩; have hw2 := hw.symm; subst hw2)
  go_loopw [5] (fun ct wr => ∃ j : Nat, Hid (lows s j) ∧ j ≤ m ∧ ct = .int .i64 (j : Nat) ∧ Hid (wr.heap[w.heap.size]? = some (.stringIter s (pos s j))) ∧ Hid (Below w.heap.size w wr)) (fun _ wr => s.size - wr.iterPos w.heap.size)
  case atStart =>
    refine ⟨0, lows_zero s, Nat.zero_le _, rfl, ?_, (Below.refl _ _).alloc (Nat.le_refl _) _⟩
    show _ = _
    have := World.iter_heap w s 0
    simpa [pos] using this
  case round =>
    obtain ⟨j, LO, hjm, rfl, HIT, BW⟩ := hrel
    have hit := HIT.out
    have pb := pos_ge LO.out
    by_cases hp : pos s j < s.size
    · have hnx : ∀ ty, (Instr.next (.pointer (some ⟨w.heap.size, 0, none⟩)) true ty).run Tryd.prog wr = _ := fun ty => Lib.run_next_any_at wr w.heap.size s (pos s j) ty hit hp
      have hwd := wd_in s (pos s j) hp
      have LO' : Hid (lows s (j + 1)) := lows_succ LO.out hp
      have NX : Hid (pos s j + (Utf8.decode s (pos s j)).2 = pos s (j + 1)) := rfl
      have hwd' : 1 ≤ (Utf8.decode s (pos s j)).2 := hwd.1
      have hit2 : Hid ((wr.iterAt w.heap.size s (pos s j + (Utf8.decode s (pos s j)).2)).heap[w.heap.size]? = some (.stringIter s (pos s j + (Utf8.decode s (pos s j)).2))) := Lib.iterAt_heap wr w.heap.size s (pos s j) (pos s j + (Utf8.decode s (pos s j)).2) hit
      have B2 : Hid (Below w.heap.size w (wr.iterAt w.heap.size s (pos s j + (Utf8.decode s (pos s j)).2))) := Lib.below_iterAt BW.out (k := w.heap.size) (Nat.le_refl _) s _
      have MP : Hid (wr.iterPos w.heap.size = pos s j) := by show _ = _; simp only [World.iterPos, hit]
      have CJ : j + 1 ≤ cnt s := by
        have e := cnt_ends s
        by_cases c : j < cnt s
        · omega
        · exfalso
          have := LO'.out (cnt s) (by omega)
          exact e.1 this
      by_cases hc : j = m
      · subst hc
        have e1 : ((j : Int) == (j : Int)) = true := by simp
        have TT : Hid (ttl s j = Lib.trimRightB (s.extract 0 (pos s j)).data.toList 32 ++ [226, 128, 166]) := (by show _ = _; unfold ttl; rw [if_pos (by omega)]; rfl)
        have XS : (s.extract 0 (pos s j)).size ≤ 20000 := by
          have := ext_le s 0 (pos s j)
          omega
        have LT : Hid ((Lib.trimRightB (s.extract 0 (pos s j)).data.toList 32).length ≤ 20000) := (by
          show _ ≤ _
          unfold Lib.trimRightB
          rw [List.length_reverse]
          refine Nat.le_trans (List.dropWhile_sublist _).length_le ?_
          rw [List.length_reverse, dat_len]
          exact XS)
        clear hit HIT BW LO CJ hwd LO'
        generalize (Utf8.decode s (pos s j)).2 = wdt at *
        generalize (Utf8.decode s (pos s j)).1 = rr at *
        have TR1 : Hid (∀ w, Calls Tryd.prog 11 #[.string (s.extract 0 (pos s j)), .string ⟨#[32]⟩] w fun e w' => e = .returned (.string ⟨(Lib.trimRightB (s.extract 0 (pos s j)).data.toList 32).toArray⟩) ∧ w' = w) := fun w => TRM.out _ w XS
        clear XS
        generalize Lib.trimRightB (s.extract 0 (pos s j)).data.toList 32 = tq at *
        generalize pos s j = pj at *
        generalize wr.iterAt w.heap.size s (pj + wdt) = wi at *
        go_wp2_with (go_at_call 11; refine (TR1.out _).mono ?_; rintro e w' ⟨rfl, hw⟩; have hw2 := hw.symm; subst hw2)
        refine (joined2 ⟨tq.toArray⟩ ⟨#[226, 128, 166]⟩ _ wi.heap.size (by simp) (by simp [go_sem]) (by simp [go_sem]) (by
          have := LT.out
          have e : (⟨tq.toArray⟩ : ByteArray).size = tq.length := by rw [← dat_len]
          have e2 : (⟨#[226, 128, 166]⟩ : ByteArray).size = 3 := rfl
          omega)).mono ?_
        rintro e w2 ⟨rfl, b2⟩
        have HB2 : Hid (Below w.heap.size w w2) := (B2.out.alloc B2.out.size _).trans (b2.mono (by have := B2.out.size; simp; omega))
        clear b2
        go_wp2_with fail
        go_ret
        exact ⟨by rw [TT.out]; rfl, HB2.out⟩
      · have e1 : ((j : Int) == (m : Int)) = false := by rw [beq_eq_false_iff_ne]; omega
        have I4 : Hid ((wr.iterAt w.heap.size s (pos s j + (Utf8.decode s (pos s j)).2)).heap[w.heap.size]? = some (.stringIter s (pos s (j + 1)))) := by
          show _ = _
          rw [← NX.out]
          exact hit2.out
        have hj1 : j + 1 ≤ m := by omega
        clear hit HIT BW LO CJ hwd hit2
        generalize (Utf8.decode s (pos s j)).2 = wdt at *
        generalize (Utf8.decode s (pos s j)).1 = rr at *
        generalize pos s j = pj at *
        generalize wr.iterAt w.heap.size s (pj + wdt) = wi at *
        go_wp2_with fail
        go_roundw
        case rel => exact ⟨j + 1, LO', hj1, by go_num, I4, B2⟩
        case measure =>
          rw [MP.out]
          simp only [World.iterPos, I4.out]
          rw [← NX.out]
          omega
    · have EJ : j = cnt s := ends_cnt ⟨hp, LO.out⟩
      have hnx : ∀ ty, (Instr.next (.pointer (some ⟨w.heap.size, 0, none⟩)) true ty).run Tryd.prog wr = _ := fun ty => Lib.run_next_end_at wr w.heap.size s (pos s j) ty hit (by omega)
      have TT : Hid (ttl s m = Lib.trimRightB s.data.toList 32) := (by show _ = _; unfold ttl; rw [if_neg (by omega)])
      have TR1 : Hid (∀ w, Calls Tryd.prog 11 #[.string s, .string ⟨#[32]⟩] w fun e w' => e = .returned (.string ⟨(Lib.trimRightB s.data.toList 32).toArray⟩) ∧ w' = w) := fun w => TRM.out _ w hs
      clear EJ hit LO
      go_wp2_with (go_at_call 11; refine (TR1.out _).mono ?_; rintro e w' ⟨rfl, hw⟩; have hw2 := hw.symm; subst hw2)
      go_ret
      exact ⟨by rw [TT.out]; rfl, BW.out⟩
end Go.Proofs.YtljkbheefahgkaaDoor.Ru
