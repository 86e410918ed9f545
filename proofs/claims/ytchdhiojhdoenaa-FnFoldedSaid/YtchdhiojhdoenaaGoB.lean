/- Texts without blanks; texts of bytes below 128 alone. -/
import Derived.Test.YtchdhiojhdoenaaGoP
namespace Go.Proofs.Ytchdhiojhdoenaa.Ru
open Go.ChangeShapes Go.WideShapes Go.ChangeAt Go.RowKit

def ascB (s : ByteArray) : Bool := (List.range s.size).all fun i => decide (bt s i < 128)
theorem ascB_of {s : ByteArray} (h : ascB s = true) : asc s := fun i hi => by
  have := (List.all_eq_true.1 h) i (List.mem_range.2 hi)
  simpa using this
theorem ascB_no {s : ByteArray} {i : Nat} (hi : i < s.size) (h : ¬ bt s i < 128) : ascB s = false := by
  rw [← Bool.not_eq_true]
  intro e
  exact h (ascB_of e i hi)
theorem ascB_yes {s : ByteArray} (h : ∀ i, i < s.size → bt s i < 128) : ascB s = true := by
  unfold ascB
  rw [List.all_eq_true]
  intro i hi
  simpa using h i (List.mem_range.1 hi)

set_option maxHeartbeats 1000000 in
theorem plain_any (s : ByteArray) (w : World) (hs : s.size ≤ 4194304) : Calls Try.prog 8 #[.string s] w fun e w' => e = .returned (.bool (ascB s)) ∧ w' = w := by
  go_enter Try.func8, Try.ntmps8
  go_wp2
  go_loop [3] (fun y => ∃ k : Nat, k ≤ s.size ∧ y = .int .i64 k ∧ Hid (∀ i, i < k → bt s i < 128)) (fun y => s.size - (intOf y).toNat)
  case atStart => exact ⟨0, Nat.zero_le _, rfl, fun i hi => absurd hi (by omega)⟩
  case round =>
    obtain ⟨k, hk, rfl, A⟩ := hrel
    by_cases hlt : k < s.size
    · have ix := fun w => index_at w s k hlt
      have hb := bt_lt s k
      by_cases h1 : bt s k < 128
      · have A' : Hid (∀ i, i < k + 1 → bt s i < 128) := fun i hi => by
          by_cases e : i = k
          · rw [e]; exact h1
          · exact A.out i (by omega)
        have h2 : ¬ 128 ≤ (bt s k : Int) := by omega
        clear h1
        generalize bt s k = z at *
        go_wp2
        go_round
        case rel => exact ⟨k + 1, by omega, by go_num, A'⟩
        case measure => simp [intOf]; omega
      · have E : Hid (ascB s = false) := ascB_no hlt h1
        have h2 : 128 ≤ (bt s k : Int) := by omega
        clear h1
        generalize bt s k = z at *
        go_wp2
        go_ret
        exact ⟨by rw [E.out]; rfl, rfl⟩
    · have ek : k = s.size := by omega
      have E : Hid (ascB s = true) := ascB_yes (fun i hi => A.out i (by omega))
      subst ek
      go_wp2
      go_ret
      exact ⟨by rw [E.out]; rfl, rfl⟩

set_option maxHeartbeats 2000000 in
set_option maxRecDepth 1000000 in
theorem bare_any (s : ByteArray) (w : World) (hs : s.size ≤ 4194304) : Calls Try.prog 9 #[.string s] w fun e w' => e = .returned (.string ⟨(bareL s.data.toList).toArray⟩) ∧ Below w.heap.size w w' := by
  obtain ⟨i0, hi, hz0, hz1, hz2⟩ := info_parts Try.info5
  have R0 : Hid ((w.alloc (.cells #[] 5)).ownsRow w.heap.size 5 1 (.slice (some ⟨w.heap.size, 0, none⟩) 0 0) (bareL (s.data.toList.take 0)).length (Lib.byteCells (bareL (s.data.toList.take 0)))) := empty_row 5 w _ (Nat.le_refl _)
  have LL : s.data.toList.length = s.size := by simp
  have EA : Hid (s.data.toList.take s.size = s.data.toList) := List.take_of_length_le (by rw [LL]; omega)
  go_enter Try.func9, Try.ntmps9
  go_wp2_with fail
  go_loopw [3, 4] (fun v y wr => ∃ k : Nat, k ≤ s.size ∧ y = .int .i64 (k : Nat) ∧ Hid (wr.ownsRow w.heap.size 5 1 v (bareL (s.data.toList.take k)).length (Lib.byteCells (bareL (s.data.toList.take k)))) ∧ Hid (Below w.heap.size w wr)) (fun _ y _ => (s.size - intOf y).toNat)
  case atStart => exact ⟨0, Nat.zero_le _, rfl, R0, (Below.refl _ _).alloc (Nat.le_refl _) _⟩
  case round =>
    obtain ⟨k, hk, rfl, R, BW⟩ := hrel
    obtain ⟨aa, cap, hv⟩ := row_form R.out
    subst hv
    by_cases hlt : k < s.size
    · have ix := fun w => index_at w s k hlt
      have hb := bt_lt s k
      have hn := nb_blk s k hlt
      have HT : Hid (bareL (s.data.toList.take (k + 1)) = bareL (s.data.toList.take k) ++ if blk (bt s k) then [] else [s[k]]) := by
        show _ = _
        rw [List.take_succ_eq_append_getElem (by rw [LL]; exact hlt), bare_app]
        congr 1
        show bareL [s[k]] = _
        unfold bareL
        cases c : blk (bt s k)
        · rw [c] at hn; simp [hn]
        · rw [c] at hn; simp [hn]
      have BL : (bareL (s.data.toList.take k)).length ≤ 4194304 := by
        have h1 := List.length_filter_le nb (s.data.toList.take k)
        have h2 := List.length_take_le k s.data.toList
        unfold bareL
        omega
      have BT : Hid ((s[k].toNat : Int) = (bt s k : Int)) := by show _ = _; rw [bt_at s k hlt]
      cases c : blk (bt s k)
      · rw [c] at HT
        have n1 : ((bt s k : Int) != 32) = true := by
          rw [bne_iff_ne]; intro e
          have : bt s k = 32 := by omega
          rw [this] at c; exact absurd c (by decide)
        have n2 : ((bt s k : Int) != 10) = true := by
          rw [bne_iff_ne]; intro e
          have : bt s k = 10 := by omega
          rw [this] at c; exact absurd c (by decide)
        clear hn c
        generalize bareL (s.data.toList.take k) = dl at *
        obtain ⟨ch, hch⟩ : ∃ ch : UInt8, ch = s[k] := ⟨_, rfl⟩
        rw [← hch] at HT BT
        clear hch
        generalize bt s k = z at *
        go_wp2_with (at_builtin; refine wpList_append_own _ rfl _ _ 22 rfl w.heap.size 5 i0 (.int .u8 0) 1 1 Try.underlying22 hi hz0 hz1 hz2 rfl (by decide) _ _ _ rfl (R.out.alloc _) ⟨wr.heap.size, 0, none⟩ 1 1 [.int .u8 (z : Int)] rfl rfl ?c1 ?c2 ?c3 ?c4 ?c5 ?_)
        case c1 =>
          intro j u hj
          match j, hj with
          | 0, hj => simp at hj; subst hj; simp [Addr.add]
        case c2 => intro u hu; simp at hu; subst hu; rfl
        case c3 => unfold maxLen; omega
        case c4 => omega
        case c5 => have := BW.out.size; simp; omega
        · intro v' w2 hown' hgrow _
          have hob : ∀ b, (Value.slice aa dl.length cap).ownBlock = some b → w.heap.size ≤ b := fun b hb => (R.out.lt b hb).1
          have R' : Hid (w2.ownsRow w.heap.size 5 1 v' (bareL (s.data.toList.take (k + 1))).length (Lib.byteCells (bareL (s.data.toList.take (k + 1))))) := by
            show World.ownsRow _ _ _ _ _ _ _
            rw [HT.out]
            show World.ownsRow _ _ _ _ _ (dl ++ [ch]).length (Lib.byteCells (dl ++ [ch]))
            rw [Lib.byteCells_append, List.length_append]
            have : Lib.byteCells [ch] = [.int .u8 (z : Int)] := by simp [Lib.byteCells, BT.out]
            rw [this]
            exact hown'
          have B' : Hid (Below w.heap.size w w2) := (BW.out.alloc BW.out.size _).grown hgrow (by have := BW.out.size; simp; omega) hob
          clear hown' hgrow hob R BW
          go_wp2_with fail
          go_roundw
          case rel => exact ⟨k + 1, by omega, by go_num, R', B'⟩
          case measure => simp [intOf]; omega
      · rw [c] at HT
        have n1 : ((bt s k : Int) != 32) = false ∨ ((bt s k : Int) != 32) = true ∧ ((bt s k : Int) != 10) = false := by
          unfold blk at c
          by_cases e : bt s k = 32
          · rw [e]; exact .inl rfl
          · refine .inr ⟨by rw [bne_iff_ne]; omega, ?_⟩
            have e2 : bt s k = 10 := by simpa [e] using c
            rw [e2]; rfl
        have R' : Hid (wr.ownsRow w.heap.size 5 1 (.slice aa (bareL (s.data.toList.take k)).length cap) (bareL (s.data.toList.take (k + 1))).length (Lib.byteCells (bareL (s.data.toList.take (k + 1))))) := by
          show World.ownsRow _ _ _ _ _ _ _
          rw [HT.out]
          show World.ownsRow _ _ _ _ _ (bareL (s.data.toList.take k) ++ []).length (Lib.byteCells (bareL (s.data.toList.take k) ++ []))
          rw [List.append_nil]
          exact R.out
        clear hn c R HT BT
        generalize bareL (s.data.toList.take k) = dl at *
        generalize bt s k = z at *
        rcases n1 with n1 | ⟨n1, n2⟩
        all_goals
          go_wp2_with fail
          go_roundw
          case rel => exact ⟨k + 1, by omega, by go_num, R', BW⟩
          case measure => simp [intOf]; omega
    · have ek : k = s.size := by omega
      subst ek
      rw [EA.out] at R ⊢
      obtain ⟨l, hl⟩ : ∃ l, l = bareL s.data.toList := ⟨_, rfl⟩
      rw [← hl] at R ⊢
      have HL : Hid (l = bareL s.data.toList) := hl
      clear hl
      have CV : Hid (∀ w', w'.ownsRow w.heap.size 5 1 (.slice aa l.length cap) l.length (Lib.byteCells l) → (convert 22 9 (.slice aa l.length cap)).run Try.prog w' = .ok (.string ⟨l.toArray⟩) w') := fun w' h => conv_row h
      have cv := CV.out wr R.out
      clear CV
      go_wp2_with fail
      go_ret
      exact ⟨by rw [← HL.out]; rfl, BW.out⟩
end Go.Proofs.Ytchdhiojhdoenaa.Ru
