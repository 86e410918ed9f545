/- The words of a text, in the model. -/
import Derived.Test.YtchdhiojhdoenaaGoC
namespace Go.Proofs.Ytchdhiojhdoenaa.Ru
open Go.ChangeShapes Go.WideShapes Go.ChangeAt Go.RowKit

def fr (o : Option Nat) : Int := match o with | some a => (a : Int) | none => -1
/-- how far the model has come with a text's words -/
def WI (s : ByteArray) (O : List ByteArray) (f : Int) (i : Nat) : Prop :=
  if i ≤ s.size then O = exts s (stB s i).2 ∧ f = fr (stB s i).1 else O = wordsB s
theorem WI.zero (s : ByteArray) : WI s [] (-1) 0 := by
  unfold WI
  rw [if_pos (Nat.zero_le _)]
  exact ⟨rfl, rfl⟩
theorem fr_ge (s : ByteArray) (i : Nat) : -1 ≤ fr (stB s i).1 ∧ fr (stB s i).1 ≤ i := by
  have := (stB_bnd s i).2
  cases h : (stB s i).1 with
  | none => exact ⟨by show (-1 : Int) ≤ -1; omega, by show (-1 : Int) ≤ (i : Int); omega⟩
  | some a => rw [h] at this; have t : a ≤ i := this; unfold fr; exact ⟨by show (-1 : Int) ≤ (a : Int); omega, by show (a : Int) ≤ _; omega⟩
theorem bnd_len (l : List ByteArray) : l.length ≤ bnd l := by
  induction l with
  | nil => exact Nat.zero_le _
  | cons x l ih =>
    have : bnd (x :: l) = x.size + 1 + bnd l := by simp [bnd]
    rw [this, List.length_cons]
    omega
theorem WI.bd {s : ByteArray} {O : List ByteArray} {f : Int} {i : Nat} (h : WI s O f i) (hi : i ≤ s.size) : O.length ≤ i ∧ -1 ≤ f ∧ f ≤ i := by
  unfold WI at h
  rw [if_pos hi] at h
  obtain ⟨rfl, rfl⟩ := h
  have a := stB_bnd s i
  have b := bnd_len (exts s (stB s i).2)
  exact ⟨by omega, fr_ge s i⟩
theorem stB_step (s : ByteArray) (i : Nat) : stB s (i + 1) = if blk (bt s i) then (none, match (stB s i).1 with | some a => (stB s i).2 ++ [(a, i)] | none => (stB s i).2) else (some ((stB s i).1.getD i), (stB s i).2) := rfl
theorem WI.cut {s : ByteArray} {O : List ByteArray} {a i : Nat} (h : WI s O (a : Int) i) (hi : i < s.size) (hb : blk (bt s i) = true) : WI s (O ++ [s.extract a i]) (-1) (i + 1) := by
  unfold WI at h ⊢
  rw [if_pos (by omega)] at h
  rw [if_pos (by omega), stB_step, if_pos hb]
  obtain ⟨rfl, hf⟩ := h
  cases hst : (stB s i).1 with
  | none => rw [hst] at hf; unfold fr at hf; have : (a : Int) = -1 := hf; omega
  | some c =>
    rw [hst] at hf
    have : (a : Int) = (c : Int) := hf
    have : a = c := by omega
    subst this
    refine ⟨?_, rfl⟩
    simp [exts]
theorem WI.skip {s : ByteArray} {O : List ByteArray} {f : Int} {i : Nat} (h : WI s O f i) (hi : i < s.size) (hb : blk (bt s i) = true) (hf : f < 0) : WI s O f (i + 1) := by
  unfold WI at h ⊢
  rw [if_pos (by omega)] at h
  rw [if_pos (by omega), stB_step, if_pos hb]
  obtain ⟨rfl, rfl⟩ := h
  cases hst : (stB s i).1 with
  | none => exact ⟨rfl, rfl⟩
  | some c => rw [hst] at hf; have : (c : Int) < 0 := hf; omega
theorem WI.begin {s : ByteArray} {O : List ByteArray} {f : Int} {i : Nat} (h : WI s O f i) (hi : i < s.size) (hb : blk (bt s i) = false) (hf : f < 0) : WI s O (i : Int) (i + 1) := by
  unfold WI at h ⊢
  rw [if_pos (by omega)] at h
  rw [if_pos (by omega), stB_step, hb]
  obtain ⟨rfl, rfl⟩ := h
  cases hst : (stB s i).1 with
  | none => exact ⟨rfl, rfl⟩
  | some c => rw [hst] at hf; have : (c : Int) < 0 := hf; omega
theorem WI.on {s : ByteArray} {O : List ByteArray} {a i : Nat} (h : WI s O (a : Int) i) (hi : i < s.size) (hb : blk (bt s i) = false) : WI s O (a : Int) (i + 1) := by
  unfold WI at h ⊢
  rw [if_pos (by omega)] at h
  rw [if_pos (by omega), stB_step, hb]
  obtain ⟨rfl, hf⟩ := h
  cases hst : (stB s i).1 with
  | none => rw [hst] at hf; have : (a : Int) = -1 := hf; omega
  | some c => rw [hst] at hf; exact ⟨rfl, hf⟩
theorem WI.lastIn {s : ByteArray} {O : List ByteArray} {a : Nat} (h : WI s O (a : Int) s.size) : WI s (O ++ [s.extract a s.size]) (-1) (s.size + 1) := by
  unfold WI at h ⊢
  rw [if_pos (by omega)] at h
  rw [if_neg (by omega)]
  obtain ⟨rfl, hf⟩ := h
  unfold wordsB spansB Lib.closeSpans
  cases hst : (stB s s.size).1 with
  | none => rw [hst] at hf; have : (a : Int) = -1 := hf; omega
  | some c =>
    rw [hst] at hf
    have : (a : Int) = (c : Int) := hf
    have : a = c := by omega
    subst this
    simp [exts]
theorem WI.lastOut {s : ByteArray} {O : List ByteArray} {f : Int} (h : WI s O f s.size) (hf : f < 0) : WI s O f (s.size + 1) := by
  unfold WI at h ⊢
  rw [if_pos (by omega)] at h
  rw [if_neg (by omega)]
  obtain ⟨rfl, rfl⟩ := h
  unfold wordsB spansB Lib.closeSpans
  cases hst : (stB s s.size).1 with
  | none => rfl
  | some c => rw [hst] at hf; have : (c : Int) < 0 := hf; omega
theorem WI.done {s : ByteArray} {O : List ByteArray} {f : Int} {i : Nat} (h : WI s O f i) (hi : ¬ i ≤ s.size) : O = wordsB s := by
  unfold WI at h
  rwa [if_neg hi] at h

set_option maxHeartbeats 2000000 in
set_option maxRecDepth 1000000 in
theorem swords (s : ByteArray) (w : World) (hs : s.size ≤ 4194304) :
    Calls Try.prog 19 #[.string s] w fun e w' => ∃ v, e = .returned v ∧ w'.ownsRow w.heap.size 9 1 v (wordsB s).length (strs (wordsB s)) ∧ Below w.heap.size w w' := by
  obtain ⟨i0, hi, hz0, hz1, hz2⟩ := info_parts Try.info9
  have R0 : Hid ((w.alloc (.cells #[] 9)).ownsRow w.heap.size 9 1 (.slice (some ⟨w.heap.size, 0, none⟩) 0 0) ([] : List ByteArray).length (strs [])) := empty_row 9 w _ (Nat.le_refl _)
  go_enter Try.func19, Try.ntmps19
  go_wp2_with fail
  go_loopw [3, 4, 5] (fun v x y wr => ∃ (O : List ByteArray) (f : Int) (i : Nat), Hid (WI s O f i) ∧ O.length ≤ i ∧ (i ≤ s.size → f ≤ i) ∧ -1 ≤ f ∧ x = .int .i64 f ∧ y = .int .i64 (i : Nat) ∧ Hid (wr.ownsRow w.heap.size 9 1 v O.length (strs O)) ∧ Hid (Below w.heap.size w wr)) (fun _ _ y _ => (s.size + 1 - intOf y).toNat)
  case atStart => exact ⟨[], -1, 0, WI.zero s, Nat.le_refl _, fun _ => by omega, by omega, rfl, rfl, R0, (Below.refl _ _).alloc (Nat.le_refl _) _⟩
  case round =>
    obtain ⟨O, f, i, PI, hoi, hfi, hf1, rfl, rfl, R, BW⟩ := hrel
    obtain ⟨aa, cap, hv⟩ := row_form R.out
    subst hv
    by_cases h1 : i < s.size
    · have hfi' := hfi (by omega)
      have ix := fun w => index_at w s i h1
      have hbt := bt_lt s i
      have ei : ((i : Int) == (s.size : Int)) = false := by rw [beq_eq_false_iff_ne]; omega
      cases hb : blk (bt s i)
      · have n1 : ((bt s i : Int) == 32) = false := by
          rw [beq_eq_false_iff_ne]; intro e
          have : bt s i = 32 := by omega
          rw [this] at hb; exact absurd hb (by decide)
        have n2 : ((bt s i : Int) == 10) = false := by
          rw [beq_eq_false_iff_ne]; intro e
          have : bt s i = 10 := by omega
          rw [this] at hb; exact absurd hb (by decide)
        by_cases hf : f < 0
        · have PN : Hid (WI s O (i : Int) (i + 1)) := PI.out.begin h1 hb hf
          clear PI hb hfi
          generalize (bt s i : Int) = z at *
          go_wp2_with fail
          go_roundw
          case rel => exact ⟨O, (i : Int), i + 1, PN, by omega, fun _ => by omega, by omega, rfl, by go_num, R, BW⟩
          case measure => simp [intOf]; omega
        · obtain ⟨a, rfl⟩ : ∃ a : Nat, f = a := ⟨f.toNat, by omega⟩
          have PN : Hid (WI s O (a : Int) (i + 1)) := PI.out.on h1 hb
          have hf' : ¬ (a : Int) < 0 := by omega
          clear PI hb hfi
          generalize (bt s i : Int) = z at *
          go_wp2_with fail
          go_roundw
          case rel => exact ⟨O, (a : Int), i + 1, PN, by omega, fun _ => by omega, by omega, rfl, by go_num, R, BW⟩
          case measure => simp [intOf]; omega
      · have hbb : (((bt s i : Int) == 32) = true) ∨ (((bt s i : Int) == 32) = false ∧ ((bt s i : Int) == 10) = true) := by
          unfold blk at hb
          by_cases e : bt s i = 32
          · rw [e]; exact .inl rfl
          · refine .inr ⟨by rw [beq_eq_false_iff_ne]; omega, ?_⟩
            have e2 : bt s i = 10 := by simpa [e] using hb
            rw [e2]; rfl
        by_cases hf : f < 0
        · have PN : Hid (WI s O f (i + 1)) := PI.out.skip h1 hb hf
          have hf' : ¬ 0 ≤ f := by omega
          clear PI hb hfi
          generalize (bt s i : Int) = z at *
          rcases hbb with n1 | ⟨n1, n2⟩
          all_goals
            go_wp2_with fail
            go_roundw
            case rel => exact ⟨O, f, i + 1, PN, by omega, fun _ => by omega, by omega, rfl, by go_num, R, BW⟩
            case measure => simp [intOf]; omega
        · obtain ⟨a, rfl⟩ : ∃ a : Nat, f = a := ⟨f.toNat, by omega⟩
          have PN : Hid (WI s (O ++ [s.extract a i]) (-1) (i + 1)) := PI.out.cut h1 hb
          have ha0 : (0 : Int) ≤ (a : Int) := by omega
          have ha1 : a ≤ i := by omega
          clear PI hb hfi hf
          generalize (bt s i : Int) = z at *
          rcases hbb with n1 | ⟨n1, n2⟩
          all_goals
            go_wp2_with (at_builtin; refine wpList_append_own _ rfl _ _ 26 rfl w.heap.size 9 i0 (.string ⟨#[]⟩) 1 16 Try.underlying26 hi hz0 hz1 hz2 rfl (by decide) _ _ _ rfl (R.out.alloc _) ⟨wr.heap.size, 0, none⟩ 1 1 [.string (s.extract a i)] rfl rfl ?c1 ?c2 ?c3 ?c4 ?c5 ?_)
            case c1 =>
              intro j u hj
              match j, hj with
              | 0, hj => simp at hj; subst hj; simp [Addr.add]
            case c2 => intro u hu; simp at hu; subst hu; rfl
            case c3 => unfold maxLen; omega
            case c4 => omega
            case c5 => have := BW.out.size; simp; omega
            · intro v' w2 hown' hgrow _
              have hob : ∀ b, (Value.slice aa O.length cap).ownBlock = some b → w.heap.size ≤ b := fun b hb => (R.out.lt b hb).1
              have R' : Hid (w2.ownsRow w.heap.size 9 1 v' (O ++ [s.extract a i]).length (strs (O ++ [s.extract a i]))) := by
                show World.ownsRow _ _ _ _ _ _ _
                rw [strs, List.map_append, List.length_append]
                exact hown'
              have B' : Hid (Below w.heap.size w w2) := (BW.out.alloc BW.out.size _).grown hgrow (by have := BW.out.size; simp; omega) hob
              clear hown' hgrow hob R BW
              go_wp2_with fail
              go_roundw
              case rel => exact ⟨O ++ [s.extract a i], -1, i + 1, PN, by simp; omega, fun _ => by omega, by omega, rfl, by go_num, R', B'⟩
              case measure => simp [intOf]; omega
    · by_cases h2 : i = s.size
      · subst h2
        have hfi' := hfi (by omega)
        by_cases hf : f < 0
        · have PN : Hid (WI s O f (s.size + 1)) := PI.out.lastOut hf
          have hf' : ¬ 0 ≤ f := by omega
          clear PI hfi
          go_wp2_with fail
          go_roundw
          case rel => exact ⟨O, f, s.size + 1, PN, by omega, fun _ => by omega, by omega, rfl, by go_num, R, BW⟩
          case measure => simp [intOf]
        · obtain ⟨a, rfl⟩ : ∃ a : Nat, f = a := ⟨f.toNat, by omega⟩
          have PN : Hid (WI s (O ++ [s.extract a s.size]) (-1) (s.size + 1)) := PI.out.lastIn
          have ha0 : (0 : Int) ≤ (a : Int) := by omega
          have ha1 : a ≤ s.size := by omega
          clear PI hfi hf
          go_wp2_with (at_builtin; refine wpList_append_own _ rfl _ _ 26 rfl w.heap.size 9 i0 (.string ⟨#[]⟩) 1 16 Try.underlying26 hi hz0 hz1 hz2 rfl (by decide) _ _ _ rfl (R.out.alloc _) ⟨wr.heap.size, 0, none⟩ 1 1 [.string (s.extract a s.size)] rfl rfl ?c1 ?c2 ?c3 ?c4 ?c5 ?_)
          case c1 =>
            intro j u hj
            match j, hj with
            | 0, hj => simp at hj; subst hj; simp [Addr.add]
          case c2 => intro u hu; simp at hu; subst hu; rfl
          case c3 => unfold maxLen; omega
          case c4 => omega
          case c5 => have := BW.out.size; simp; omega
          · intro v' w2 hown' hgrow _
            have hob : ∀ b, (Value.slice aa O.length cap).ownBlock = some b → w.heap.size ≤ b := fun b hb => (R.out.lt b hb).1
            have R' : Hid (w2.ownsRow w.heap.size 9 1 v' (O ++ [s.extract a s.size]).length (strs (O ++ [s.extract a s.size]))) := by
              show World.ownsRow _ _ _ _ _ _ _
              rw [strs, List.map_append, List.length_append]
              exact hown'
            have B' : Hid (Below w.heap.size w w2) := (BW.out.alloc BW.out.size _).grown hgrow (by have := BW.out.size; simp; omega) hob
            clear hown' hgrow hob R BW
            go_wp2_with fail
            go_roundw
            case rel => exact ⟨O ++ [s.extract a s.size], -1, s.size + 1, PN, by simp; omega, fun _ => by omega, by omega, rfl, by go_num, R', B'⟩
            case measure => simp [intOf]
      · have h3 : (s.size : Int) < (i : Int) := by omega
        have ED : Hid (O = wordsB s) := PI.out.done (by omega)
        clear PI hfi
        go_wp2_with fail
        go_ret
        have := ED.out
        subst this
        exact ⟨_, rfl, R.out, BW.out⟩
end Go.Proofs.Ytchdhiojhdoenaa.Ru
