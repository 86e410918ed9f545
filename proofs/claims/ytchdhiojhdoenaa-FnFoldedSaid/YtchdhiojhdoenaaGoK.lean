/- What Fold calls, in the program: bounds, the library's words, its join of three. -/
import Derived.Test.YtchdhiojhdoenaaGoT
import Derived.Test.YtchdhiojhdoenaaShelf
namespace Go.Proofs.Ytchdhiojhdoenaa.Ru
open Go.ChangeShapes Go.WideShapes Go.ChangeAt Go.RowKit

set_option maxHeartbeats 400000 in
theorem iwithin (n l h : Int) (w : World) : Calls Try.prog 14 #[.int .i64 n, .int .i64 l, .int .i64 h] w fun e w' => e = .returned (.bool (decide (l ≤ n) && decide (n ≤ h))) ∧ w' = w := by
  by_cases h1 : l ≤ n
  · by_cases h2 : n ≤ h
    · rw [decide_eq_true h1, decide_eq_true h2]
      go_enter Try.func14, Try.ntmps14
      go_wp2
      go_ret
      exact ⟨rfl, rfl⟩
    · have h3 : decide (n ≤ h) = false := decide_eq_false h2
      rw [decide_eq_true h1, h3]
      go_enter Try.func14, Try.ntmps14
      go_wp2
      go_ret
      exact ⟨rfl, rfl⟩
  · rw [decide_eq_false h1]
    go_enter Try.func14, Try.ntmps14
    go_wp2
    go_ret
    exact ⟨rfl, rfl⟩

theorem iparts (w : World) : PredAt Try.prog 16 #[] encR blk w := fun W r _ => by
  unfold FnGives
  unfold blk
  by_cases h1 : r = 32
  · have e1 : ((r : Int) == 32) = true := by rw [h1]; rfl
    have e1' : (r == 32) = true := by rw [h1]; rfl
    rw [e1']
    clear h1 e1'
    go_enter Try.func16, Try.ntmps16
    go_wp2
    go_ret
    exact ⟨rfl, 0, rfl⟩
  · have e1 : ((r : Int) == 32) = false := by rw [beq_eq_false_iff_ne]; omega
    have e1' : (r == 32) = false := by rw [beq_eq_false_iff_ne]; exact h1
    rw [e1']
    by_cases h2 : r = 10
    · have e2 : ((r : Int) == 10) = true := by rw [h2]; rfl
      have e2' : (r == 10) = true := by rw [h2]; rfl
      rw [e2']
      clear h1 h2 e1' e2'
      go_enter Try.func16, Try.ntmps16
      go_wp2
      go_ret
      exact ⟨rfl, 0, rfl⟩
    · have e2 : ((r : Int) == 10) = false := by rw [beq_eq_false_iff_ne]; omega
      have e2' : (r == 10) = false := by rw [beq_eq_false_iff_ne]; exact h2
      rw [e2']
      clear h1 h2 e1' e2'
      go_enter Try.func16, Try.ntmps16
      go_wp2
      go_ret
      exact ⟨rfl, 0, rfl⟩

theorem ifields (s : ByteArray) (w : World) (hs : s.size ≤ 20000) :
    Calls Try.prog 15 #[.string s, .func (.func 16) #[] #[]] w fun e w' => ∃ A, e = .returned (.slice (some ⟨A, 0, none⟩) (wordsB s).length (wordsB s).length) ∧ Cs w' A (wordsB s) ∧ Below w.heap.size w w' := by
  have h := Try.strings_FieldsFunc 16 #[] (enters_of Try.func16 (by kernel_rfl) rfl) blk s w (by omega) (iparts w)
  rw [words_same] at h
  refine h.mono ?_
  rintro e w' ⟨A, rfl, hA, R, B⟩
  exact ⟨A, rfl, ⟨(R.lt A rfl).2, fun j hj => srow_cell R j hj⟩, B⟩

theorem join3 (l x : ByteArray) : (⟨(Lib.join (([l, ⟨#[32]⟩, x] : List ByteArray).map (·.data.toList)) (⟨#[]⟩ : ByteArray).data.toList).toArray⟩ : ByteArray) = l ++ ⟨#[32]⟩ ++ x := by
  apply ByteArray.ext
  simp [Lib.join, ByteArray.data_append]

set_option maxHeartbeats 1000000 in
theorem ijoined (bk : Nat) (l x : ByteArray) (w : World) (hl : l.size ≤ 1000000) (hx : x.size ≤ 1000000) (hbk : bk < w.heap.size) (h0 : w.cell? ⟨bk, 0, none⟩ = some (.string l)) (h1 : w.cell? ⟨bk, 1, none⟩ = some (.string ⟨#[32]⟩)) (h2 : w.cell? ⟨bk, 2, none⟩ = some (.string x)) :
    Calls Try.prog 18 #[.slice (some ⟨bk, 0, none⟩) 3 3] w fun e w' => e = .returned (.string (l ++ ⟨#[32]⟩ ++ x)) ∧ Below w.heap.size w w' := by
  have e3 := join3 l x
  have J : Hid (Calls Try.prog 24 #[.slice (some ⟨bk, 0, none⟩) 3 3, .string ⟨#[]⟩] w fun e w' => e = .returned (.string (l ++ ⟨#[32]⟩ ++ x)) ∧ Below w.heap.size w w') := by
    have := Try.strings_Join bk 0 3 [l, ⟨#[32]⟩, x] ⟨#[]⟩ w (fun j y hj => by
      match j, hj with
      | 0, hj => simp at hj; subst hj; simpa using h0
      | 1, hj => simp at hj; subst hj; simpa using h1
      | 2, hj => simp at hj; subst hj; simpa using h2) hbk (by simp) (by simp) (by simp [Lib.join]; omega)
    rw [e3] at this
    exact this
  clear h0 h1 h2 e3
  go_enter Try.func18, Try.ntmps18
  go_wp2_with fail
  refine (Calls.mono J.out) ?_
  rintro e w' ⟨rfl, hb⟩
  have HB : Hid (Below w.heap.size w w') := hb
  clear hb
  go_wp2_with fail
  go_ret
  exact ⟨rfl, HB.out⟩

theorem cond_same {b : Nat} {L : List ByteArray} {room : Nat} {x : ByteArray} (hw : 1 ≤ b) (h3 : room ≤ b) (h4 : L.length = 0 → room = 0) :
    ((chs x b).1.length = 1 ∧ (chs x b).2 < room) ↔ (0 < L.length ∧ cnt x + 1 ≤ room) := by
  have one := chf_one x b (cnt x) (cnt x) 0 (by omega) hw
  constructor
  · rintro ⟨a1, a2⟩
    have c := one.1 a1
    have e : chs x b = ([seg x 0 (cnt x)], cnt x - 0) := chf_last x b (cnt x) (cnt x) 0 c
    rw [e] at a2
    have a2' : cnt x - 0 < room := a2
    refine ⟨?_, by omega⟩
    by_cases z : L.length = 0
    · have := h4 z; omega
    · omega
  · rintro ⟨_, a2⟩
    have c : cnt x ≤ 0 + b := by omega
    have e : chs x b = ([seg x 0 (cnt x)], cnt x - 0) := chf_last x b (cnt x) (cnt x) 0 c
    refine ⟨one.2 c, ?_⟩
    rw [e]
    show cnt x - 0 < room
    omega
theorem chs_cnt {b : Nat} {x : ByteArray} (hw : 1 ≤ b) (h : (chs x b).1.length = 1) : (chs x b).2 = cnt x := by
  have c := (chf_one x b (cnt x) (cnt x) 0 (by omega) hw).1 h
  have e : chs x b = ([seg x 0 (cnt x)], cnt x - 0) := chf_last x b (cnt x) (cnt x) 0 c
  rw [e]
  rfl
end Go.Proofs.Ytchdhiojhdoenaa.Ru
