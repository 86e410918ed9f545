/- The program's padding, under what the library's own functions do (their contracts, handed in). -/
import Derived.Test.YtepofpmdkphhdaaDoorPad
namespace Go.Proofs.YtepofpmdkphhdaaDoor.Dec
open Go.ChangeShapes Go.WideShapes Go.ChangeAt Go.RowKit

/-- What is asked of the library's functions: a numeral, noughts, texts put together; T: what memory must hold. -/
structure LibC (T : World → Prop) : Prop where
  keep : ∀ w w', T w → Below w.heap.size w w' → T w'
  fmt : ∀ (n : Nat) w, n ≤ 9999 → T w → Calls Tryd.prog 37 #[.int .i64 n, .int .i64 10] w fun e w' => e = .returned (.string ⟨(Lib.decDigits n).toArray⟩) ∧ Below w.heap.size w w'
  rep : ∀ (c : Nat) w, c ≤ 4 → Calls Tryd.prog 38 #[.string ⟨#[48]⟩, .int .i64 c] w fun e w' => e = .returned (.string ⟨(List.replicate c (48 : UInt8)).toArray⟩) ∧ Below w.heap.size w w'
  join : ∀ (bk c : Nat) (xs : List (List UInt8)) w, (∀ (j : Nat) x, xs[j]? = some x → w.cell? ⟨bk, j, none⟩ = some (.string ⟨x.toArray⟩)) → bk < w.heap.size → xs.length ≤ 100 → xs.length ≤ c → xs.flatten.length ≤ 1000 →
    Calls Tryd.prog 36 #[.slice (some ⟨bk, 0, none⟩) xs.length c, .string ⟨#[]⟩] w fun e w' => e = .returned (.string ⟨xs.flatten.toArray⟩) ∧ Below w.heap.size w w'

set_option maxHeartbeats 1000000 in
theorem joined_any {T : World → Prop} (X : LibC T) (bk c l : Nat) (xs : List (List UInt8)) (w : World) (hl : l = xs.length) (h1 : ∀ (j : Nat) x, xs[j]? = some x → w.cell? ⟨bk, j, none⟩ = some (.string ⟨x.toArray⟩)) (h2 : bk < w.heap.size) (h3 : xs.length ≤ 100) (h4 : xs.length ≤ c) (h5 : xs.flatten.length ≤ 1000) :
    Calls Tryd.prog 17 #[.slice (some ⟨bk, 0, none⟩) l c] w fun e w' => e = .returned (.string ⟨xs.flatten.toArray⟩) ∧ Below w.heap.size w w' := by
  subst hl
  go_enter Tryd.func17, Tryd.ntmps17
  go_wp2_with fail
  refine (X.join bk c xs _ h1 h2 h3 h4 h5).mono ?_
  rintro e w1 ⟨rfl, hb⟩
  go_wp2_with fail
  go_ret
  exact ⟨rfl, hb⟩

set_option maxHeartbeats 1000000 in
theorem padded_any {T : World → Prop} (X : LibC T) (n k : Nat) (w : World) (hT : T w) (hn : n ≤ 9999) (hk : k ≤ 4) :
    Calls Tryd.prog 18 #[.int .i64 n, .int .i64 k] w fun e w' => e = .returned (.string ⟨(pad k (Lib.decDigits n)).toArray⟩) ∧ Below w.heap.size w w' := by
  have hl4 := dec_len4 n hn
  obtain ⟨L, hL⟩ : ∃ L, Lib.decDigits n = L := ⟨_, rfl⟩
  have hf := X.fmt n w hn hT
  rw [hL] at hf hl4 ⊢
  clear hL
  have fin : ∀ (c : Nat) (w2 : World), k - L.length = c → Below w.heap.size w w2 → Calls Tryd.prog 17 #[.slice (some ⟨w2.heap.size, 0, none⟩) 2 2] (w2.alloc (.cells #[.string ⟨(List.replicate c (48 : UInt8)).toArray⟩, .string ⟨L.toArray⟩] 9)) fun e w' => e = .returned (.string ⟨(pad k L).toArray⟩) ∧ Below w.heap.size w w' := by
    intro c w2 hc hb2
    refine (joined_any X w2.heap.size 2 2 [List.replicate c 48, L] _ rfl ?_ (by simp) (by simp) (by simp) (by simp; omega)).mono ?_
    · intro j x hj
      rcases (by have := (List.getElem?_eq_some_iff.1 hj).1; simp at this; omega : j = 0 ∨ j = 1) with rfl | rfl
      · simp at hj; subst hj; simp [go_sem]
      · simp at hj; subst hj; simp [go_sem]
    · rintro e w3 ⟨rfl, hb3⟩
      refine ⟨by unfold pad; rw [hc]; simp, (hb2.alloc hb2.size _).trans (hb3.mono ?_)⟩
      have := hb2.size
      simp
      omega
  have FIN : Hid _ := fin
  clear fin
  go_enter Tryd.func18, Tryd.ntmps18
  go_wp2_with fail
  refine hf.mono ?_
  rintro e w1 ⟨rfl, hb⟩
  clear hf hT
  go_wp2_with fail
  all_goals
    first
    | (have e1 : k - L.length = 0 := by omega
       refine (X.rep 0 _ (by omega)).mono ?_
       rintro e w2 ⟨rfl, hb2⟩
       go_wp2_with fail
       refine (FIN.out 0 w2 e1 (hb.trans (hb2.mono hb.size))).mono ?_
       rintro e w3 ⟨rfl, hb3⟩
       go_wp2_with fail
       go_ret
       exact ⟨rfl, hb3⟩)
    | (have e0 : (k : Int) - (L.length : Int) = ((k - L.length : Nat) : Int) := by omega
       rw [e0]
       refine (X.rep (k - L.length) _ (by omega)).mono ?_
       rintro e w2 ⟨rfl, hb2⟩
       go_wp2_with fail
       refine (FIN.out (k - L.length) w2 rfl (hb.trans (hb2.mono hb.size))).mono ?_
       rintro e w3 ⟨rfl, hb3⟩
       go_wp2_with fail
       go_ret
       exact ⟨rfl, hb3⟩)
end Go.Proofs.YtepofpmdkphhdaaDoor.Dec
