/- The law FnExactStamp walked, where the two tables are as the program lays them. -/
import Derived.Test.YtkegllbedejkgaaDoorDateOf
import Derived.Test.YtkegllbedejkgaaDoorLibC
import Derived.WalkSmall
import Derived.Lib.LaidTab
namespace Go.Proofs.YtkegllbedejkgaaDoor.Stamp
open Go.ChangeShapes Go.WideShapes Go.ChangeAt Go.RowKit Dates Dec

theorem month_of (y d : Int) (hd : 0 ≤ d) : ∀ n : Nat, n ≤ 12 → d < cum y ((n : Int) + 1) → ∃ m : Int, 1 ≤ m ∧ m ≤ n ∧ cum y m ≤ d ∧ d < cum y (m + 1)
  | 0, _, h => by
    have e : cum y (((0 : Nat) : Int) + 1) = 0 := cum_one y
    rw [e] at h; omega
  | n + 1, hn, h => by
    by_cases c : d < cum y ((n : Int) + 1)
    · obtain ⟨m, h1, h2, h3, h4⟩ := month_of y d hd n (by omega) c
      exact ⟨m, h1, by omega, h3, h4⟩
    · have e : ((n + 1 : Nat) : Int) + 1 = (n : Int) + 1 + 1 := by omega
      rw [e] at h
      exact ⟨(n : Int) + 1, by omega, by omega, by omega, h⟩
theorem cum_last (y : Int) : cum y 13 = 365 + lp y := by
  have h := cum_succ y 12 (by omega) (by omega)
  rw [show (12 : Int) + 1 = 13 by omega] at h
  rw [h]
  unfold cum dim
  simp
  omega

/-- The date of a day, told by the numbers alone. -/
theorem date_of (T : Int) (h0 : 0 ≤ T) (h1 : T ≤ 36525) : ∃ Y M r : Int, 2000 ≤ Y ∧ Y ≤ 2100 ∧ 1 ≤ M ∧ M ≤ 12 ∧ 0 ≤ r ∧ r < dim Y M ∧ r + ys Y + cum Y M = T := by
  obtain ⟨b1, b2⟩ := doy_bd T h0 h1
  obtain ⟨Y, hY⟩ : ∃ Y, Y = 2000 + T * 4 / 1461 := ⟨_, rfl⟩
  rw [← hY] at b1 b2
  obtain ⟨M, m1, m2, m3, m4⟩ := month_of Y (T - ys Y) b1 12 (by omega) (by
    have := cum_last Y
    rw [show ((12 : Nat) : Int) + 1 = 13 by omega]; omega)
  have := cum_succ Y M m1 m2
  exact ⟨Y, M, T - ys Y - cum Y M, by omega, by omega, m1, m2, by omega, by omega, by omega⟩

def Tb (w : World) : Prop := Months w ∧ Lib.TabIs Tryd.prog w "internal/strconv.uint64pow10" .u64 Lib.pow10Tab ∧ 1 < w.heap.size
theorem gP : Tryd.prog.globalNamed "internal/strconv.uint64pow10" = some 1 := by kernel_rfl
theorem Tb.keep (w w' : World) (h : Tb w) (hb : Below w.heap.size w w') : Tb w' :=
  ⟨h.1.below hb h.1.size, var?_below hb gP h.2.2 h.2.1, Nat.lt_of_lt_of_le h.2.2 hb.size⟩
theorem lib : LibC Tb := libC Tb Tb.keep (fun _ h => h.2.1)

set_option maxHeartbeats 400000 in
theorem sstamp_no (t : Int) (w : World) (h : t < 0 ∨ 52596000 < t) : Calls Tryd.prog 12 #[.int .i64 t] w fun e w' => e = .returned (.string ⟨#[]⟩) ∧ Below w.heap.size w w' := by
  have HD : Hid (∀ w, Calls Tryd.prog 30 #[.int .i64 t] w fun e w' => e = .returned (.tuple #[.agg #[.int .i64 0, .int .i64 0, .int .i64 0, .int .i64 0, .int .i64 0], .bool false]) ∧ Below w.heap.size w w') := fun w => date_no t w h
  clear h
  go_enter Tryd.func12, Tryd.ntmps12
  go_wp2_with fail
  refine (HD.out _).mono ?_
  rintro e w1 ⟨rfl, hb1⟩
  have B1 : Hid (Below w.heap.size w w1) := hb1
  clear hb1
  go_wp2_with fail
  go_ret
  exact ⟨rfl, B1.out.alloc B1.out.size _⟩
set_option maxHeartbeats 400000 in
theorem istamp_no (t : Int) (w : World) (h : t < 0 ∨ 52596000 < t) : Calls Tryd.prog 21 #[.int .i64 t] w fun e w' => e = .returned (.string ⟨#[]⟩) ∧ Below w.heap.size w w' := by
  have HD : Hid (∀ w, Calls Tryd.prog 41 #[.int .i64 t] w fun e w' => e = .returned (.tuple #[.agg #[.int .i64 0, .int .i64 0, .int .i64 0, .int .i64 0, .int .i64 0], .bool false]) ∧ Below w.heap.size w w') := fun w => idate_no t w h
  clear h
  go_enter Tryd.func21, Tryd.ntmps21
  go_wp2_with fail
  refine (HD.out _).mono ?_
  rintro e w1 ⟨rfl, hb1⟩
  have B1 : Hid (Below w.heap.size w w1) := hb1
  clear hb1
  go_wp2_with fail
  go_ret
  exact ⟨rfl, B1.out.alloc B1.out.size _⟩

theorem stamp_size (Y M D h m : Nat) (hY : Y ≤ 9999) (hM : M ≤ 99) (hD : D ≤ 99) (hh : h ≤ 99) (hm : m ≤ 99) : (⟨(stampOf Y M D h m).toArray⟩ : ByteArray).size ≤ 20 := by
  show (stampOf Y M D h m).toArray.size ≤ 20
  have e : stampOf Y M D h m = pad 4 (Lib.decDigits Y) ++ [45] ++ pad 2 (Lib.decDigits M) ++ [45] ++ pad 2 (Lib.decDigits D) ++ [84] ++ pad 2 (Lib.decDigits h) ++ [58] ++ pad 2 (Lib.decDigits m) ++ [90] := rfl
  rw [List.size_toArray, e]
  simp only [List.length_append, List.length_cons, List.length_nil, pad_len 4 _ (dec_len4 Y hY), pad_len 2 _ (dec_len2 M hM), pad_len 2 _ (dec_len2 D hD), pad_len 2 _ (dec_len2 h hh), pad_len 2 _ (dec_len2 m hm)]
  omega
/-- What both say of a time. -/
theorem both (t : Int) : ∃ s : ByteArray, s.size ≤ 20 ∧ (∀ w, Calls Tryd.prog 12 #[.int .i64 t] w fun e w' => e = .returned (.string s) ∧ Below w.heap.size w w') ∧
    (∀ w, Tb w → Calls Tryd.prog 21 #[.int .i64 t] w fun e w' => e = .returned (.string s) ∧ Below w.heap.size w w') := by
  by_cases h : 0 ≤ t ∧ t ≤ 52596000
  · obtain ⟨h0, h1⟩ := h
    obtain ⟨Y, M, r, a1, a2, a3, a4, a5, a6, a7⟩ := date_of (t / 1440) (by omega) (by omega)
    have db := dim_bd Y M
    obtain ⟨y, hy⟩ : ∃ y : Nat, Y = y := ⟨Y.toNat, by omega⟩
    obtain ⟨m, hm⟩ : ∃ m : Nat, M = m := ⟨M.toNat, by omega⟩
    obtain ⟨d, hd⟩ : ∃ d : Nat, r + 1 = d := ⟨(r + 1).toNat, by omega⟩
    obtain ⟨hh, hhh⟩ : ∃ hh : Nat, t / 60 % 24 = hh := ⟨(t / 60 % 24).toNat, by omega⟩
    obtain ⟨mi, hmi⟩ : ∃ mi : Nat, t % 60 = mi := ⟨(t % 60).toNat, by omega⟩
    have D1 : ∀ w, Calls Tryd.prog 30 #[.int .i64 t] w fun e w' => e = .returned (.tuple #[.agg #[.int .i64 y, .int .i64 m, .int .i64 d, .int .i64 hh, .int .i64 mi], .bool true]) ∧ Below w.heap.size w w' := by
      intro w
      refine (date_yes t w h0 h1).mono ?_
      rintro e w' ⟨Y2, M2, r2, rfl, b1, b2, b3, b4, b5, b6, b7, hb⟩
      obtain ⟨e1, e2, e3⟩ := unique (t / 1440) Y M r Y2 M2 r2 a1 a2 a3 a4 a5 a6 a7 (by omega) b1 b2 b3 b4 b5 b6 b7
      subst e1 e2 e3
      exact ⟨by rw [hd, hhh, hmi, ← hy, ← hm], hb⟩
    have D2 : ∀ w, Months w → Calls Tryd.prog 41 #[.int .i64 t] w fun e w' => e = .returned (.tuple #[.agg #[.int .i64 y, .int .i64 m, .int .i64 d, .int .i64 hh, .int .i64 mi], .bool true]) ∧ Below w.heap.size w w' := by
      intro w hM
      refine (idate_yes t w hM h0 h1).mono ?_
      rintro e w' ⟨Y2, M2, r2, rfl, b1, b2, b3, b4, b5, b6, b7, hb⟩
      obtain ⟨e1, e2, e3⟩ := unique (t / 1440) Y M r Y2 M2 r2 a1 a2 a3 a4 a5 a6 a7 (by omega) b1 b2 b3 b4 b5 b6 b7
      subst e1 e2 e3
      exact ⟨by rw [hd, hhh, hmi, ← hy, ← hm], hb⟩
    refine ⟨⟨(stampOf y m d hh mi).toArray⟩, stamp_size y m d hh mi (by omega) (by omega) (by omega) (by omega) (by omega), fun w => sstamp_any t y m d hh mi w (by omega) (by omega) (by omega) (by omega) (by omega) D1, fun w hT => istamp_any lib t y m d hh mi w hT (by omega) (by omega) (by omega) (by omega) (by omega) (D2 w hT.1)⟩
  · exact ⟨⟨#[]⟩, by decide, fun w => sstamp_no t w (by omega), fun w _ => istamp_no t w (by omega)⟩

end Go.Proofs.YtkegllbedejkgaaDoor.Stamp
