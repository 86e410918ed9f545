/- The law FnFolded walked: it returns true, whatever the code. -/
import Derived.Test.YtchdhiojhdoenaaGoE
import Derived.Test.YtchdhiojhdoenaaGoB
import Derived.Test.YtchdhiojhdoenaaGoL
namespace Go.Proofs.Ytchdhiojhdoenaa.Ru
open Go.ChangeShapes Go.WideShapes Go.ChangeAt Go.RowKit

set_option maxHeartbeats 400000 in
theorem big_yes (a : Option Addr) (n cap : Nat) (w : World) (h : 1048576 < n) : Calls Try.prog 4 #[.slice a n cap] w fun e w' => e = .returned (.bool true) ∧ w' = w := by
  have h' : (1048576 : Int) < (n : Int) := by omega
  go_enter Try.func4, Try.ntmps4
  go_wp2
  go_ret
  exact ⟨rfl, rfl⟩
set_option maxHeartbeats 400000 in
theorem big_no (a : Option Addr) (n cap : Nat) (w : World) (h : n ≤ 1048576) : Calls Try.prog 4 #[.slice a n cap] w fun e w' => e = .returned (.bool false) ∧ w' = w := by
  have h' : ¬ (1048576 : Int) < (n : Int) := by omega
  go_enter Try.func4, Try.ntmps4
  go_wp2
  go_ret
  exact ⟨rfl, rfl⟩

theorem cat_fld (w : Nat) (hw : 1 ≤ w) (l : List ByteArray) : (cat (fld w l).1).length ≤ bnd l := by
  rw [← List.reverse_reverse l]
  generalize l.reverse = q
  induction q with
  | nil => exact Nat.zero_le _
  | cons x r ih =>
    rw [List.reverse_cons, bnd_snoc, fld_snoc]
    have lx : x.data.toList.length = x.size := by simp
    unfold fst1
    split
    · rename_i h
      obtain ⟨I, e1, e2⟩ := snoc_of h.1
      show (cat ((fld w r.reverse).1.set _ _)).length ≤ _
      rw [e2]
      rw [e1, cat_app, cat_one, List.length_append] at ih
      rw [cat_app, cat_one, List.length_append]
      have : ((fld w r.reverse).1.getD ((fld w r.reverse).1.length - 1) emp ++ ⟨#[32]⟩ ++ x).data.toList.length = ((fld w r.reverse).1.getD ((fld w r.reverse).1.length - 1) emp).data.toList.length + 1 + x.size := by
        simp
        omega
      omega
    · show (cat ((fld w r.reverse).1 ++ (chs x w).1)).length ≤ _
      rw [cat_app, cat_chs x w hw, List.length_append]
      omega
theorem cat_len (s : ByteArray) (c : Nat) (hc : 1 ≤ c) (hs : s.size ≤ 20000) : (cat (fld c (wordsB s)).1).length ≤ 100000 := by
  have := cat_fld c hc (wordsB s)
  have := words_bnd s
  omega
theorem cat_take (L : List ByteArray) (k : Nat) (h : k < L.length) : (⟨(cat (L.take k)).toArray⟩ : ByteArray) ++ L.getD k emp = ⟨(cat (L.take (k + 1))).toArray⟩ := by
  rw [take_snoc L k h, cat_app, cat_one]
  apply ByteArray.ext
  rw [ByteArray.data_append]
  simp
theorem cat_take_len (L : List ByteArray) (k : Nat) : (cat (L.take k)).length ≤ (cat L).length := by
  have : cat L = cat (L.take k) ++ cat (L.drop k) := by rw [← cat_app, List.take_append_drop]
  rw [this, List.length_append]
  omega

/-- what both fold, and what the lines are like -/
theorem both_lines (s : ByteArray) (b : Int) (hs : s.size ≤ 20000) : ∃ L : List ByteArray, L.length ≤ 100000 ∧
    (∀ w, Calls Try.prog 7 #[.string s, .int .i64 b] w fun e w' => ∃ v, e = .returned v ∧ w'.ownsRow w.heap.size 9 1 v L.length (strs L) ∧ Below w.heap.size w w') ∧
    (∀ w, Calls Try.prog 6 #[.string s, .int .i64 b] w fun e w' => ∃ v, e = .returned v ∧ w'.ownsRow w.heap.size 9 1 v L.length (strs L) ∧ Below w.heap.size w w') ∧
    ((b < 8 ∨ 200 < b) → L.length = 0) ∧ (8 ≤ b → b ≤ 200 → (∀ x ∈ L, 0 < x.size ∧ x.size ≤ 100000 ∧ (ascB s = true → (x.size : Int) ≤ b)) ∧ bareL (cat L) = bareL s.data.toList ∧ (cat L).length ≤ 100000) := by
  by_cases h : b < 8 ∨ 200 < b ∨ 20000 < s.size
  · exact ⟨[], by decide, fun w => sfold_no s b w h, fun w => ifold_no s b w h, fun _ => rfl, fun h1 h2 => by omega⟩
  · obtain ⟨c, rfl⟩ : ∃ c : Nat, b = c := ⟨b.toNat, by omega⟩
    have F := finv c (by omega) (wordsB s)
    have f1 := F.len
    have f2 := F.size
    have wb := words_bnd s
    refine ⟨(fld c (wordsB s)).1, by omega, fun w => sfold s c w (by omega) (by omega) (by omega) fun x hx p w hp => rune_any x p w (by omega) hp, fun w => ifold s c w (by omega) (by omega) (by omega), fun h1 => by omega, fun h1 h2 => ⟨fun x hx => ⟨?_, ?_, fun ha => ?_⟩, bare_all s c (by omega), ?_⟩⟩
    · exact fld_pos c (by omega) (wordsB s) (fun y hy => (words_pos s y hy).1) x hx
    · have := f2 x hx; omega
    · have := (fld_asc c (by omega) (wordsB s) (asc_words s (ascB_of ha))).1 x hx
      omega
    · exact cat_len s c (by omega) (by omega)

set_option maxHeartbeats 4000000 in
theorem foldedLaw (a0 : Option Addr) (n0 cap0 : Nat) (w : World) (h : Rd.Code w a0 n0 cap0) :
    Calls Try.prog 3 #[.slice a0 n0 cap0] w fun e w' => e = .returned (.bool true) ∧ Below w.heap.size w w' := by
  by_cases hb : 1048576 < n0
  · go_enter Try.func3, Try.ntmps3
    go_wp2_with fail
    refine (big_yes a0 n0 cap0 _ hb).mono ?_
    rintro e w1 ⟨rfl, hw⟩
    have hw' := hw.symm
    subst hw'
    clear hw
    go_wp2_with fail
    go_ret
    exact ⟨rfl, Below.refl _ _⟩
  · have hn : n0 ≤ 1048576 := by omega
    have DF : Hid (Calls Try.prog 5 #[.slice a0 n0 cap0] w fun e w' => (∃ (t : ByteArray) (b : Int), t.size ≤ 20000 ∧ e = .returned (.tuple #[.string t, .int .i64 b])) ∧ Below w.heap.size w w') := Rd.drawFold_any a0 n0 cap0 w h hn
    clear hb h
    go_enter Try.func3, Try.ntmps3
    go_wp2_with fail
    refine (big_no a0 n0 cap0 _ hn).mono ?_
    rintro e wz ⟨rfl, hw⟩
    have hw' := hw.symm
    subst hw'
    clear hw
    go_wp2_with fail
    refine (Calls.mono DF.out) ?_
    rintro e w1 ⟨⟨t, b, ht, rfl⟩, b1⟩
    have B1 : Hid (Below w.heap.size w w1) := b1
    obtain ⟨L, hL, h7, h6, hz, hok⟩ := both_lines t b ht
    have H7 : Hid (∀ w, Calls Try.prog 7 #[.string t, .int .i64 b] w fun e w' => ∃ v, e = .returned v ∧ w'.ownsRow w.heap.size 9 1 v L.length (strs L) ∧ Below w.heap.size w w') := h7
    have H6 : Hid (∀ w, Calls Try.prog 6 #[.string t, .int .i64 b] w fun e w' => ∃ v, e = .returned v ∧ w'.ownsRow w.heap.size 9 1 v L.length (strs L) ∧ Below w.heap.size w w') := h6
    have HZ : Hid ((b < 8 ∨ 200 < b) → L.length = 0) := hz
    have HK : Hid (8 ≤ b → b ≤ 200 → (∀ x ∈ L, 0 < x.size ∧ x.size ≤ 100000 ∧ (ascB t = true → (x.size : Int) ≤ b)) ∧ bareL (cat L) = bareL t.data.toList ∧ (cat L).length ≤ 100000) := hok
    clear b1 h7 h6 hz hok DF
    obtain ⟨n, hnn⟩ : ∃ n, n = L.length := ⟨_, rfl⟩
    have HN : Hid (n = L.length) := hnn
    rw [← hnn] at H7 H6 HZ hL
    clear hnn
    go_wp2_with fail
    refine (H6.out _).mono ?_
    rintro e w2 ⟨v1, rfl, r2, b2⟩
    have R2 : Hid (w2.ownsRow w1.heap.size 9 1 v1 n (strs L)) := r2
    have B2 : Hid (Below w.heap.size w w2) := B1.out.trans (b2.mono B1.out.size)
    obtain ⟨a1, c1, hv1⟩ := row_form r2
    subst hv1
    clear r2 b2
    go_wp2_with fail
    refine (H7.out _).mono ?_
    rintro e w3 ⟨v2, rfl, r3, b3⟩
    have R3 : Hid (w3.ownsRow w1.heap.size 9 1 (.slice a1 n c1) n (strs L)) := row_below R2.out b3
    have B3 : Hid (Below w.heap.size w w3) := B2.out.trans (b3.mono B2.out.size)
    obtain ⟨a2, c2, hv2⟩ := row_form r3
    subst hv2
    clear r3 b3 R2 B2
    have nn : ((n : Int) != (n : Int)) = false := by simp
    by_cases hw8 : b < 8
    · have n0' : n = 0 := HZ.out (.inl hw8)
      subst n0'
      go_wp2_with fail
      go_ret
      exact ⟨rfl, B3.out⟩
    by_cases hw2 : 200 < b
    · have n0' : n = 0 := HZ.out (.inr hw2)
      subst n0'
      go_wp2_with fail
      go_ret
      exact ⟨rfl, B3.out⟩
    obtain ⟨k1, k2, k3⟩ := HK.out (by omega) (by omega)
    have K1 : Hid (∀ x ∈ L, 0 < x.size ∧ x.size ≤ 100000 ∧ (ascB t = true → (x.size : Int) ≤ b)) := k1
    have CE : Hid (∀ k, k < n → ∃ g, a1 = some ⟨g, 0, none⟩ ∧ w3.cell? ⟨g, k, none⟩ = some (.string (L.getD k emp))) := fun k hk => by
      have R := R3.out
      rw [HN.out] at R hk
      rcases srow_cases R with ⟨h0, _⟩ | ⟨g, cc, h0, _⟩
      · rw [h0] at hk; exact absurd hk (by simp)
      · simp at h0
        obtain ⟨rfl, rfl⟩ := h0
        exact ⟨g, rfl, srow_cell R k hk⟩
    have X : ∃ X : ByteArray, (∀ w, Calls Try.prog 9 #[.string ⟨(cat L).toArray⟩] w fun e w' => e = .returned (.string X) ∧ Below w.heap.size w w') ∧ (∀ w, Calls Try.prog 9 #[.string t] w fun e w' => e = .returned (.string X) ∧ Below w.heap.size w w') := by
      refine ⟨⟨(bareL t.data.toList).toArray⟩, fun w => ?_, fun w => bare_any t w (by omega)⟩
      have := bare_any ⟨(cat L).toArray⟩ w (by show (cat L).toArray.size ≤ _; simp; omega)
      have e : (⟨(cat L).toArray⟩ : ByteArray).data.toList = cat L := by simp
      rw [e, k2] at this
      exact this
    obtain ⟨X, x1, x2⟩ := X
    have X1 : Hid (∀ w, Calls Try.prog 9 #[.string ⟨(cat (L.take n)).toArray⟩] w fun e w' => e = .returned (.string X) ∧ Below w.heap.size w w') := by
      show ∀ w, _
      rw [HN.out, List.take_length]
      exact x1
    have X2 : Hid (∀ w, Calls Try.prog 9 #[.string t] w fun e w' => e = .returned (.string X) ∧ Below w.heap.size w w') := x2
    have PL : Hid (∀ w, Calls Try.prog 8 #[.string t] w fun e w' => e = .returned (.bool (ascB t)) ∧ w' = w) := fun w => plain_any t w (by omega)
    have CL : Hid ((cat L).length ≤ 100000) := k3
    have xx : (X.toList == X.toList) = true := by simp
    clear k1 k2 k3 x1 x2 R3 HK HZ H6 H7
    go_wp2_with fail
    go_loop [6, 7] (fun al y => ∃ k : Nat, k ≤ n ∧ y = .int .i64 k ∧ al = .string ⟨(cat (L.take k)).toArray⟩) (fun _ y => n - (intOf y).toNat)
    case atStart => exact ⟨0, Nat.zero_le _, rfl, rfl⟩
    case round =>
      obtain ⟨k, hk, rfl, rfl⟩ := hrel
      by_cases hlt : k < n
      · obtain ⟨g, rfl, q⟩ := CE.out k hlt
        have hkL : k < L.length := by rw [← HN.out]; exact hlt
        obtain ⟨p1, p2, p3⟩ := K1.out _ (getD_mem L k hkL)
        have CT : Hid ((⟨(cat (L.take k)).toArray⟩ : ByteArray) ++ L.getD k emp = ⟨(cat (L.take (k + 1))).toArray⟩) := cat_take L k hkL
        have cl := cat_take_len L k
        have cl2 : (cat (L.take k)).length ≤ 100000 := Nat.le_trans cl CL.out
        have i0 : (0 : Int) ≤ (k : Int) := by omega
        have i1 : (k : Int) < (n : Int) := by omega
        have he : (L.getD k emp).toList.isEmpty = false := by
          rw [Lib.toList_data]
          cases c : (L.getD k emp).data.toList.isEmpty
          · rfl
          · exfalso
            have e0 := List.isEmpty_iff.1 c
            have : (L.getD k emp).data.toList.length = (L.getD k emp).size := by simp
            rw [e0] at this
            have : 0 = (L.getD k emp).size := this
            omega
        generalize L.getD k emp = x at *
        cases hP : ascB t
        · rw [hP] at PL
          go_wp2_with fail
          refine (PL.out _).mono ?_
          rintro e wz ⟨rfl, hw⟩
          have hw' := hw.symm
          subst hw'
          clear hw
          go_wp2_with fail
          go_round
          case rel => exact ⟨k + 1, by omega, by go_num, by rw [CT.out]⟩
          case measure => simp [intOf]; omega
        · have p4 : ¬ b < (x.size : Int) := by have := p3 hP; omega
          rw [hP] at PL
          go_wp2_with fail
          refine (PL.out _).mono ?_
          rintro e wz ⟨rfl, hw⟩
          have hw' := hw.symm
          subst hw'
          clear hw
          go_wp2_with fail
          go_round
          case rel => exact ⟨k + 1, by omega, by go_num, by rw [CT.out]⟩
          case measure => simp [intOf]; omega
      · have ek : k = n := by omega
        subst ek
        go_wp2_with fail
        refine (X1.out _).mono ?_
        rintro e w4 ⟨rfl, b4⟩
        have B4 : Hid (Below w.heap.size w w4) := B3.out.trans (b4.mono B3.out.size)
        clear b4
        go_wp2_with fail
        refine (X2.out _).mono ?_
        rintro e w5 ⟨rfl, b5⟩
        have B5 : Hid (Below w.heap.size w w5) := B4.out.trans (b5.mono B4.out.size)
        clear b5
        go_wp2_with fail
        go_ret
        exact ⟨rfl, B5.out⟩
end Go.Proofs.Ytchdhiojhdoenaa.Ru
