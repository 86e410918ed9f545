/- A clock's, a span's and a change's text of both sides, whatever the time. -/
import Derived.Test.YtoaabdmbgemkjaaGreatDoorTu
import Derived.Test.YtoaabdmbgemkjaaGreatDoorCh
namespace Go.Proofs.YtoaabdmbgemkjaaGreatDoor.Tx
open Go.ChangeShapes Go.WideShapes Go.ChangeAt Go.RowKit Dates Dec Kt
/-- what a time's clock is told as, of both sides -/
structure Ck (T : World → Prop) (t : Int) (R : List UInt8) : Prop where
  len : R.length = 6
  s : ∀ w, Calls Tryz.prog 12 #[.int .i64 t] w fun e w' => e = .returned (.string ⟨R.toArray⟩) ∧ Below w.heap.size w w'
  i : ∀ w, T w → Calls Tryz.prog 21 #[.int .i64 t] w fun e w' => e = .returned (.string ⟨R.toArray⟩) ∧ Below w.heap.size w w'
structure Sx (T : World → Prop) (f t : Int) (R : List UInt8) : Prop where
  len : R.length = 9
  s : ∀ w, Calls Tryz.prog 13 #[.int .i64 f, .int .i64 t] w fun e w' => e = .returned (.string ⟨R.toArray⟩) ∧ Below w.heap.size w w'
  i : ∀ w, T w → Calls Tryz.prog 22 #[.agg #[.int .i64 f, .int .i64 t]] w fun e w' => e = .returned (.string ⟨R.toArray⟩) ∧ Below w.heap.size w w'
theorem ck_any {T : World → Prop} (X : LibC T) (hM : ∀ w, T w → Months w) (t : Int) (h0 : 0 ≤ t) (h1 : t ≤ 52596000) : ∃ R, Ck T t R := by
  obtain ⟨Y, M, D, h, m, d⟩ := dates t h0 h1
  have b := d.day.bd
  have e1 := d.hr
  have e2 := d.mi
  refine ⟨clk D h m, ?_, ?_, ?_⟩
  · simp [clk, q2_len D (by omega), q2_len h (by omega), q2_len m (by omega)]
  · intro w
    exact sclock t Y M D h m w (by omega) (by omega) (by omega) d.sd
  · intro w hT
    exact iclock X t Y M D h m w hT (by omega) (by omega) (by omega) (d.idd w (hM w hT))
theorem sx_any {T : World → Prop} (X : LibC T) (hM : ∀ w, T w → Months w) (f t : Int) (h0 : 0 ≤ f) (h1 : f ≤ 52596000) (h2 : 60 ≤ t) (h3 : t ≤ 52596000) : ∃ R, Sx T f t R := by
  obtain ⟨Yf, Mf, Df, hf, mf, df⟩ := dates f h0 h1
  obtain ⟨Yt, Mt, Dt, ht, mt, dt⟩ := dates t (by omega) h3
  obtain ⟨Yl, Ml, Dl, hl, ml, dl⟩ := dates (t - 60) (by omega) (by omega)
  have bf := df.day.bd
  have bt := dt.day.bd
  have bl := dl.day.bd
  have f1 := df.hr
  have f2 := df.mi
  have t1 := dt.hr
  have t2 := dt.mi
  have l1 := dl.hr
  have l2 := dl.mi
  have hc : ht = 0 ∧ hl = 23 ∨ ht = hl + 1 ∧ Dt = Dl := by
    by_cases z : t / 60 % 24 = 0
    · exact Or.inl (by omega)
    · refine Or.inr ⟨by omega, ?_⟩
      have e : (t - 60) / 1440 = t / 1440 := by omega
      have q := dl.day
      rw [e] at q
      exact DN.one (by omega) dt.day q
  refine ⟨spt Df hf Dl (hl + 1), ?_, ?_, ?_⟩
  · simp [spt, q2_len Df (by omega), q2_len hf (by omega), q2_len Dl (by omega), q2_len (hl + 1) (by omega)]
  · intro w
    exact sspan f t Df hf mf Dt ht mt Dl hl ml w (by omega) h3 (by omega) (by omega) (by omega) (by omega) (by omega) (by omega) (by omega) (by omega) (by omega) hc
      (fun w => sclock f Yf Mf Df hf mf w (by omega) (by omega) (by omega) df.sd) (fun w => sclock t Yt Mt Dt ht mt w (by omega) (by omega) (by omega) dt.sd) (fun w => sclock (t - 60) Yl Ml Dl hl ml w (by omega) (by omega) (by omega) dl.sd)
  · intro w hT
    exact ispan X f t Yf Mf Df hf mf Yl Ml Dl hl ml w hT (by omega) h3 (by omega) (by omega) (by omega) (by omega)
      (fun X' hb => df.idd X' (hM _ (X.keep _ _ hT hb))) (fun X' hb => dl.idd X' (hM _ (X.keep _ _ hT hb)))

theorem two (w : World) (a b : List UInt8) : ∀ (j : Nat) x, [a, b][j]? = some x → (w.alloc (.cells #[.string ⟨a.toArray⟩, .string ⟨b.toArray⟩] 9)).cell? ⟨w.heap.size, j, none⟩ = some (.string ⟨x.toArray⟩) := by
  intro j x hj
  have hj' := (List.getElem?_eq_some_iff.1 hj).1
  simp at hj'
  rcases (by omega : j = 0 ∨ j = 1) with rfl | rfl
  all_goals
    simp at hj
    subst hj
    simp [go_sem]
theorem join2 {T : World → Prop} (X : LibC T) (q : World) (a b : List UInt8) (h : a.length + b.length ≤ 1000) : Calls Tryz.prog 20 #[.slice (some ⟨q.heap.size, 0, none⟩) 2 2] (q.alloc (.cells #[.string ⟨a.toArray⟩, .string ⟨b.toArray⟩] 9)) fun e w' => e = .returned (.string ⟨(a ++ b).toArray⟩) ∧ Below (q.alloc (.cells #[.string ⟨a.toArray⟩, .string ⟨b.toArray⟩] 9)).heap.size (q.alloc (.cells #[.string ⟨a.toArray⟩, .string ⟨b.toArray⟩] 9)) w' := by
  have := joined_any X q.heap.size 2 2 [a, b] _ rfl (two q a b) (by simp) (by simp) (by simp) (by simp; omega)
  simpa [List.append_assoc] using this
theorem join3 {T : World → Prop} (X : LibC T) (q : World) (a b c : List UInt8) (h : a.length + b.length + c.length ≤ 1000) : Calls Tryz.prog 20 #[.slice (some ⟨q.heap.size, 0, none⟩) 3 3] (q.alloc (.cells #[.string ⟨a.toArray⟩, .string ⟨b.toArray⟩, .string ⟨c.toArray⟩] 9)) fun e w' => e = .returned (.string ⟨(a ++ b ++ c).toArray⟩) ∧ Below (q.alloc (.cells #[.string ⟨a.toArray⟩, .string ⟨b.toArray⟩, .string ⟨c.toArray⟩] 9)).heap.size (q.alloc (.cells #[.string ⟨a.toArray⟩, .string ⟨b.toArray⟩, .string ⟨c.toArray⟩] 9)) w' := by
  have := joined_any X q.heap.size 3 3 [a, b, c] _ rfl (three q a b c) (by simp) (by simp) (by simp) (by simp; omega)
  simpa [List.append_assoc] using this
abbrev cv (k x y d p v : Int) (W C : ByteArray) (b : Int) : Value := .agg #[.int .i64 k, .int .i64 x, .int .i64 y, .int .i64 d, .int .i64 p, .int .i64 v, .string W, .string C, .int .i64 b]
set_option maxHeartbeats 2000000 in
theorem ifrom {T : World → Prop} (X : LibC T) (x y d p v : Int) (W C : ByteArray) (b : Int) (R : List UInt8) (w : World) (hT : T w) (K : Ck T x R) :
    Calls Tryz.prog 24 #[cv 1 x y d p v W C b] w fun e w' => e = .returned (.string ⟨([70, 77] ++ R).toArray⟩) ∧ Below w.heap.size w w' := by
  obtain ⟨Q, hQ⟩ : ∃ Q, Q = [70, 77] ++ R := ⟨_, rfl⟩
  rw [← hQ]
  have J2 : Hid (∀ q : World, Calls Tryz.prog 20 #[.slice (some ⟨q.heap.size, 0, none⟩) 2 2] (q.alloc (.cells #[.string ⟨#[70, 77]⟩, .string ⟨R.toArray⟩] 9)) fun e w' => e = .returned (.string ⟨Q.toArray⟩) ∧ Below (q.alloc (.cells #[.string ⟨#[70, 77]⟩, .string ⟨R.toArray⟩] 9)).heap.size (q.alloc (.cells #[.string ⟨#[70, 77]⟩, .string ⟨R.toArray⟩] 9)) w') := fun q => (by
    rw [hQ]
    exact join2 X q [70, 77] R (by have := K.len; simp; omega))
  have SC : Hid (∀ X', Below w.heap.size w X' → Calls Tryz.prog 21 #[.int .i64 x] X' fun e w' => e = .returned (.string ⟨R.toArray⟩) ∧ Below X'.heap.size X' w') := fun X' hb => K.i X' (X.keep _ _ hT hb)
  clear K hQ hT
  go_enter Tryz.func24, Tryz.ntmps24
  go_wp2_with fail
  refine (SC.out _ ((Below.refl _ _).alloc (Nat.le_refl _) _)).mono ?_
  rintro e w1 ⟨rfl, hb1⟩
  have B1 : Below w.heap.size w w1 := ((Below.refl _ _).alloc (Nat.le_refl _) _).trans (hb1.mono (by simp))
  clear hb1
  go_wp2_with fail
  refine (J2.out _).mono ?_
  rintro e w2 ⟨rfl, hb2⟩
  go_wp2_with fail
  go_ret
  exact ⟨rfl, (B1.alloc B1.size _).trans (hb2.mono (by have := B1.size; simp; omega))⟩
set_option maxHeartbeats 4000000 in
theorem ispanned {T : World → Prop} (X : LibC T) (k x y d p v : Int) (W C : ByteArray) (b : Int) (R : List UInt8) (w : World) (hT : T w) (hk : k = 2 ∨ k = 3 ∨ k = 4) (K : Sx T x y R) :
    Calls Tryz.prog 24 #[cv k x y d p v W C b] w fun e w' => e = .returned (.string ⟨(kw k ++ [32] ++ R).toArray⟩) ∧ Below w.heap.size w w' := by
  have k1 : (k == 1) = false := by simp; omega
  have kl : (kw k).length ≤ 6 := by rcases hk with rfl | rfl | rfl <;> decide
  have KW : Hid (∀ w, Calls Tryz.prog 50 #[.int .i64 k] w fun e w' => e = .returned (.string ⟨(kw k).toArray⟩) ∧ w' = w) := fun w => kind_any k w
  generalize kw k = Z at *
  obtain ⟨Q, hQ⟩ : ∃ Q, Q = Z ++ [32] ++ R := ⟨_, rfl⟩
  rw [← hQ]
  have J3 : Hid (∀ q : World, Calls Tryz.prog 20 #[.slice (some ⟨q.heap.size, 0, none⟩) 3 3] (q.alloc (.cells #[.string ⟨Z.toArray⟩, .string ⟨#[32]⟩, .string ⟨R.toArray⟩] 9)) fun e w' => e = .returned (.string ⟨Q.toArray⟩) ∧ Below (q.alloc (.cells #[.string ⟨Z.toArray⟩, .string ⟨#[32]⟩, .string ⟨R.toArray⟩] 9)).heap.size (q.alloc (.cells #[.string ⟨Z.toArray⟩, .string ⟨#[32]⟩, .string ⟨R.toArray⟩] 9)) w') := fun q => (by
    rw [hQ]
    exact join3 X q Z [32] R (by have := K.len; simp; omega))
  have SC : Hid (∀ X', Below w.heap.size w X' → Calls Tryz.prog 22 #[.agg #[.int .i64 x, .int .i64 y]] X' fun e w' => e = .returned (.string ⟨R.toArray⟩) ∧ Below X'.heap.size X' w') := fun X' hb => K.i X' (X.keep _ _ hT hb)
  clear K hQ hT hk kl
  go_enter Tryz.func24, Tryz.ntmps24
  obtain ⟨w2, hw2⟩ : ∃ q, q = w.alloc (.cells #[.int .i64 k, .int .i64 x, .int .i64 y, .int .i64 d, .int .i64 p, .int .i64 v, .string W, .string C, .int .i64 b] 47) := ⟨_, rfl⟩
  have HW2 : Hid (w2 = w.alloc (.cells #[.int .i64 k, .int .i64 x, .int .i64 y, .int .i64 d, .int .i64 p, .int .i64 v, .string W, .string C, .int .i64 b] 47)) := hw2
  have B2 : Hid (Below w.heap.size w w2) := (by show Below _ _ _; rw [hw2]; exact (Below.refl _ _).alloc (Nat.le_refl _) _)
  have K2 : Hid (Ch.CB w2 w.heap.size k x y d p v W C b) := (by show Ch.CB _ _ _ _ _ _ _ _ _ _ _; rw [hw2]; exact Ch.CB.new _ _ _ _ _ _ _ _ _ _)
  have z2 : w.heap.size < w2.heap.size := by rw [hw2]; simp
  clear hw2
  go_upto_region 3 with fail
  rw [← HW2.out]
  clear HW2
  obtain ⟨k0, k1', k2, -⟩ := K2.out.cells
  go_region_held3 (fun w' => w'.cell? ⟨w.heap.size, 0, none⟩ = some (.int .i64 k) ∧ w'.cell? ⟨w.heap.size, 1, none⟩ = some (.int .i64 x) ∧ w'.cell? ⟨w.heap.size, 2, none⟩ = some (.int .i64 y)) (go_keep)
    (first
    | (go_at_call 50; refine (KW.out _).mono ?_; rintro e v3 ⟨rfl, hb3⟩; have D3 : Below w2.heap.size w2 v3 := (by rw [hb3]; exact (Below.refl _ _).drew); have S3 := K2.out.on D3 z2; obtain ⟨a3, b3, c3, -⟩ := S3.cells; clear hb3)
    | (go_at_call 22; refine (SC.out _ (B2.out.trans (D3.mono (Nat.le_of_lt z2)))).mono ?_; rintro e v4 ⟨rfl, hb4⟩; have D4 : Below w2.heap.size w2 v4 := D3.trans (hb4.mono D3.size); have S4 := K2.out.on D4 z2; obtain ⟨a4, b4, c4, -⟩ := S4.cells)
    | (go_at_call 20; refine (J3.out v4).mono ?_; rintro e v5 ⟨rfl, hb5⟩; have D5 : Below w2.heap.size w2 v5 := (D4.alloc D4.size _).trans (hb5.mono (by have := D4.size; simp; omega)); have S5 := K2.out.on D5 z2; obtain ⟨a5, b5, c5, -⟩ := S5.cells))
  all_goals go_wp2_with fail
  all_goals go_ret
  all_goals exact ⟨rfl, B2.out.trans (D5.mono (Nat.le_of_lt z2))⟩
end Go.Proofs.YtoaabdmbgemkjaaGreatDoor.Tx
