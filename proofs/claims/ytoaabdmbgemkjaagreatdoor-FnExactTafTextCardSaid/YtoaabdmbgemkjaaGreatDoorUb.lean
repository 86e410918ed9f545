/- TafText of the program. -/
import Derived.Test.YtoaabdmbgemkjaaGreatDoorUa
import Derived.Deep.AppendLies
import Derived.Deep.RegionHeldLaw
namespace Go.Proofs.YtoaabdmbgemkjaaGreatDoor.Tx
open Go.ChangeShapes Go.WideShapes Go.ChangeAt Go.RowKit Dates Dec Kt
theorem bytes_back (xs : List (List UInt8)) : (List.map (fun x : ByteArray => x.data.toList) (xs.map fun x => (⟨x.toArray⟩ : ByteArray))) = xs := by
  rw [List.map_map]
  conv => rhs; rw [← List.map_id xs]
  exact List.map_congr_left fun x _ => by simp
/-- words put together with a sign between them -/
theorem join_any (bk c : Nat) (xs : List (List UInt8)) (sep : List UInt8) (w : World) (h1 : ∀ (j : Nat) x, xs[j]? = some x → w.cell? ⟨bk, j, none⟩ = some (.string ⟨x.toArray⟩)) (h2 : bk < w.heap.size) (h3 : xs.length ≤ 100) (h4 : xs.length ≤ c) (h5 : (Lib.join xs sep).length ≤ 100000) :
    Calls Tryz.prog 25 #[.slice (some ⟨bk, 0, none⟩) xs.length c, .string ⟨sep.toArray⟩] w fun e w' => e = .returned (.string ⟨(Lib.join xs sep).toArray⟩) ∧ Below w.heap.size w w' := by
  have hj := Tryz.strings_Join bk 0 c (xs.map fun x => (⟨x.toArray⟩ : ByteArray)) ⟨sep.toArray⟩ w (by
    intro j x hx
    rw [List.getElem?_map] at hx
    cases hq : xs[j]? with
    | none => rw [hq] at hx; cases hx
    | some y =>
      rw [hq] at hx
      cases hx
      have := h1 j y hq
      simpa using this) h2 (by simp; omega) (by simpa using h4) (by rw [bytes_back]; simp; omega)
  rw [bytes_back, List.length_map] at hj
  refine hj.mono ?_
  rintro e w' ⟨rfl, hb⟩
  exact ⟨by simp, hb⟩
set_option maxHeartbeats 1000000 in
/-- two texts put together, of whatever length -/
theorem great2 (q : World) (a b : List UInt8) (h : a.length + b.length ≤ 10000) : Calls Tryz.prog 20 #[.slice (some ⟨q.heap.size, 0, none⟩) 2 2] (q.alloc (.cells #[.string ⟨a.toArray⟩, .string ⟨b.toArray⟩] 9)) fun e w' => e = .returned (.string ⟨(a ++ b).toArray⟩) ∧ Below (q.alloc (.cells #[.string ⟨a.toArray⟩, .string ⟨b.toArray⟩] 9)).heap.size (q.alloc (.cells #[.string ⟨a.toArray⟩, .string ⟨b.toArray⟩] 9)) w' := by
  have J := join_any q.heap.size 2 [a, b] [] (q.alloc (.cells #[.string ⟨a.toArray⟩, .string ⟨b.toArray⟩] 9)) (two q a b) (by simp) (by simp) (by simp) (by rw [join_none]; simp; omega)
  rw [join_none] at J
  have e : [a, b].flatten = a ++ b := by simp
  rw [e] at J
  generalize a ++ b = R at *
  have JJ : Hid (Calls Tryz.prog 25 #[.slice (some ⟨q.heap.size, 0, none⟩) 2 2, .string ⟨#[]⟩] (q.alloc (.cells #[.string ⟨a.toArray⟩, .string ⟨b.toArray⟩] 9)) fun e w' => e = .returned (.string ⟨R.toArray⟩) ∧ Below (q.alloc (.cells #[.string ⟨a.toArray⟩, .string ⟨b.toArray⟩] 9)).heap.size (q.alloc (.cells #[.string ⟨a.toArray⟩, .string ⟨b.toArray⟩] 9)) w') := J
  clear J e
  generalize q.alloc (.cells #[.string ⟨a.toArray⟩, .string ⟨b.toArray⟩] 9) = z at *
  go_enter Tryz.func20, Tryz.ntmps20
  go_wp2_with fail
  refine JJ.out.mono ?_
  rintro e w1 ⟨rfl, hb⟩
  go_wp2_with fail
  go_ret
  exact ⟨rfl, hb⟩
set_option maxHeartbeats 1000000 in
theorem itxt_no (C : ByteArray) (I f t d p v : Int) (W O : ByteArray) (b : Int) (u : Value) (L : Ch.Ls) (w : World) (hL : Ch.Reads w u L) (h : To.tok C I f t d p v W O b L = false) :
    Calls Tryz.prog 7 #[Tf.tv C I f t d p v W O b u] w fun e w' => e = .returned (.string ⟨#[]⟩) ∧ Below w.heap.size w w' := by
  obtain ⟨sa, sc, hu⟩ := hL.form
  have OK : Hid (∀ w', Below w.heap.size w w' → Calls Tryz.prog 19 #[Tf.tv C I f t d p v W O b u] w' fun e w'' => e = .returned (.bool false) ∧ Below w'.heap.size w' w'') := fun w' hb => by have := To.itaf_any C I f t d p v W O b u L w' (hL.on hb); rwa [h] at this
  subst hu
  clear hL h
  generalize L.length = n at *
  have B0 : Hid (Below w.heap.size w (w.alloc (.cells #[.string C, .int .i64 I, .int .i64 f, .int .i64 t, .int .i64 d, .int .i64 p, .int .i64 v, .string W, .string O, .int .i64 b, .slice sa n sc] 35))) := (Below.refl _ _).alloc (Nat.le_refl _) _
  go_enter Tryz.func7, Tryz.ntmps7
  go_wp2_with fail
  refine (OK.out _ B0.out).mono ?_
  rintro e w1 ⟨rfl, b1⟩
  have B1 : Hid (Below w.heap.size w w1) := B0.out.trans (b1.mono B0.out.size)
  clear b1
  go_wp2_with fail
  go_ret
  exact ⟨rfl, B1.out⟩
set_option maxRecDepth 20000 in
set_option maxHeartbeats 4000000 in
theorem itxt_yes {T : World → Prop} (X : LibC T) (C : ByteArray) (I f t d p v : Int) (W O : ByteArray) (b : Int) (u : Value) (L : Ch.Ls) (RI RV : List UInt8) (R : Nat → List UInt8) (w : World) (hT : T w) (hL : Ch.Reads w u L) (H : Rt T C I f t d p v W O b L RI RV R) :
    Calls Tryz.prog 7 #[Tf.tv C I f t d p v W O b u] w fun e w' => e = .returned (.string ⟨(ttx C d p v W O b L RI RV R).toArray⟩) ∧ Below w.heap.size w w' := by
  obtain ⟨i0, hi, hz0, hz1, hz2⟩ := info_parts Tryz.info9
  have hcell : ∃ bb o, (∀ w', Below w.heap.size w w' → ∀ i, i < L.length → Ch.Cs w' bb o L i) ∧ (0 < L.length → bb < w.heap.size ∧ ∃ cap, u = .slice (some ⟨bb, o, none⟩) L.length cap) := by
    rcases hL with ⟨rfl, _⟩ | ⟨bb, o, cap, h1, h2, h3, h4, h5⟩
    · exact ⟨0, 0, fun _ _ i hi => by simp at hi, fun hi => by simp at hi⟩
    · exact ⟨bb, o, fun w' hb i hi => (h5 i hi).below hb h4, fun _ => ⟨h4, cap, h1⟩⟩
  obtain ⟨bb, o, hc, hvv⟩ := hcell
  obtain ⟨sa, sc, hu⟩ := hL.form
  have OK : Hid (∀ w', Below w.heap.size w w' → Calls Tryz.prog 19 #[Tf.tv C I f t d p v W O b u] w' fun e w'' => e = .returned (.bool true) ∧ Below w'.heap.size w' w'') := fun w' hb => by have := To.itaf_any C I f t d p v W O b u L w' (hL.on hb); rwa [H.ok] at this
  subst hu
  have HC : Hid (∀ w', Below w.heap.size w w' → ∀ i, i < L.length → Ch.Cs w' bb o L i) := hc
  have HB : Hid (0 < L.length → bb < w.heap.size ∧ sa = some ⟨bb, o, none⟩) := fun hi => by
    obtain ⟨h1, c, h2⟩ := hvv hi
    simp at h2
    exact ⟨h1, h2.1⟩
  have KP : Hid (∀ X', Below w.heap.size w X' → T X') := fun X' hb => X.keep _ _ hT hb
  obtain ⟨S, hS⟩ : ∃ S, S = txt d p v W O b := ⟨_, rfl⟩
  have H1 : Hid (∀ q, Below w.heap.size w q → Calls Tryz.prog 21 #[.int .i64 I] q fun e w' => e = .returned (.string ⟨RI.toArray⟩) ∧ Below q.heap.size q w') := fun q hq => H.i.i q (KP.out q hq)
  have H2 : Hid (∀ q, Below w.heap.size w q → Calls Tryz.prog 22 #[.agg #[.int .i64 f, .int .i64 t]] q fun e w' => e = .returned (.string ⟨RV.toArray⟩) ∧ Below q.heap.size q w') := fun q hq => H.v.i q (KP.out q hq)
  have H3 : Hid (∀ q, Below w.heap.size w q → Calls Tryz.prog 23 #[Sk.sk d p v W O b] q fun e w' => e = .returned (.string ⟨S.toArray⟩) ∧ Below q.heap.size q w') := fun q hq => (by rw [hS]; exact isky_yes X d p v W O b q (KP.out q hq) H.sky)
  obtain ⟨Y, hY⟩ : ∃ Y, Y = RI ++ [90] := ⟨_, rfl⟩
  have J2 : Hid (∀ q : World, Calls Tryz.prog 20 #[.slice (some ⟨q.heap.size, 0, none⟩) 2 2] (q.alloc (.cells #[.string ⟨RI.toArray⟩, .string ⟨#[90]⟩] 9)) fun e w' => e = .returned (.string ⟨Y.toArray⟩) ∧ Below (q.alloc (.cells #[.string ⟨RI.toArray⟩, .string ⟨#[90]⟩] 9)).heap.size (q.alloc (.cells #[.string ⟨RI.toArray⟩, .string ⟨#[90]⟩] 9)) w') := fun q => (by
    rw [hY]
    exact join2 X q RI [90] (by have := H.i.len; simp; omega))
  obtain ⟨A0, hA0⟩ : ∃ A0, A0 = [[84, 65, 70], C.data.toList, Y, RV, S] := ⟨_, rfl⟩
  have HA0 : Hid (A0 = w0 C RI RV (txt d p v W O b)) := (by show _ = _; rw [hA0, hY, hS])
  have LM : Hid (∀ k, k ≤ 10 → (iws A0 L R k).length ≤ 25) := fun k hk => (by have := iws_len A0 L R k; rw [hA0] at this ⊢; simp at this ⊢; omega)
  have UT : (Lib.join (iws A0 L R L.length) [32]).length ≤ 4000 := (by
    have := join_len2 (iws A0 L R L.length) (iws_all (by rw [HA0.out]; exact H.heads) _ H.lens)
    have := LM.out L.length H.n
    omega)
  have WD : Hid (∀ (x : Value) (w : World) (B : Nat), w.ownsRow B 9 1 x (iws A0 L R L.length).length (strs (iws A0 L R L.length)) → Calls Tryz.prog 25 #[x, .string ⟨#[32]⟩] w fun e w' => e = .returned (.string ⟨(Lib.join (iws A0 L R L.length) [32]).toArray⟩) ∧ Below w.heap.size w w') := fun x w B h3 => by
    obtain ⟨a, cap, rfl, hcap, hc⟩ := row_read h3
    have l1 := LM.out L.length H.n
    rcases hc with hc | ⟨g, rfl, hg, hc⟩
    · exact absurd (List.eq_nil_of_length_eq_zero hc) (iws_ne A0 L R (by rw [hA0]; simp) _)
    · refine join_any g cap _ [32] w ?_ hg (by omega) hcap (by omega)
      intro j x hj
      have hj' := (List.getElem?_eq_some_iff.1 hj).1
      rw [hc j hj']
      simp [List.getD_eq_getElem?_getD, hj]
  have ET : Hid (∀ q : World, Calls Tryz.prog 20 #[.slice (some ⟨q.heap.size, 0, none⟩) 2 2] (q.alloc (.cells #[.string ⟨(Lib.join (iws A0 L R L.length) [32]).toArray⟩, .string ⟨#[61]⟩] 9)) fun e w' => e = .returned (.string ⟨(ttx C d p v W O b L RI RV R).toArray⟩) ∧ Below (q.alloc (.cells #[.string ⟨(Lib.join (iws A0 L R L.length) [32]).toArray⟩, .string ⟨#[61]⟩] 9)).heap.size (q.alloc (.cells #[.string ⟨(Lib.join (iws A0 L R L.length) [32]).toArray⟩, .string ⟨#[61]⟩] 9)) w') := fun q => (by
    have := great2 q (Lib.join (iws A0 L R L.length) [32]) [61] (by simp; omega)
    have e : ttx C d p v W O b L RI RV R = Lib.join (iws A0 L R L.length) [32] ++ [61] := by unfold ttx; rw [HA0.out]
    rw [e]
    exact this)
  have KC : Hid (∀ j, j < L.length → ∀ q, Below w.heap.size w q → Calls Tryz.prog 24 #[cv (Ch.c0 L j) (Ch.c1 L j) (Ch.c2 L j) (Ch.c3 L j) (Ch.c4 L j) (Ch.c5 L j) (Ch.c6 L j) (Ch.c7 L j) (Ch.c8 L j)] q fun e w' => e = .returned (.string ⟨(iw (Ch.c0 L j) (R j)).toArray⟩) ∧ Below q.heap.size q w') := fun j hj q hq => by
    by_cases z : Ch.c0 L j = 1
    · have e : iw (Ch.c0 L j) (R j) = [70, 77] ++ R j := by unfold iw; rw [if_pos z]
      rw [e, z]
      exact ifrom X _ _ _ _ _ _ _ _ _ q (KP.out q hq) (H.one j hj z)
    · have e : iw (Ch.c0 L j) (R j) = kw (Ch.c0 L j) ++ [32] ++ R j := by unfold iw; rw [if_neg z]
      rw [e]
      exact ispanned X _ _ _ _ _ _ _ _ _ _ q (KP.out q hq) (by rcases H.kind j hj with h | h; exact absurd h z; exact h) (H.more j hj z)
  have KS : Hid (∀ j, j < L.length → ∀ q, Below w.heap.size w q → Calls Tryz.prog 23 #[Sk.sk (Ch.c3 L j) (Ch.c4 L j) (Ch.c5 L j) (Ch.c6 L j) (Ch.c7 L j) (Ch.c8 L j)] q fun e w' => e = .returned (.string ⟨(ctx L j).toArray⟩) ∧ Below q.heap.size q w') := fun j hj q hq => isky_yes X _ _ _ _ _ _ q (KP.out q hq) (H.skies j hj)
  obtain ⟨n, hn⟩ : ∃ n, n = L.length := ⟨_, rfl⟩
  have HN : n ≤ 10 := by rw [hn]; exact H.n
  rw [← hn] at HC HB WD ET KC KS OK ⊢
  obtain ⟨RR, hRR⟩ : ∃ RR, RR = ttx C d p v W O b L RI RV R := ⟨_, rfl⟩
  rw [← hRR] at ET ⊢
  clear hRR H hL hc hvv hn hS hY UT KP hT
  obtain ⟨w1, hw1⟩ : ∃ q, q = w.alloc (.cells #[.string C, .int .i64 I, .int .i64 f, .int .i64 t, .int .i64 d, .int .i64 p, .int .i64 v, .string W, .string O, .int .i64 b, .slice sa n sc] 35) := ⟨_, rfl⟩
  have HW1 : Hid (w1 = w.alloc (.cells #[.string C, .int .i64 I, .int .i64 f, .int .i64 t, .int .i64 d, .int .i64 p, .int .i64 v, .string W, .string O, .int .i64 b, .slice sa n sc] 35)) := hw1
  have B1 : Hid (Below w.heap.size w w1) := (by show Below _ _ _; rw [hw1]; exact (Below.refl _ _).alloc (Nat.le_refl _) _)
  have T1 : Hid (Tf.TB w1 w.heap.size C I f t d p v W O b (.slice sa n sc)) := (by show Tf.TB _ _ _ _ _ _ _ _ _ _ _ _ _; rw [hw1]; exact Tf.TB.new w C I f t d p v W O b (.slice sa n sc))
  clear hw1
  go_enter Tryz.func7, Tryz.ntmps7
  go_wp2_with fail
  rw [← HW1.out]
  refine (OK.out _ B1.out).mono ?_
  rintro e w2 ⟨rfl, b2⟩
  have B2 : Hid (Below w.heap.size w w2) := B1.out.trans (b2.mono B1.out.size)
  have T2 : Hid (Tf.TB w2 w.heap.size C I f t d p v W O b (.slice sa n sc)) := T1.out.on b2 T1.out.lt
  have z2 : w.heap.size < w2.heap.size := T2.out.lt
  clear b2 T1 B1 HW1 OK
  go_upto_region 3 with fail
  obtain ⟨k0, k1, k2, k3, k4, k5, k6, k7, k8, k9, -⟩ := T2.out.cells
  go_region_held3 (fun w' => w'.cell? ⟨w.heap.size, 0, none⟩ = some (.string C) ∧ w'.cell? ⟨w.heap.size, 1, none⟩ = some (.int .i64 I) ∧ w'.cell? ⟨w.heap.size, 2, none⟩ = some (.int .i64 f) ∧ w'.cell? ⟨w.heap.size, 3, none⟩ = some (.int .i64 t) ∧ w'.cell? ⟨w.heap.size, 4, none⟩ = some (.int .i64 d) ∧ w'.cell? ⟨w.heap.size, 5, none⟩ = some (.int .i64 p) ∧ w'.cell? ⟨w.heap.size, 6, none⟩ = some (.int .i64 v) ∧ w'.cell? ⟨w.heap.size, 7, none⟩ = some (.string W) ∧ w'.cell? ⟨w.heap.size, 8, none⟩ = some (.string O) ∧ w'.cell? ⟨w.heap.size, 9, none⟩ = some (.int .i64 b)) (go_keep)
    (first
    | (go_at_call 21; refine (H1.out _ B2.out.drew).mono ?_; rintro e v3 ⟨rfl, hb3⟩; have D3 : Below w2.heap.size w2 v3 := (Below.refl _ _).drew.trans (hb3.mono (by simp)); have S3 := T2.out.on D3 z2; obtain ⟨a0, a1, a2, a3, a4, a5, a6, a7, a8, a9, -⟩ := S3.cells)
    | (go_at_call 20; refine (J2.out v3).mono ?_; rintro e v6 ⟨rfl, hb6⟩; have D6 : Below w2.heap.size w2 v6 := (D3.alloc D3.size _).trans (hb6.mono (by have := D3.size; simp; omega)); have S6 := T2.out.on D6 z2; obtain ⟨d0, d1, d2, d3, d4, d5, d6, d7, d8, d9, -⟩ := S6.cells)
    | (go_at_call 22; refine (H2.out _ (B2.out.trans (D6.mono B2.out.size))).mono ?_; rintro e v4 ⟨rfl, hb4⟩; have D4 : Below w2.heap.size w2 v4 := D6.trans (hb4.mono D6.size); have S4 := T2.out.on D4 z2; obtain ⟨b0, b1, b2, b3, b4, b5, b6, b7, b8, b9, -⟩ := S4.cells)
    | (go_at_call 23; refine (H3.out _ (B2.out.trans (D4.mono B2.out.size))).mono ?_; rintro e v5 ⟨rfl, hb5⟩; have D5 : Below w2.heap.size w2 v5 := D4.trans (hb5.mono D4.size); have S5 := T2.out.on D5 z2; obtain ⟨c0, c1, c2, c3, c4, c5, c6, c7, c8, c9, -⟩ := S5.cells))
  clear a0 a1 a2 a3 a4 a5 a6 a7 a8 a9 b0 b1 b2 b3 b4 b5 b6 b7 b8 b9 c0 c1 c2 c3 c4 c5 c6 c7 c8 c9 d0 d1 d2 d3 d4 d5 d6 d7 d8 d9 k0 k1 k2 k3 k4 k5 k6 k7 k8 k9
  obtain ⟨w6, hw6⟩ : ∃ q, q = v5.alloc (Obj.cells #[.string ⟨#[84, 65, 70]⟩, .string C, .string ⟨Y.toArray⟩, .string ⟨RV.toArray⟩, .string ⟨S.toArray⟩] 9) := ⟨_, rfl⟩
  have HW6 : Hid (w6 = v5.alloc (Obj.cells #[.string ⟨#[84, 65, 70]⟩, .string C, .string ⟨Y.toArray⟩, .string ⟨RV.toArray⟩, .string ⟨S.toArray⟩] 9)) := hw6
  have X6 : Hid (MX w C I f t d p v W O b (.slice sa n sc) (iws A0 L R 0) (.slice (some ⟨v5.heap.size, 0, none⟩) 5 5) w6) := (by
    show MX _ _ _ _ _ _ _ _ _ _ _ _ _ _ _
    have D7 : Below w2.heap.size w2 w6 := by rw [hw6]; exact D5.alloc D5.size _
    have z5 := D5.size
    refine ⟨?_, T2.out.on D7 z2, B2.out.trans (D7.mono B2.out.size)⟩
    rw [hw6]
    have := World.ownsRow_lit (e := 9) v5 #[.string ⟨#[84, 65, 70]⟩, .string C, .string ⟨Y.toArray⟩, .string ⟨RV.toArray⟩, .string ⟨S.toArray⟩] 5 (size := 1) (base := w.heap.size + 1) (by omega) (by decide) rfl
    rw [iws, hA0]
    simpa [Kt.strs] using this)
  obtain ⟨-, -, -, -, -, -, -, -, -, -, k10, -⟩ := X6.out.bx.cells
  have k11 := k10
  clear hw6 D3 D4 D5 D6 S3 S4 S5 S6 hb3 hb4 hb5 hb6 T2 B2
  rw [HW6.out] at k11
  go_upto_region 4 with fail
  rw [← HW6.out]
  generalize (Value.slice (some ⟨v5.heap.size, 0, none⟩) 5 5) = x0 at *
  clear k11 HW6 H1 H2 H3 J2 z2
  go_wp2_with fail
  go_loopw [3, 26] (fun x i wr => ∃ k : Nat, k ≤ n ∧ i = .int .i64 k ∧ Hid (MX w C I f t d p v W O b (.slice sa n sc) (iws A0 L R k) x wr)) (fun _ i _ => n - (intOf i).toNat)
  case atStart => exact ⟨0, Nat.zero_le _, rfl, X6⟩
  case round =>
    obtain ⟨k, hk, rfl, XK⟩ := hrel
    by_cases hlt : k < n
    · obtain ⟨hb0, hx⟩ := HB.out (by omega)
      subst hx
      obtain ⟨q0, q1, q2, q3, q4, q5, q6, q7, q8⟩ := HC.out wr XK.out.bel k hlt
      have i1 : (0 : Int) ≤ (k : Int) := by omega
      have i2 : (k : Int) < (n : Int) := by omega
      have LK := LM.out k (by omega)
      have SK : Hid (∀ q, Below w.heap.size w q → Calls Tryz.prog 23 #[Sk.sk (Ch.c3 L k) (Ch.c4 L k) (Ch.c5 L k) (Ch.c6 L k) (Ch.c7 L k) (Ch.c8 L k)] q fun e w' => e = .returned (.string ⟨(ctx L k).toArray⟩) ∧ Below q.heap.size q w') := KS.out k hlt
      have CK : Hid (∀ q, Below w.heap.size w q → Calls Tryz.prog 24 #[cv (Ch.c0 L k) (Ch.c1 L k) (Ch.c2 L k) (Ch.c3 L k) (Ch.c4 L k) (Ch.c5 L k) (Ch.c6 L k) (Ch.c7 L k) (Ch.c8 L k)] q fun e w' => e = .returned (.string ⟨(iw (Ch.c0 L k) (R k)).toArray⟩) ∧ Below q.heap.size q w') := KC.out k hlt
      have EK : Hid (iws A0 L R (k + 1) = iws A0 L R k ++ [iw (Ch.c0 L k) (R k), ctx L k]) := rfl
      generalize hm1 : iws A0 L R (k + 1) = A1 at *
      generalize hm0 : iws A0 L R k = Ak at *
      generalize hct : ctx L k = Z at *
      generalize hcw : iw (Ch.c0 L k) (R k) = V at *
      generalize hy0 : Ch.c0 L k = y0 at *
      generalize hy1 : Ch.c1 L k = y1 at *
      generalize hy2 : Ch.c2 L k = y2 at *
      generalize hy3 : Ch.c3 L k = y3 at *
      generalize hy4 : Ch.c4 L k = y4 at *
      generalize hy5 : Ch.c5 L k = y5 at *
      generalize hy6 : Ch.c6 L k = y6 at *
      generalize hy7 : Ch.c7 L k = y7 at *
      generalize hy8 : Ch.c8 L k = y8 at *
      have HM1 : Hid (iws A0 L R (k + 1) = A1) := hm1
      clear hm1 hm0 hct hcw hy0 hy1 hy2 hy3 hy4 hy5 hy6 hy7 hy8 HC KS KC LM
      rename_i u3
      obtain ⟨wy, hwy⟩ : ∃ wy, wy = wr.alloc (.cells #[.int .i64 y0, .int .i64 y1, .int .i64 y2, .int .i64 y3, .int .i64 y4, .int .i64 y5, .string y6, .string y7, .int .i64 y8] 47) := ⟨_, rfl⟩
      have HY : Hid (wy = wr.alloc (.cells #[.int .i64 y0, .int .i64 y1, .int .i64 y2, .int .i64 y3, .int .i64 y4, .int .i64 y5, .string y6, .string y7, .int .i64 y8] 47)) := hwy
      have KY : Hid (Ch.CB wy wr.heap.size y0 y1 y2 y3 y4 y5 y6 y7 y8) := (by show Ch.CB _ _ _ _ _ _ _ _ _ _ _; rw [hwy]; exact Ch.CB.new wr y0 y1 y2 y3 y4 y5 y6 y7 y8)
      have XY : Hid (MX w C I f t d p v W O b (.slice (some ⟨bb, o, none⟩) n sc) Ak u3 wy) := (by show MX _ _ _ _ _ _ _ _ _ _ _ _ _ _ _; rw [hwy]; exact XK.out.lit _)
      have NE : Hid (u3.ownBlock ≠ some wr.heap.size) := XK.out.ne
      clear hwy
      go_upto_region 7 with fail
      rw [← HY.out]
      clear HY q0 q1 q2 q3 q4 q5 q6 q7 q8 XK k10
      generalize wr.heap.size = g at *
      obtain ⟨g0, g1, g2, g3, g4, g5, g6, g7, g8, -⟩ := KY.out.cells
      have KD : Hid (Ch.CB wy.drew g y0 y1 y2 y3 y4 y5 y6 y7 y8) := KY.out.on (Below.refl _ _).drew KY.out.lt
      have XD : Hid (MX w C I f t d p v W O b (.slice (some ⟨bb, o, none⟩) n sc) Ak u3 wy.drew) := XY.out.on (Below.refl _ _).drew
      go_region_held_law (fun w' => w'.cell? ⟨g, 0, none⟩ = some (.int .i64 y0) ∧ w'.cell? ⟨g, 1, none⟩ = some (.int .i64 y1) ∧ w'.cell? ⟨g, 2, none⟩ = some (.int .i64 y2) ∧ w'.cell? ⟨g, 3, none⟩ = some (.int .i64 y3) ∧ w'.cell? ⟨g, 4, none⟩ = some (.int .i64 y4) ∧ w'.cell? ⟨g, 5, none⟩ = some (.int .i64 y5) ∧ w'.cell? ⟨g, 6, none⟩ = some (.string y6) ∧ w'.cell? ⟨g, 7, none⟩ = some (.string y7) ∧ w'.cell? ⟨g, 8, none⟩ = some (.int .i64 y8)) (first | go_keep | (exact ⟨h0, h1, h2, h3, h4, h5, h6, h7, h8⟩))
        (first
        | (go_at_call 24; refine (CK.out _ XD.out.bel).mono ?_; rintro e q3 ⟨rfl, hb3⟩; have S3 : Hid (MX w C I f t d p v W O b (.slice (some ⟨bb, o, none⟩) n sc) Ak u3 q3) := XD.out.on hb3; have K3 : Hid (Ch.CB q3 g y0 y1 y2 y3 y4 y5 y6 y7 y8) := KD.out.on hb3 KD.out.lt; obtain ⟨a0, a1, a2, a3, a4, a5, a6, a7, a8, -⟩ := K3.out.cells; clear hb3)
        | (go_at_call 23; refine (SK.out _ S3.out.bel).mono ?_; rintro e q4 ⟨rfl, hb4⟩; have S4 : Hid (MX w C I f t d p v W O b (.slice (some ⟨bb, o, none⟩) n sc) Ak u3 q4) := S3.out.on hb4; have K4 : Hid (Ch.CB q4 g y0 y1 y2 y3 y4 y5 y6 y7 y8) := K3.out.on hb4 K3.out.lt; obtain ⟨b0, b1, b2, b3, b4, b5, b6, b7, b8, -⟩ := K4.out.cells; clear hb4)
        | (refine step_append_lies _ (by rfl) _ _ 45 (by rfl) (w.heap.size + 1) 9 i0 (.string ⟨#[]⟩) 1 16 Tryz.underlying45 hi hz0 hz1 hz2 rfl (by decide) _ _ _ (by rfl) (S4.out.lit _).row ⟨q4.heap.size, 0, none⟩ 2 2 [.string ⟨V.toArray⟩, .string ⟨Z.toArray⟩] (by rfl) rfl (two_lit q4 V Z) (by intro u hu; simp at hu; rcases hu with hu | hu <;> subst hu <;> rfl) (by decide) (by unfold maxLen; omega) (by omega) (by have := (S4.out.lit (Obj.cells #[.string ⟨V.toArray⟩, .string ⟨Z.toArray⟩] 9)).lt; omega) _ rfl ?_; intro g2 cap3 w5 hown hgrow hat hlt5; have S5 : Hid (MX w C I f t d p v W O b (.slice (some ⟨bb, o, none⟩) n sc) (Ak ++ [V, Z]) (.slice (some ⟨g2, 0, none⟩) (Ak.length + 2) cap3) w5) := (S4.out.lit _).app rfl rfl hown hgrow; have K5 : Ch.CB w5 g y0 y1 y2 y3 y4 y5 y6 y7 y8 := (hgrow.block _ (K4.out.on ((Below.refl _ _).alloc (Nat.le_refl _) (Obj.cells #[.string ⟨V.toArray⟩, .string ⟨Z.toArray⟩] 9)) K4.out.lt).lt NE.out.symm).trans (K4.out.on ((Below.refl _ _).alloc (Nat.le_refl _) _) K4.out.lt); obtain ⟨h0, h1, h2, h3, h4, h5, h6, h7, h8, -⟩ := K5.cells; clear hown hgrow hat hlt5))
      all_goals go_wp2_with fail
      all_goals go_roundw
      case rel => exact ⟨k + 1, by omega, by go_num, by show MX _ _ _ _ _ _ _ _ _ _ _ _ _ _ _; rw [HM1.out, EK.out]; exact S5.out⟩
      case measure => simp [intOf]; omega
    · have e : k = n := by omega
      subst e
      have WX := WD.out _ _ _ XK.out.row
      have EE := ET
      generalize Lib.join (iws A0 L R k) [32] = J at *
      go_wp2_with fail
      refine WX.mono ?_
      rintro e wz ⟨rfl, hb⟩
      have BZ : Hid (Below w.heap.size w wz) := XK.out.bel.trans (hb.mono XK.out.bel.size)
      clear hb
      go_wp2_with fail
      refine (EE.out wz).mono ?_
      rintro e w9 ⟨rfl, hb9⟩
      go_wp2_with fail
      go_ret
      exact ⟨rfl, (BZ.out.alloc BZ.out.size _).trans (hb9.mono (by have := BZ.out.size; simp; omega))⟩
end Go.Proofs.YtoaabdmbgemkjaaGreatDoor.Tx
