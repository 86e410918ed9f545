/- TafText of the model. -/
import Derived.Test.YtoaabdmbgemkjaaGreatDoorTz
import Derived.Test.YtoaabdmbgemkjaaGreatDoorKtS
import Derived.Laws.AppendOwn
namespace Go.Proofs.YtoaabdmbgemkjaaGreatDoor.Tx
open Go.ChangeShapes Go.WideShapes Go.ChangeAt Go.RowKit Dates Dec Kt
/-- what has been said so far, and what lies -/
structure MX (w : World) (C : ByteArray) (I f t d p v : Int) (W O : ByteArray) (b : Int) (u : Value) (A : List (List UInt8)) (x : Value) (wr : World) : Prop where
  row : wr.ownsRow (w.heap.size + 1) 9 1 x A.length (strs A)
  bx : Tf.TB wr w.heap.size C I f t d p v W O b u
  bel : Below w.heap.size w wr
section
variable {w : World} {C : ByteArray} {I f t d p v : Int} {W O : ByteArray} {b : Int} {u : Value} {A : List (List UInt8)} {x : Value} {wr : World}
theorem MX.lt (h : MX w C I f t d p v W O b u A x wr) : w.heap.size < wr.heap.size := h.bx.lt
theorem MX.on (h : MX w C I f t d p v W O b u A x wr) {q : World} (hb : Below wr.heap.size wr q) : MX w C I f t d p v W O b u A x q := ⟨row_on h.row hb, h.bx.on hb h.lt, h.bel.trans (hb.mono (Nat.le_of_lt h.lt))⟩
theorem MX.lit (h : MX w C I f t d p v W O b u A x wr) (o : Obj) : MX w C I f t d p v W O b u A x (wr.alloc o) := h.on ((Below.refl _ _).alloc (Nat.le_refl _) _)
theorem MX.app (h : MX w C I f t d p v W O b u A x wr) {w5 : World} {x' : Value} {m : Nat} {l : List (List UInt8)} {ns : List Value} (hm : m = l.length) (hs : ns = strs l) (hown : w5.ownsRow (w.heap.size + 1) 9 1 x' (A.length + m) (strs A ++ ns)) (hg : wr.grownBy w5 x.ownBlock) : MX w C I f t d p v W O b u (A ++ l) x' w5 := by
  subst hm hs
  refine ⟨by have e : strs (A ++ l) = strs A ++ strs l := by simp [Kt.strs]
             rw [e, List.length_append]; exact hown, (hg.block _ h.lt (fun e => by have := (h.row.lt _ e.symm).1; omega)).trans h.bx, h.bel.grown hg h.bel.size (fun g e => by have := (h.row.lt _ e).1; omega)⟩
theorem MX.ne (h : MX w C I f t d p v W O b u A x wr) : x.ownBlock ≠ some wr.heap.size := fun e => by have := (h.row.lt _ e).2; omega
end
theorem two_lit (w : World) (a b : List UInt8) : ∀ j u, [Value.string ⟨a.toArray⟩, Value.string ⟨b.toArray⟩][j]? = some u → (w.alloc (Obj.cells #[.string ⟨a.toArray⟩, .string ⟨b.toArray⟩] 9)).cell? ((⟨w.heap.size, 0, none⟩ : Addr).add j) = some u := by
  intro j u hj
  match j, hj with
  | 0, hj => simp at hj; subst hj; simp [Addr.add]
  | 1, hj => simp at hj; subst hj; simp [Addr.add]
set_option maxHeartbeats 1000000 in
theorem stxt_no (C : ByteArray) (I f t d p v : Int) (W O : ByteArray) (b : Int) (u : Value) (L : Ch.Ls) (w : World) (hL : Ch.Reads w u L) (h : To.tok C I f t d p v W O b L = false) :
    Calls Tryz.prog 5 #[Tf.tv C I f t d p v W O b u] w fun e w' => e = .returned (.string ⟨#[]⟩) ∧ Below w.heap.size w w' := by
  obtain ⟨sa, sc, hu⟩ := hL.form
  have OK : Hid (∀ w', Below w.heap.size w w' → Calls Tryz.prog 11 #[Tf.tv C I f t d p v W O b u] w' fun e w'' => e = .returned (.bool false) ∧ Below w'.heap.size w' w'') := fun w' hb => by have := To.staf_any C I f t d p v W O b u L w' (hL.on hb); rwa [h] at this
  subst hu
  clear hL h
  generalize L.length = n at *
  have B0 : Hid (Below w.heap.size w (w.alloc (.cells #[.string C, .int .i64 I, .int .i64 f, .int .i64 t, .int .i64 d, .int .i64 p, .int .i64 v, .string W, .string O, .int .i64 b, .slice sa n sc] 35))) := (Below.refl _ _).alloc (Nat.le_refl _) _
  go_enter Tryz.func5, Tryz.ntmps5
  go_wp2_with fail
  refine (OK.out _ B0.out).mono ?_
  rintro e w1 ⟨rfl, b1⟩
  have B1 : Hid (Below w.heap.size w w1) := B0.out.trans (b1.mono B0.out.size)
  clear b1
  go_wp2_with fail
  go_ret
  exact ⟨rfl, B1.out⟩
set_option maxRecDepth 20000 in
set_option maxHeartbeats 4000000 in
theorem stxt_yes {T : World → Prop} (C : ByteArray) (I f t d p v : Int) (W O : ByteArray) (b : Int) (u : Value) (L : Ch.Ls) (RI RV : List UInt8) (R : Nat → List UInt8) (w : World) (hL : Ch.Reads w u L) (H : Rt T C I f t d p v W O b L RI RV R) :
    Calls Tryz.prog 5 #[Tf.tv C I f t d p v W O b u] w fun e w' => e = .returned (.string ⟨(ttx C d p v W O b L RI RV R).toArray⟩) ∧ Below w.heap.size w w' := by
  obtain ⟨i0, hi, hz0, hz1, hz2⟩ := info_parts Tryz.info9
  have hcell : ∃ bb o, (∀ w', Below w.heap.size w w' → ∀ i, i < L.length → Ch.Cs w' bb o L i) ∧ (0 < L.length → bb < w.heap.size ∧ ∃ cap, u = .slice (some ⟨bb, o, none⟩) L.length cap) := by
    rcases hL with ⟨rfl, _⟩ | ⟨bb, o, cap, h1, h2, h3, h4, h5⟩
    · exact ⟨0, 0, fun _ _ i hi => by simp at hi, fun hi => by simp at hi⟩
    · exact ⟨bb, o, fun w' hb i hi => (h5 i hi).below hb h4, fun _ => ⟨h4, cap, h1⟩⟩
  obtain ⟨bb, o, hc, hvv⟩ := hcell
  obtain ⟨sa, sc, hu⟩ := hL.form
  have OK : Hid (∀ w', Below w.heap.size w w' → Calls Tryz.prog 11 #[Tf.tv C I f t d p v W O b u] w' fun e w'' => e = .returned (.bool true) ∧ Below w'.heap.size w' w'') := fun w' hb => by have := To.staf_any C I f t d p v W O b u L w' (hL.on hb); rwa [H.ok] at this
  subst hu
  have HC : Hid (∀ w', Below w.heap.size w w' → ∀ i, i < L.length → Ch.Cs w' bb o L i) := hc
  have HB : Hid (0 < L.length → bb < w.heap.size ∧ sa = some ⟨bb, o, none⟩) := fun hi => by
    obtain ⟨h1, c, h2⟩ := hvv hi
    simp at h2
    exact ⟨h1, h2.1⟩
  obtain ⟨S, hS⟩ : ∃ S, S = txt d p v W O b := ⟨_, rfl⟩
  have H1 : Hid (∀ w, Calls Tryz.prog 12 #[.int .i64 I] w fun e w' => e = .returned (.string ⟨RI.toArray⟩) ∧ Below w.heap.size w w') := H.i.s
  have H2 : Hid (∀ w, Calls Tryz.prog 13 #[.int .i64 f, .int .i64 t] w fun e w' => e = .returned (.string ⟨RV.toArray⟩) ∧ Below w.heap.size w w') := H.v.s
  have H3 : Hid (∀ w, Calls Tryz.prog 14 #[Sk.sk d p v W O b] w fun e w' => e = .returned (.string ⟨S.toArray⟩) ∧ Below w.heap.size w w') := fun w => (by rw [hS]; exact ssky_yes d p v W O b w H.sky)
  obtain ⟨Y, hY⟩ : ∃ Y, Y = RI ++ [90] := ⟨_, rfl⟩
  have eY : (⟨RI.toArray⟩ : ByteArray) ++ ⟨#[90]⟩ = ⟨Y.toArray⟩ := by rw [hY]; exact cat _ [90]
  have uY : ¬ 9223372036854775807 < RI.length + 1 := by have := H.i.len; omega
  obtain ⟨A0, hA0⟩ : ∃ A0, A0 = [[84, 65, 70], C.data.toList, Y, RV, S] := ⟨_, rfl⟩
  have HA0 : Hid (A0 = w0 C RI RV (txt d p v W O b)) := (by show _ = _; rw [hA0, hY, hS])
  have LM : Hid (∀ k, k ≤ 10 → (mws A0 L R k).length ≤ 35) := fun k hk => (by have := mws_len A0 L R k; rw [hA0] at this ⊢; simp at this ⊢; omega)
  have WD : Hid (∀ (x : Value) (w : World) (B : Nat), w.ownsRow B 9 1 x (mws A0 L R L.length).length (strs (mws A0 L R L.length)) → Calls Tryz.prog 15 #[x] w fun e w' => e = .returned (.string ⟨(Lib.join (mws A0 L R L.length) [32]).toArray⟩) ∧ w' = w) := fun x w B h3 => by
    obtain ⟨a, cap, rfl, _, hc⟩ := row_read h3
    have := LM.out L.length H.n
    refine words_many _ a cap w (by omega) (mws_all ?_ _ H.lens) hc
    rw [HA0.out]; exact H.heads
  have ET : Hid ((⟨(Lib.join (mws A0 L R L.length) [32]).toArray⟩ : ByteArray) ++ ⟨#[61]⟩ = ⟨(ttx C d p v W O b L RI RV R).toArray⟩) := (by
    show _ = _
    rw [HA0.out, same _ L R (by simp) L.length]
    exact cat _ [61])
  have UT : Hid ((Lib.join (mws A0 L R L.length) [32]).length ≤ 4000) := (by
    have := join_len2 (mws A0 L R L.length) (mws_all (by rw [HA0.out]; exact H.heads) _ H.lens)
    have := LM.out L.length H.n
    show _ ≤ _
    omega)
  have KA : Hid (∀ j, j < L.length → Ch.c0 L j = 1 → (R j).length = 6 ∧ ∀ w, Calls Tryz.prog 12 #[.int .i64 (Ch.c1 L j)] w fun e w' => e = .returned (.string ⟨(R j).toArray⟩) ∧ Below w.heap.size w w') := fun j hj h1 => ⟨(H.one j hj h1).len, (H.one j hj h1).s⟩
  have KB : Hid (∀ j, j < L.length → Ch.c0 L j ≠ 1 → ∀ w, Calls Tryz.prog 13 #[.int .i64 (Ch.c1 L j), .int .i64 (Ch.c2 L j)] w fun e w' => e = .returned (.string ⟨(R j).toArray⟩) ∧ Below w.heap.size w w') := fun j hj h1 => (H.more j hj h1).s
  have KK : Hid (∀ j, j < L.length → Ch.c0 L j = 1 ∨ Ch.c0 L j = 2 ∨ Ch.c0 L j = 3 ∨ Ch.c0 L j = 4) := H.kind
  have KS : Hid (∀ j, j < L.length → ∀ w, Calls Tryz.prog 14 #[Sk.sk (Ch.c3 L j) (Ch.c4 L j) (Ch.c5 L j) (Ch.c6 L j) (Ch.c7 L j) (Ch.c8 L j)] w fun e w' => e = .returned (.string ⟨(ctx L j).toArray⟩) ∧ Below w.heap.size w w') := fun j hj w => ssky_yes _ _ _ _ _ _ w (H.skies j hj)
  obtain ⟨n, hn⟩ : ∃ n, n = L.length := ⟨_, rfl⟩
  have HN : n ≤ 10 := by rw [hn]; exact H.n
  rw [← hn] at HC HB WD ET UT KA KB KK KS OK ⊢
  obtain ⟨RR, hRR⟩ : ∃ RR, RR = ttx C d p v W O b L RI RV R := ⟨_, rfl⟩
  rw [← hRR] at ET ⊢
  clear hRR H hL hc hvv hn hS hY
  obtain ⟨w1, hw1⟩ : ∃ q, q = w.alloc (.cells #[.string C, .int .i64 I, .int .i64 f, .int .i64 t, .int .i64 d, .int .i64 p, .int .i64 v, .string W, .string O, .int .i64 b, .slice sa n sc] 35) := ⟨_, rfl⟩
  have HW1 : Hid (w1 = w.alloc (.cells #[.string C, .int .i64 I, .int .i64 f, .int .i64 t, .int .i64 d, .int .i64 p, .int .i64 v, .string W, .string O, .int .i64 b, .slice sa n sc] 35)) := hw1
  have B1 : Hid (Below w.heap.size w w1) := (by show Below _ _ _; rw [hw1]; exact (Below.refl _ _).alloc (Nat.le_refl _) _)
  have T1 : Hid (Tf.TB w1 w.heap.size C I f t d p v W O b (.slice sa n sc)) := (by show Tf.TB _ _ _ _ _ _ _ _ _ _ _ _ _; rw [hw1]; exact Tf.TB.new w C I f t d p v W O b (.slice sa n sc))
  clear hw1
  go_enter Tryz.func5, Tryz.ntmps5
  go_wp2_with fail
  rw [← HW1.out]
  refine (OK.out _ B1.out).mono ?_
  rintro e w2 ⟨rfl, b2⟩
  have B2 : Hid (Below w.heap.size w w2) := B1.out.trans (b2.mono B1.out.size)
  have T2 : Hid (Tf.TB w2 w.heap.size C I f t d p v W O b (.slice sa n sc)) := T1.out.on b2 T1.out.lt
  have z2 : w.heap.size < w2.heap.size := T2.out.lt
  clear b2 T1 B1 HW1 OK
  go_upto_region 3 with fail
  obtain ⟨k0, k1, k2, k3, k4, k5, k6, k7, k8, k9, -⟩ := T2.out.cells
  go_region_held3 (fun w' => w'.cell? ⟨w.heap.size, 0, none⟩ = some (.string C) ∧ w'.cell? ⟨w.heap.size, 1, none⟩ = some (.int .i64 I) ∧ w'.cell? ⟨w.heap.size, 2, none⟩ = some (.int .i64 f) ∧ w'.cell? ⟨w.heap.size, 3, none⟩ = some (.int .i64 t) ∧ w'.cell? ⟨w.heap.size, 4, none⟩ = some (.int .i64 d) ∧ w'.cell? ⟨w.heap.size, 5, none⟩ = some (.int .i64 p) ∧ w'.cell? ⟨w.heap.size, 6, none⟩ = some (.int .i64 v) ∧ w'.cell? ⟨w.heap.size, 7, none⟩ = some (.string W) ∧ w'.cell? ⟨w.heap.size, 8, none⟩ = some (.string O) ∧ w'.cell? ⟨w.heap.size, 9, none⟩ = some (.int .i64 b)) (go_keep)
    (first
    | (go_at_call 12; refine (H1.out _).mono ?_; rintro e v3 ⟨rfl, hb3⟩; have D3 : Below w2.heap.size w2 v3 := (Below.refl _ _).drew.trans (hb3.mono (by simp)); have S3 := T2.out.on D3 z2; obtain ⟨a0, a1, a2, a3, a4, a5, a6, a7, a8, a9, -⟩ := S3.cells)
    | (go_at_call 13; refine (H2.out _).mono ?_; rintro e v4 ⟨rfl, hb4⟩; have D4 : Below w2.heap.size w2 v4 := D3.trans (hb4.mono D3.size); have S4 := T2.out.on D4 z2; obtain ⟨b0, b1, b2, b3, b4, b5, b6, b7, b8, b9, -⟩ := S4.cells)
    | (go_at_call 14; refine (H3.out _).mono ?_; rintro e v5 ⟨rfl, hb5⟩; have D5 : Below w2.heap.size w2 v5 := D4.trans (hb5.mono D4.size); have S5 := T2.out.on D5 z2; obtain ⟨c0, c1, c2, c3, c4, c5, c6, c7, c8, c9, -⟩ := S5.cells))
  clear a0 a1 a2 a3 a4 a5 a6 a7 a8 a9 b0 b1 b2 b3 b4 b5 b6 b7 b8 b9 c0 c1 c2 c3 c4 c5 c6 c7 c8 c9 k0 k1 k2 k3 k4 k5 k6 k7 k8 k9
  obtain ⟨w6, hw6⟩ : ∃ q, q = v5.alloc (Obj.cells #[.string ⟨#[84, 65, 70]⟩, .string C, .string ⟨Y.toArray⟩, .string ⟨RV.toArray⟩, .string ⟨S.toArray⟩] 9) := ⟨_, rfl⟩
  have HW6 : Hid (w6 = v5.alloc (Obj.cells #[.string ⟨#[84, 65, 70]⟩, .string C, .string ⟨Y.toArray⟩, .string ⟨RV.toArray⟩, .string ⟨S.toArray⟩] 9)) := hw6
  have X6 : Hid (MX w C I f t d p v W O b (.slice sa n sc) (mws A0 L R 0) (.slice (some ⟨v5.heap.size, 0, none⟩) 5 5) w6) := (by
    show MX _ _ _ _ _ _ _ _ _ _ _ _ _ _ _
    have D6 : Below w2.heap.size w2 w6 := by rw [hw6]; exact D5.alloc D5.size _
    have z5 := D5.size
    refine ⟨?_, T2.out.on D6 z2, B2.out.trans (D6.mono B2.out.size)⟩
    rw [hw6]
    have := World.ownsRow_lit (e := 9) v5 #[.string ⟨#[84, 65, 70]⟩, .string C, .string ⟨Y.toArray⟩, .string ⟨RV.toArray⟩, .string ⟨S.toArray⟩] 5 (size := 1) (base := w.heap.size + 1) (by omega) (by decide) rfl
    rw [mws, hA0]
    simpa [Kt.strs] using this)
  clear hw6 D3 D4 D5 S3 S4 S5 hb3 hb4 hb5 T2 B2
  go_upto_region 4 with fail
  rw [← HW6.out]
  generalize (Value.slice (some ⟨v5.heap.size, 0, none⟩) 5 5) = x0 at *
  clear HW6 H1 H2 H3 z2 eY uY
  go_wp2_with fail
  go_loopw [3, 4] (fun x i wr => ∃ k : Nat, k ≤ n ∧ i = .int .i64 k ∧ Hid (MX w C I f t d p v W O b (.slice sa n sc) (mws A0 L R k) x wr)) (fun _ i _ => n - (intOf i).toNat)
  case atStart => exact ⟨0, Nat.zero_le _, rfl, X6⟩
  case round =>
    obtain ⟨k, hk, rfl, XK⟩ := hrel
    obtain ⟨-, -, -, -, -, -, -, -, -, -, k10, -⟩ := XK.out.bx.cells
    by_cases hlt : k < n
    · obtain ⟨hb0, hx⟩ := HB.out (by omega)
      subst hx
      obtain ⟨q0, q1, q2, q3, q4, q5, q6, q7, q8⟩ := HC.out wr XK.out.bel k hlt
      have i1 : (0 : Int) ≤ (k : Int) := by omega
      have i2 : (k : Int) < (n : Int) := by omega
      have LK := LM.out k (by omega)
      have SK : Hid (∀ w, Calls Tryz.prog 14 #[Sk.sk (Ch.c3 L k) (Ch.c4 L k) (Ch.c5 L k) (Ch.c6 L k) (Ch.c7 L k) (Ch.c8 L k)] w fun e w' => e = .returned (.string ⟨(ctx L k).toArray⟩) ∧ Below w.heap.size w w') := KS.out k hlt
      have EK : Hid (mws A0 L R (k + 1) = mws A0 L R k ++ mw (Ch.c0 L k) (R k) ++ [ctx L k]) := rfl
      have K0 := KK.out k hlt
      have KA1 : Hid (Ch.c0 L k = 1 → (R k).length = 6 ∧ ∀ w, Calls Tryz.prog 12 #[.int .i64 (Ch.c1 L k)] w fun e w' => e = .returned (.string ⟨(R k).toArray⟩) ∧ Below w.heap.size w w') := KA.out k hlt
      have KB1 : Hid (Ch.c0 L k ≠ 1 → ∀ w, Calls Tryz.prog 13 #[.int .i64 (Ch.c1 L k), .int .i64 (Ch.c2 L k)] w fun e w' => e = .returned (.string ⟨(R k).toArray⟩) ∧ Below w.heap.size w w') := KB.out k hlt
      generalize hm1 : mws A0 L R (k + 1) = A1 at *
      generalize hm0 : mws A0 L R k = Ak at *
      generalize hct : ctx L k = Z at *
      generalize hRk : R k = r at *
      generalize hy0 : Ch.c0 L k = y0 at *
      generalize hy1 : Ch.c1 L k = y1 at *
      generalize hy2 : Ch.c2 L k = y2 at *
      generalize hy3 : Ch.c3 L k = y3 at *
      generalize hy4 : Ch.c4 L k = y4 at *
      generalize hy5 : Ch.c5 L k = y5 at *
      generalize hy6 : Ch.c6 L k = y6 at *
      generalize hy7 : Ch.c7 L k = y7 at *
      generalize hy8 : Ch.c8 L k = y8 at *
      have HM1 : Hid (mws A0 L R (k + 1) = A1) := hm1
      clear hm1 hm0 hct hRk hy0 hy1 hy2 hy3 hy4 hy5 hy6 hy7 hy8 HC KS KK KA KB LM
      rename_i u3
      obtain ⟨wy, hwy⟩ : ∃ wy, wy = wr.alloc (.cells #[.int .i64 y0, .int .i64 y1, .int .i64 y2, .int .i64 y3, .int .i64 y4, .int .i64 y5, .string y6, .string y7, .int .i64 y8] 47) := ⟨_, rfl⟩
      have HY : Hid (wy = wr.alloc (.cells #[.int .i64 y0, .int .i64 y1, .int .i64 y2, .int .i64 y3, .int .i64 y4, .int .i64 y5, .string y6, .string y7, .int .i64 y8] 47)) := hwy
      have KY : Hid (Ch.CB wy wr.heap.size y0 y1 y2 y3 y4 y5 y6 y7 y8) := (by show Ch.CB _ _ _ _ _ _ _ _ _ _ _; rw [hwy]; exact Ch.CB.new wr y0 y1 y2 y3 y4 y5 y6 y7 y8)
      have XY : Hid (MX w C I f t d p v W O b (.slice (some ⟨bb, o, none⟩) n sc) Ak u3 wy) := (by show MX _ _ _ _ _ _ _ _ _ _ _ _ _ _ _; rw [hwy]; exact XK.out.lit _)
      have NE : Hid (u3.ownBlock ≠ some wr.heap.size) := XK.out.ne
      clear hwy
      go_upto_region 8 with fail
      rw [← HY.out]
      clear HY q0 q1 q2 q3 q4 q5 q6 q7 q8 XK k10
      generalize wr.heap.size = g at *
      obtain ⟨g0, g1, g2, g3, g4, g5, g6, g7, g8, -⟩ := KY.out.cells
      rcases K0 with rfl | rfl | rfl | rfl
      · obtain ⟨rl, ck⟩ := KA1.out (by first | exact trivial | rfl)
        have CK : Hid (∀ w, Calls Tryz.prog 12 #[.int .i64 y1] w fun e w' => e = .returned (.string ⟨r.toArray⟩) ∧ Below w.heap.size w w') := ck
        obtain ⟨X, hX⟩ : ∃ X, X = [70, 77] ++ r := ⟨_, rfl⟩
        have e1 : (⟨#[70, 77]⟩ : ByteArray) ++ ⟨r.toArray⟩ = ⟨X.toArray⟩ := by rw [hX]; exact cat [70, 77] _
        have u0 : ¬ 9223372036854775807 < 2 + r.length := by omega
        have EM : mw 1 r = [X] := by rw [hX]; rfl
        rw [EM] at EK
        clear EM hX rl ck KA1 KB1
        go_wp2_with fail
        refine (CK.out _).mono ?_
        rintro e q1 ⟨rfl, b1⟩
        have S1 : Hid (MX w C I f t d p v W O b (.slice (some ⟨bb, o, none⟩) n sc) Ak u3 q1) := XY.out.on b1
        have K1 : Hid (Ch.CB q1 g 1 y1 y2 y3 y4 y5 y6 y7 y8) := KY.out.on b1 KY.out.lt
        have K1b : Hid (Ch.CB (q1.alloc (Obj.cells #[.string ⟨X.toArray⟩] 9)) g 1 y1 y2 y3 y4 y5 y6 y7 y8) := K1.out.on ((Below.refl _ _).alloc (Nat.le_refl _) _) K1.out.lt
        clear b1 g0 g1 g2 g3 g4 g5 g6 g7 g8 KY
        go_wp2_with (at_builtin; refine wpList_append_own _ rfl _ _ 45 rfl (w.heap.size + 1) 9 i0 (.string ⟨#[]⟩) 1 16 Tryz.underlying45 hi hz0 hz1 hz2 rfl (by decide) _ _ _ rfl (S1.out.lit _).row ⟨q1.heap.size, 0, none⟩ 1 1 [.string ⟨X.toArray⟩] rfl rfl (one_lit q1 X) (by intro u hu; simp at hu; subst hu; rfl) (by unfold maxLen; omega) (by omega) (by have := (S1.out.lit (Obj.cells #[.string ⟨X.toArray⟩] 9)).lt; omega) ?_)
        clear K1
        intro v' w4 hown' hgrow _
        have SN : Hid (MX w C I f t d p v W O b (.slice (some ⟨bb, o, none⟩) n sc) (Ak ++ [X]) v' w4) := (S1.out.lit _).app rfl rfl hown' hgrow
        have K2 : Hid (Ch.CB w4 g 1 y1 y2 y3 y4 y5 y6 y7 y8) := (hgrow.block _ K1b.out.lt NE.out.symm).trans K1b.out
        obtain ⟨P, hP⟩ : ∃ P, P = Ak ++ [X] := ⟨_, rfl⟩
        have lP : P.length ≤ 37 := by rw [hP]; simp; omega
        have E1 : Hid (A1 = P ++ [Z]) := (by show _ = _; rw [EK.out, hP])
        rw [← hP] at SN
        clear hown' hgrow hP EK K1b S1 XY
        obtain ⟨g0, g1, g2, g3, g4, g5, g6, g7, g8, -⟩ := K2.out.cells
        go_wp2_with fail
        refine (SK.out _).mono ?_
        rintro e q5 ⟨rfl, b5⟩
        have S5 : Hid (MX w C I f t d p v W O b (.slice (some ⟨bb, o, none⟩) n sc) P v' q5) := SN.out.on b5
        clear b5 g0 g1 g2 g3 g4 g5 g6 g7 g8 K2 SN
        go_wp2_with (at_builtin; refine wpList_append_own _ rfl _ _ 45 rfl (w.heap.size + 1) 9 i0 (.string ⟨#[]⟩) 1 16 Tryz.underlying45 hi hz0 hz1 hz2 rfl (by decide) _ _ _ rfl (S5.out.lit _).row ⟨q5.heap.size, 0, none⟩ 1 1 [.string ⟨Z.toArray⟩] rfl rfl (one_lit q5 Z) (by intro u hu; simp at hu; subst hu; rfl) (by unfold maxLen; omega) (by omega) (by have := (S5.out.lit (Obj.cells #[.string ⟨Z.toArray⟩] 9)).lt; omega) ?_)
        intro v6 w6 hown6 hgrow6 _
        have S6 : Hid (MX w C I f t d p v W O b (.slice (some ⟨bb, o, none⟩) n sc) (P ++ [Z]) v6 w6) := (S5.out.lit _).app rfl rfl hown6 hgrow6
        clear hown6 hgrow6 S5
        go_wp2_with fail
        go_roundw
        case rel => exact ⟨k + 1, by omega, by go_num, by show MX _ _ _ _ _ _ _ _ _ _ _ _ _ _ _; rw [HM1.out, E1.out]; exact S6.out⟩
        case measure => simp [intOf]; omega
      · have ck := KB1.out (by decide)
        have CK : Hid (∀ w, Calls Tryz.prog 13 #[.int .i64 y1, .int .i64 y2] w fun e w' => e = .returned (.string ⟨r.toArray⟩) ∧ Below w.heap.size w w') := ck
        have EM : mw 2 r = [[66, 69, 67, 77, 71], r] := rfl
        rw [EM] at EK
        clear EM ck KA1 KB1
        go_wp2_with fail
        refine (CK.out _).mono ?_
        rintro e q1 ⟨rfl, b1⟩
        have S1 : Hid (MX w C I f t d p v W O b (.slice (some ⟨bb, o, none⟩) n sc) Ak u3 q1) := XY.out.on b1
        have K1 : Hid (Ch.CB q1 g 2 y1 y2 y3 y4 y5 y6 y7 y8) := KY.out.on b1 KY.out.lt
        have K1b : Hid (Ch.CB (q1.alloc (Obj.cells #[.string ⟨#[66, 69, 67, 77, 71]⟩, .string ⟨r.toArray⟩] 9)) g 2 y1 y2 y3 y4 y5 y6 y7 y8) := K1.out.on ((Below.refl _ _).alloc (Nat.le_refl _) _) K1.out.lt
        clear b1 g0 g1 g2 g3 g4 g5 g6 g7 g8 KY
        go_wp2_with (at_builtin; refine wpList_append_own _ rfl _ _ 45 rfl (w.heap.size + 1) 9 i0 (.string ⟨#[]⟩) 1 16 Tryz.underlying45 hi hz0 hz1 hz2 rfl (by decide) _ _ _ rfl (S1.out.lit _).row ⟨q1.heap.size, 0, none⟩ 2 2 [.string ⟨#[66, 69, 67, 77, 71]⟩, .string ⟨r.toArray⟩] rfl rfl (two_lit q1 [66, 69, 67, 77, 71] r) (by intro u hu; simp at hu; rcases hu with hu | hu <;> subst hu <;> rfl) (by unfold maxLen; omega) (by omega) (by have := (S1.out.lit (Obj.cells #[.string ⟨#[66, 69, 67, 77, 71]⟩, .string ⟨r.toArray⟩] 9)).lt; omega) ?_)
        clear K1
        intro v' w4 hown' hgrow _
        have SN : Hid (MX w C I f t d p v W O b (.slice (some ⟨bb, o, none⟩) n sc) (Ak ++ [[66, 69, 67, 77, 71], r]) v' w4) := (S1.out.lit _).app rfl rfl hown' hgrow
        have K2 : Hid (Ch.CB w4 g 2 y1 y2 y3 y4 y5 y6 y7 y8) := (hgrow.block _ K1b.out.lt NE.out.symm).trans K1b.out
        obtain ⟨P, hP⟩ : ∃ P, P = Ak ++ [[66, 69, 67, 77, 71], r] := ⟨_, rfl⟩
        have lP : P.length ≤ 37 := by rw [hP]; simp; omega
        have E1 : Hid (A1 = P ++ [Z]) := (by show _ = _; rw [EK.out, hP])
        rw [← hP] at SN
        clear hown' hgrow hP EK K1b S1 XY
        obtain ⟨g0, g1, g2, g3, g4, g5, g6, g7, g8, -⟩ := K2.out.cells
        go_wp2_with fail
        refine (SK.out _).mono ?_
        rintro e q5 ⟨rfl, b5⟩
        have S5 : Hid (MX w C I f t d p v W O b (.slice (some ⟨bb, o, none⟩) n sc) P v' q5) := SN.out.on b5
        clear b5 g0 g1 g2 g3 g4 g5 g6 g7 g8 K2 SN
        go_wp2_with (at_builtin; refine wpList_append_own _ rfl _ _ 45 rfl (w.heap.size + 1) 9 i0 (.string ⟨#[]⟩) 1 16 Tryz.underlying45 hi hz0 hz1 hz2 rfl (by decide) _ _ _ rfl (S5.out.lit _).row ⟨q5.heap.size, 0, none⟩ 1 1 [.string ⟨Z.toArray⟩] rfl rfl (one_lit q5 Z) (by intro u hu; simp at hu; subst hu; rfl) (by unfold maxLen; omega) (by omega) (by have := (S5.out.lit (Obj.cells #[.string ⟨Z.toArray⟩] 9)).lt; omega) ?_)
        intro v6 w6 hown6 hgrow6 _
        have S6 : Hid (MX w C I f t d p v W O b (.slice (some ⟨bb, o, none⟩) n sc) (P ++ [Z]) v6 w6) := (S5.out.lit _).app rfl rfl hown6 hgrow6
        clear hown6 hgrow6 S5
        go_wp2_with fail
        go_roundw
        case rel => exact ⟨k + 1, by omega, by go_num, by show MX _ _ _ _ _ _ _ _ _ _ _ _ _ _ _; rw [HM1.out, E1.out]; exact S6.out⟩
        case measure => simp [intOf]; omega
      · have ck := KB1.out (by decide)
        have CK : Hid (∀ w, Calls Tryz.prog 13 #[.int .i64 y1, .int .i64 y2] w fun e w' => e = .returned (.string ⟨r.toArray⟩) ∧ Below w.heap.size w w') := ck
        have EM : mw 3 r = [[84, 69, 77, 80, 79], r] := rfl
        rw [EM] at EK
        clear EM ck KA1 KB1
        go_wp2_with fail
        refine (CK.out _).mono ?_
        rintro e q1 ⟨rfl, b1⟩
        have S1 : Hid (MX w C I f t d p v W O b (.slice (some ⟨bb, o, none⟩) n sc) Ak u3 q1) := XY.out.on b1
        have K1 : Hid (Ch.CB q1 g 3 y1 y2 y3 y4 y5 y6 y7 y8) := KY.out.on b1 KY.out.lt
        have K1b : Hid (Ch.CB (q1.alloc (Obj.cells #[.string ⟨#[84, 69, 77, 80, 79]⟩, .string ⟨r.toArray⟩] 9)) g 3 y1 y2 y3 y4 y5 y6 y7 y8) := K1.out.on ((Below.refl _ _).alloc (Nat.le_refl _) _) K1.out.lt
        clear b1 g0 g1 g2 g3 g4 g5 g6 g7 g8 KY
        go_wp2_with (at_builtin; refine wpList_append_own _ rfl _ _ 45 rfl (w.heap.size + 1) 9 i0 (.string ⟨#[]⟩) 1 16 Tryz.underlying45 hi hz0 hz1 hz2 rfl (by decide) _ _ _ rfl (S1.out.lit _).row ⟨q1.heap.size, 0, none⟩ 2 2 [.string ⟨#[84, 69, 77, 80, 79]⟩, .string ⟨r.toArray⟩] rfl rfl (two_lit q1 [84, 69, 77, 80, 79] r) (by intro u hu; simp at hu; rcases hu with hu | hu <;> subst hu <;> rfl) (by unfold maxLen; omega) (by omega) (by have := (S1.out.lit (Obj.cells #[.string ⟨#[84, 69, 77, 80, 79]⟩, .string ⟨r.toArray⟩] 9)).lt; omega) ?_)
        clear K1
        intro v' w4 hown' hgrow _
        have SN : Hid (MX w C I f t d p v W O b (.slice (some ⟨bb, o, none⟩) n sc) (Ak ++ [[84, 69, 77, 80, 79], r]) v' w4) := (S1.out.lit _).app rfl rfl hown' hgrow
        have K2 : Hid (Ch.CB w4 g 3 y1 y2 y3 y4 y5 y6 y7 y8) := (hgrow.block _ K1b.out.lt NE.out.symm).trans K1b.out
        obtain ⟨P, hP⟩ : ∃ P, P = Ak ++ [[84, 69, 77, 80, 79], r] := ⟨_, rfl⟩
        have lP : P.length ≤ 37 := by rw [hP]; simp; omega
        have E1 : Hid (A1 = P ++ [Z]) := (by show _ = _; rw [EK.out, hP])
        rw [← hP] at SN
        clear hown' hgrow hP EK K1b S1 XY
        obtain ⟨g0, g1, g2, g3, g4, g5, g6, g7, g8, -⟩ := K2.out.cells
        go_wp2_with fail
        refine (SK.out _).mono ?_
        rintro e q5 ⟨rfl, b5⟩
        have S5 : Hid (MX w C I f t d p v W O b (.slice (some ⟨bb, o, none⟩) n sc) P v' q5) := SN.out.on b5
        clear b5 g0 g1 g2 g3 g4 g5 g6 g7 g8 K2 SN
        go_wp2_with (at_builtin; refine wpList_append_own _ rfl _ _ 45 rfl (w.heap.size + 1) 9 i0 (.string ⟨#[]⟩) 1 16 Tryz.underlying45 hi hz0 hz1 hz2 rfl (by decide) _ _ _ rfl (S5.out.lit _).row ⟨q5.heap.size, 0, none⟩ 1 1 [.string ⟨Z.toArray⟩] rfl rfl (one_lit q5 Z) (by intro u hu; simp at hu; subst hu; rfl) (by unfold maxLen; omega) (by omega) (by have := (S5.out.lit (Obj.cells #[.string ⟨Z.toArray⟩] 9)).lt; omega) ?_)
        intro v6 w6 hown6 hgrow6 _
        have S6 : Hid (MX w C I f t d p v W O b (.slice (some ⟨bb, o, none⟩) n sc) (P ++ [Z]) v6 w6) := (S5.out.lit _).app rfl rfl hown6 hgrow6
        clear hown6 hgrow6 S5
        go_wp2_with fail
        go_roundw
        case rel => exact ⟨k + 1, by omega, by go_num, by show MX _ _ _ _ _ _ _ _ _ _ _ _ _ _ _; rw [HM1.out, E1.out]; exact S6.out⟩
        case measure => simp [intOf]; omega
      · have ck := KB1.out (by decide)
        have CK : Hid (∀ w, Calls Tryz.prog 13 #[.int .i64 y1, .int .i64 y2] w fun e w' => e = .returned (.string ⟨r.toArray⟩) ∧ Below w.heap.size w w') := ck
        have EM : mw 4 r = [[80, 82, 79, 66, 51, 48], r] := rfl
        rw [EM] at EK
        clear EM ck KA1 KB1
        go_wp2_with fail
        refine (CK.out _).mono ?_
        rintro e q1 ⟨rfl, b1⟩
        have S1 : Hid (MX w C I f t d p v W O b (.slice (some ⟨bb, o, none⟩) n sc) Ak u3 q1) := XY.out.on b1
        have K1 : Hid (Ch.CB q1 g 4 y1 y2 y3 y4 y5 y6 y7 y8) := KY.out.on b1 KY.out.lt
        have K1b : Hid (Ch.CB (q1.alloc (Obj.cells #[.string ⟨#[80, 82, 79, 66, 51, 48]⟩, .string ⟨r.toArray⟩] 9)) g 4 y1 y2 y3 y4 y5 y6 y7 y8) := K1.out.on ((Below.refl _ _).alloc (Nat.le_refl _) _) K1.out.lt
        clear b1 g0 g1 g2 g3 g4 g5 g6 g7 g8 KY
        go_wp2_with (at_builtin; refine wpList_append_own _ rfl _ _ 45 rfl (w.heap.size + 1) 9 i0 (.string ⟨#[]⟩) 1 16 Tryz.underlying45 hi hz0 hz1 hz2 rfl (by decide) _ _ _ rfl (S1.out.lit _).row ⟨q1.heap.size, 0, none⟩ 2 2 [.string ⟨#[80, 82, 79, 66, 51, 48]⟩, .string ⟨r.toArray⟩] rfl rfl (two_lit q1 [80, 82, 79, 66, 51, 48] r) (by intro u hu; simp at hu; rcases hu with hu | hu <;> subst hu <;> rfl) (by unfold maxLen; omega) (by omega) (by have := (S1.out.lit (Obj.cells #[.string ⟨#[80, 82, 79, 66, 51, 48]⟩, .string ⟨r.toArray⟩] 9)).lt; omega) ?_)
        clear K1
        intro v' w4 hown' hgrow _
        have SN : Hid (MX w C I f t d p v W O b (.slice (some ⟨bb, o, none⟩) n sc) (Ak ++ [[80, 82, 79, 66, 51, 48], r]) v' w4) := (S1.out.lit _).app rfl rfl hown' hgrow
        have K2 : Hid (Ch.CB w4 g 4 y1 y2 y3 y4 y5 y6 y7 y8) := (hgrow.block _ K1b.out.lt NE.out.symm).trans K1b.out
        obtain ⟨P, hP⟩ : ∃ P, P = Ak ++ [[80, 82, 79, 66, 51, 48], r] := ⟨_, rfl⟩
        have lP : P.length ≤ 37 := by rw [hP]; simp; omega
        have E1 : Hid (A1 = P ++ [Z]) := (by show _ = _; rw [EK.out, hP])
        rw [← hP] at SN
        clear hown' hgrow hP EK K1b S1 XY
        obtain ⟨g0, g1, g2, g3, g4, g5, g6, g7, g8, -⟩ := K2.out.cells
        go_wp2_with fail
        refine (SK.out _).mono ?_
        rintro e q5 ⟨rfl, b5⟩
        have S5 : Hid (MX w C I f t d p v W O b (.slice (some ⟨bb, o, none⟩) n sc) P v' q5) := SN.out.on b5
        clear b5 g0 g1 g2 g3 g4 g5 g6 g7 g8 K2 SN
        go_wp2_with (at_builtin; refine wpList_append_own _ rfl _ _ 45 rfl (w.heap.size + 1) 9 i0 (.string ⟨#[]⟩) 1 16 Tryz.underlying45 hi hz0 hz1 hz2 rfl (by decide) _ _ _ rfl (S5.out.lit _).row ⟨q5.heap.size, 0, none⟩ 1 1 [.string ⟨Z.toArray⟩] rfl rfl (one_lit q5 Z) (by intro u hu; simp at hu; subst hu; rfl) (by unfold maxLen; omega) (by omega) (by have := (S5.out.lit (Obj.cells #[.string ⟨Z.toArray⟩] 9)).lt; omega) ?_)
        intro v6 w6 hown6 hgrow6 _
        have S6 : Hid (MX w C I f t d p v W O b (.slice (some ⟨bb, o, none⟩) n sc) (P ++ [Z]) v6 w6) := (S5.out.lit _).app rfl rfl hown6 hgrow6
        clear hown6 hgrow6 S5
        go_wp2_with fail
        go_roundw
        case rel => exact ⟨k + 1, by omega, by go_num, by show MX _ _ _ _ _ _ _ _ _ _ _ _ _ _ _; rw [HM1.out, E1.out]; exact S6.out⟩
        case measure => simp [intOf]; omega

    · have e : k = n := by omega
      subst e
      have uu := UT.out
      have ee := ET.out
      have WX := WD.out _ _ _ XK.out.row
      generalize Lib.join (mws A0 L R k) [32] = J at *
      have u0 : ¬ 9223372036854775807 < J.length + 1 := by omega
      go_wp2_with fail
      refine WX.mono ?_
      rintro e wz ⟨rfl, hw⟩
      have hw' := hw.symm
      clear hw
      subst hw'
      go_wp2_with fail
      go_ret
      exact ⟨rfl, XK.out.bel⟩
end Go.Proofs.YtoaabdmbgemkjaaGreatDoor.Tx
