/- The words of a forecast's text, plainly: as the model has them and as the program does; they say the same. -/
import Derived.Test.YtoaabdmbgemkjaaGreatDoorTy
import Derived.Test.YtoaabdmbgemkjaaGreatDoorTs
namespace Go.Proofs.YtoaabdmbgemkjaaGreatDoor.Tx
open Go.ChangeShapes Go.WideShapes Go.ChangeAt Go.RowKit Dates Dec Kt
open Go.Proofs.YtoaabdmbgemkjaaGreatDoor.Al
abbrev ctx (L : Ch.Ls) (j : Nat) : List UInt8 := txt (Ch.c3 L j) (Ch.c4 L j) (Ch.c5 L j) (Ch.c6 L j) (Ch.c7 L j) (Ch.c8 L j)
/-- what is known of a forecast that is right -/
structure Rt (T : World → Prop) (C : ByteArray) (I f t d p v : Int) (W O : ByteArray) (b : Int) (L : Ch.Ls) (RI RV : List UInt8) (R : Nat → List UInt8) : Prop where
  ok : To.tok C I f t d p v W O b L = true
  c : C.data.toList.length = 4
  n : L.length ≤ 10
  sky : Sk.ok d p v W O b = true
  i : Ck T I RI
  v : Sx T f t RV
  one : ∀ j, j < L.length → Ch.c0 L j = 1 → Ck T (Ch.c1 L j) (R j)
  more : ∀ j, j < L.length → Ch.c0 L j ≠ 1 → Sx T (Ch.c1 L j) (Ch.c2 L j) (R j)
  kind : ∀ j, j < L.length → Ch.c0 L j = 1 ∨ Ch.c0 L j = 2 ∨ Ch.c0 L j = 3 ∨ Ch.c0 L j = 4
  skies : ∀ j, j < L.length → Sk.ok (Ch.c3 L j) (Ch.c4 L j) (Ch.c5 L j) (Ch.c6 L j) (Ch.c7 L j) (Ch.c8 L j) = true
theorem rt_any {T : World → Prop} (X : LibC T) (hM : ∀ w, T w → Months w) {C : ByteArray} {I f t d p v : Int} {W O : ByteArray} {b : Int} {L : Ch.Ls} (h : To.tok C I f t d p v W O b L = true) : ∃ RI RV R, Rt T C I f t d p v W O b L RI RV R := by
  have h' := h
  unfold To.tok at h'
  simp only [Bool.and_eq_true, decide_eq_true_eq] at h'
  obtain ⟨hc, hI, hv, hf, hn, hs⟩ := h'
  have hI' := (inn_iff _ _ _).1 hI
  unfold To.vok To.span To.tm at hv
  simp only [Bool.and_eq_true, decide_eq_true_eq] at hv
  obtain ⟨⟨f1, t1, ft⟩, -, -, tf, -⟩ := hv
  have f2 := (inn_iff _ _ _).1 f1
  have t2 := (inn_iff _ _ _).1 t1
  have tf2 := (inn_iff _ _ _).1 tf
  unfold Head.cen at hc
  simp only [Bool.and_eq_true, decide_eq_true_eq] at hc
  have cl : C.data.toList.length = 4 := by rw [Array.length_toList]; exact hc.1
  have so : Sk.ok d p v W O b = true := by
    unfold To.ful at hf
    simp only [Bool.and_eq_true] at hf
    exact hf.1
  obtain ⟨RI, kI⟩ := ck_any X hM I hI'.1 hI'.2
  obtain ⟨RV, kV⟩ := sx_any X hM f t f2.1 f2.2 (by omega) t2.2
  have per : ∀ j, ∃ Rj : List UInt8, j < L.length → (Ch.c0 L j = 1 → Ck T (Ch.c1 L j) Rj) ∧ (Ch.c0 L j ≠ 1 → Sx T (Ch.c1 L j) (Ch.c2 L j) Rj) ∧ (Ch.c0 L j = 1 ∨ Ch.c0 L j = 2 ∨ Ch.c0 L j = 3 ∨ Ch.c0 L j = 4) ∧ Sk.ok (Ch.c3 L j) (Ch.c4 L j) (Ch.c5 L j) (Ch.c6 L j) (Ch.c7 L j) (Ch.c8 L j) = true := by
    intro j
    by_cases hj : j < L.length
    · have o : To.okk f t L j = true := by
        unfold To.oks at hs
        rw [List.all_eq_true] at hs
        exact hs j (List.mem_range.2 hj)
      unfold To.okk To.cj To.cok at o
      simp only [Bool.and_eq_true] at o
      obtain ⟨⟨o1, -, o2⟩, -⟩ := o
      by_cases k1 : Ch.c0 L j = 1
      · rw [k1] at o2
        simp only [beq_self_eq_true, if_true] at o2
        unfold To.in1 at o2
        simp only [Bool.and_eq_true] at o2
        have x := (inn_iff _ _ _).1 o2.2.1
        obtain ⟨Rj, kj⟩ := ck_any X hM (Ch.c1 L j) (by omega) (by omega)
        exact ⟨Rj, fun _ => ⟨fun _ => kj, fun z => absurd k1 z, Or.inl k1, o1⟩⟩
      · have e1 : (Ch.c0 L j == 1) = false := by simp [k1]
        rw [e1] at o2
        simp only [Bool.false_eq_true, if_false] at o2
        unfold To.in2 at o2
        simp only [Bool.and_eq_true, decide_eq_true_eq] at o2
        obtain ⟨a, hx, hy, a1, a2, a3⟩ := o2
        have a' := (inn_iff _ _ _).1 a
        unfold To.hr at hx hy
        simp only [beq_iff_eq] at hx hy
        rw [Int.tmod_eq_emod_of_nonneg (by omega)] at hx hy
        obtain ⟨Rj, kj⟩ := sx_any X hM (Ch.c1 L j) (Ch.c2 L j) (by omega) (by omega) (by omega) (by omega)
        exact ⟨Rj, fun _ => ⟨fun z => absurd z k1, fun _ => kj, by omega, o1⟩⟩
    · exact ⟨[], fun z => absurd z hj⟩
  obtain ⟨R, hR⟩ := Classical.axiomOfChoice per
  exact ⟨RI, RV, R, h, cl, hn, so, kI, kV, fun j hj => (hR j hj).1, fun j hj => (hR j hj).2.1, fun j hj => (hR j hj).2.2.1, fun j hj => (hR j hj).2.2.2⟩
abbrev w0 (C : ByteArray) (RI RV S : List UInt8) : List (List UInt8) := [[84, 65, 70], C.data.toList, RI ++ [90], RV, S]
/-- the model's words of a change -/
def mw (k : Int) (r : List UInt8) : List (List UInt8) := if k = 1 then [[70, 77] ++ r] else [kw k, r]
/-- the program's -/
def iw (k : Int) (r : List UInt8) : List UInt8 := if k = 1 then [70, 77] ++ r else kw k ++ [32] ++ r
def mws (A : List (List UInt8)) (L : Ch.Ls) (R : Nat → List UInt8) : Nat → List (List UInt8)
  | 0 => A
  | j + 1 => mws A L R j ++ mw (Ch.c0 L j) (R j) ++ [ctx L j]
def iws (A : List (List UInt8)) (L : Ch.Ls) (R : Nat → List UInt8) : Nat → List (List UInt8)
  | 0 => A
  | j + 1 => iws A L R j ++ [iw (Ch.c0 L j) (R j), ctx L j]
theorem mws_ne (A : List (List UInt8)) (L : Ch.Ls) (R : Nat → List UInt8) (h : A ≠ []) : ∀ n, mws A L R n ≠ []
  | 0 => h
  | n + 1 => by simp [mws]
theorem iws_ne (A : List (List UInt8)) (L : Ch.Ls) (R : Nat → List UInt8) (h : A ≠ []) : ∀ n, iws A L R n ≠ []
  | 0 => h
  | n + 1 => by simp [iws]
theorem same (A : List (List UInt8)) (L : Ch.Ls) (R : Nat → List UInt8) (h : A ≠ []) : ∀ n, Lib.join (mws A L R n) [32] = Lib.join (iws A L R n) [32]
  | 0 => rfl
  | n + 1 => by
    have ih := same A L R h n
    have m := mws_ne A L R h n
    have i := iws_ne A L R h n
    have e2 : iws A L R (n + 1) = (iws A L R n ++ [iw (Ch.c0 L n) (R n)]) ++ [ctx L n] := by simp [iws]
    rw [e2, join_snoc _ _ (by simp), join_snoc _ _ i]
    unfold mws mw iw
    split
    · rw [join_snoc _ _ (by simp), join_snoc _ _ m, ih]
    · have e3 : mws A L R n ++ [kw (Ch.c0 L n), R n] = (mws A L R n ++ [kw (Ch.c0 L n)]) ++ [R n] := by simp
      rw [e3, join_snoc _ _ (by simp), join_snoc _ _ (by simp), join_snoc _ _ m, ih]
      simp [List.append_assoc]
theorem mw_len (k : Int) (r : List UInt8) : (mw k r).length ≤ 2 := by unfold mw; split <;> simp
theorem mws_len (A : List (List UInt8)) (L : Ch.Ls) (R : Nat → List UInt8) : ∀ n, (mws A L R n).length ≤ A.length + 3 * n
  | 0 => by simp [mws]
  | n + 1 => by
    have := mws_len A L R n
    have := mw_len (Ch.c0 L n) (R n)
    simp [mws]
    omega
theorem iws_len (A : List (List UInt8)) (L : Ch.Ls) (R : Nat → List UInt8) : ∀ n, (iws A L R n).length = A.length + 2 * n
  | 0 => by simp [iws]
  | n + 1 => by
    have := iws_len A L R n
    simp [iws]
    omega
theorem kw_len (k : Int) : (kw k).length ≤ 6 := by
  unfold kw
  split
  · decide
  · split
    · decide
    · split <;> decide
theorem txt_len {d p v : Int} {W C : ByteArray} {b : Int} (h : Sk.ok d p v W C b = true) : (txt d p v W C b).length ≤ 84 := by
  obtain ⟨a, c⟩ := prt_le (fit_of h)
  have := join_len _ c
  unfold txt
  omega
theorem mws_all {A : List (List UInt8)} {L : Ch.Ls} {R : Nat → List UInt8} (hA : ∀ x ∈ A, x.length ≤ 100) : ∀ n, (∀ j, j < n → (R j).length ≤ 9 ∧ (ctx L j).length ≤ 84) → ∀ x ∈ mws A L R n, x.length ≤ 100
  | 0, _ => hA
  | n + 1, h => by
    have ih := mws_all hA n (fun j hj => h j (by omega))
    have hn := h n (by omega)
    have := kw_len (Ch.c0 L n)
    intro x hx
    unfold mws mw at hx
    rw [List.mem_append, List.mem_append] at hx
    rcases hx with (hx | hx) | hx
    · exact ih x hx
    · split at hx
      · simp at hx; subst hx; simp; omega
      · simp at hx
        rcases hx with hx | hx <;> subst hx <;> omega
    · simp at hx; subst hx; omega
theorem iws_all {A : List (List UInt8)} {L : Ch.Ls} {R : Nat → List UInt8} (hA : ∀ x ∈ A, x.length ≤ 100) : ∀ n, (∀ j, j < n → (R j).length ≤ 9 ∧ (ctx L j).length ≤ 84) → ∀ x ∈ iws A L R n, x.length ≤ 100
  | 0, _ => hA
  | n + 1, h => by
    have ih := iws_all hA n (fun j hj => h j (by omega))
    have hn := h n (by omega)
    have := kw_len (Ch.c0 L n)
    intro x hx
    unfold iws iw at hx
    rw [List.mem_append] at hx
    rcases hx with hx | hx
    · exact ih x hx
    · simp at hx
      rcases hx with hx | hx
      · subst hx; split <;> simp <;> omega
      · subst hx; omega
theorem Rt.lens {T : World → Prop} {C : ByteArray} {I f t d p v : Int} {W O : ByteArray} {b : Int} {L : Ch.Ls} {RI RV : List UInt8} {R : Nat → List UInt8} (h : Rt T C I f t d p v W O b L RI RV R) : ∀ j, j < L.length → (R j).length ≤ 9 ∧ (ctx L j).length ≤ 84 := by
  intro j hj
  refine ⟨?_, txt_len (h.skies j hj)⟩
  by_cases z : Ch.c0 L j = 1
  · rw [(h.one j hj z).len]; omega
  · rw [(h.more j hj z).len]; omega
theorem Rt.heads {T : World → Prop} {C : ByteArray} {I f t d p v : Int} {W O : ByteArray} {b : Int} {L : Ch.Ls} {RI RV : List UInt8} {R : Nat → List UInt8} (h : Rt T C I f t d p v W O b L RI RV R) : ∀ x ∈ w0 C RI RV (txt d p v W O b), x.length ≤ 100 := by
  have := txt_len h.sky
  have q := h.c
  rw [Array.length_toList] at q
  have q2 : C.size = 4 := q
  have := h.i.len
  have := h.v.len
  intro x hx
  simp at hx
  rcases hx with hx | hx | hx | hx | hx <;> subst hx <;> (try simp) <;> omega
/-- the text of a forecast that is right -/
def ttx (C : ByteArray) (d p v : Int) (W O : ByteArray) (b : Int) (L : Ch.Ls) (RI RV : List UInt8) (R : Nat → List UInt8) : List UInt8 := Lib.join (iws (w0 C RI RV (txt d p v W O b)) L R L.length) [32] ++ [61]
end Go.Proofs.YtoaabdmbgemkjaaGreatDoor.Tx
