/- What a text tells: the model's search, plainly; the program's reading at any tongue. -/
import Derived.Test.YtnbhfjcpimdnlaaDoorRr
import Derived.Test.YtnbhfjcpimdnlaaDoorRp
namespace Go.Proofs.YtnbhfjcpimdnlaaDoor.Ph
open Go.ChangeShapes Go.WideShapes Go.ChangeAt Go.RowKit
theorem wlen1 : ∀ d : Fin 9, ∀ f : Fin 13, ∀ l : Fin 13, (now 1 d.val f.val ++ ltr 1 f.val l.val).length ≤ 100 := by decide +kernel
theorem wlen2 : ∀ d : Fin 9, ∀ f : Fin 13, ∀ l : Fin 13, (now 2 d.val f.val ++ ltr 2 f.val l.val).length ≤ 100 := by decide +kernel
theorem wlen3 : ∀ d : Fin 9, ∀ f : Fin 13, ∀ l : Fin 13, (now 3 d.val f.val ++ ltr 3 f.val l.val).length ≤ 100 := by decide +kernel
theorem rlen1 : ∀ r : Fin 4, ∀ p : Fin 101, (rtx 1 r.val p.val).length ≤ 90 := by decide +kernel
theorem rlen2 : ∀ r : Fin 4, ∀ p : Fin 101, (rtx 2 r.val p.val).length ≤ 90 := by decide +kernel
theorem rlen3 : ∀ r : Fin 4, ∀ p : Fin 101, (rtx 3 r.val p.val).length ≤ 90 := by decide +kernel
theorem phr_len (t d f l r p : Int) (ht : t = 1 ∨ t = 2 ∨ t = 3) (hs : Sk d f l r p) : (phr t d f l r p).length ≤ 200 := by
  have hd := hs.d; have hf := hs.f; have hl := hs.l; have hr := hs.r; have hp := hs.p
  obtain ⟨d', rfl⟩ : ∃ x : Nat, d = x := ⟨d.toNat, by omega⟩
  obtain ⟨f', rfl⟩ : ∃ x : Nat, f = x := ⟨f.toNat, by omega⟩
  obtain ⟨l', rfl⟩ : ∃ x : Nat, l = x := ⟨l.toNat, by omega⟩
  obtain ⟨r', rfl⟩ : ∃ x : Nat, r = x := ⟨r.toNat, by omega⟩
  obtain ⟨p', rfl⟩ : ∃ x : Nat, p = x := ⟨p.toNat, by omega⟩
  unfold phr
  have h2 : (now t d' f' ++ ltr t f' l').length ≤ 100 ∧ (rtx t r' p').length ≤ 90 := by
    rcases ht with rfl | rfl | rfl
    · exact ⟨wlen1 ⟨d', by omega⟩ ⟨f', by omega⟩ ⟨l', by omega⟩, rlen1 ⟨r', by omega⟩ ⟨p', by omega⟩⟩
    · exact ⟨wlen2 ⟨d', by omega⟩ ⟨f', by omega⟩ ⟨l', by omega⟩, rlen2 ⟨r', by omega⟩ ⟨p', by omega⟩⟩
    · exact ⟨wlen3 ⟨d', by omega⟩ ⟨f', by omega⟩ ⟨l', by omega⟩, rlen3 ⟨r', by omega⟩ ⟨p', by omega⟩⟩
  simp only [List.length_append, List.length_cons, List.length_nil] at h2 ⊢
  omega
theorem sok_z {d f l r p : Int} (h : sok d f l r p = true) : (f = 0 ↔ d = 0) ∧ (p = 0 ↔ r = 0) := by
  unfold sok inn at h
  simp only [Bool.and_eq_true, decide_eq_true_eq] at h
  have a := h.2.2.2.1
  have b := h.2.2.2.2.2.2
  refine ⟨?_, ?_⟩
  · by_cases h1 : f = 0 <;> by_cases h2 : d = 0 <;> simp_all
  · by_cases h1 : p = 0 <;> by_cases h2 : r = 0 <;> simp_all
/-- what a text tells -/
def T5 (t : Int) (X : List UInt8) (d f l r p : Int) : Prop := sok d f l r p = true ∧ phr t d f l r p = X
theorem T5.sk {t : Int} {X : List UInt8} {d f l r p : Int} (h : T5 t X d f l r p) : Sk d f l r p := sok_sk h.1
theorem T5.rd {t : Int} {X : List UInt8} {d f l r p : Int} (ht : t = 1 ∨ t = 2 ∨ t = 3) (h : T5 t X d f l r p) : rdp t X = (d, f, l, r, p) := by
  have s := h.sk
  have z := sok_z h.1
  rw [← h.2]
  exact read_back t d f l r p ht s.d s.f s.l z.1 s.r s.p z.2
theorem T5.len {t : Int} {X : List UInt8} {d f l r p : Int} (ht : t = 1 ∨ t = 2 ∨ t = 3) (h : T5 t X d f l r p) : X.length ≤ 200 := by
  rw [← h.2]; exact phr_len t d f l r p ht h.sk
theorem T5.wind {t : Int} {X : List UInt8} {d f l r p : Int} (h : T5 t X d f l r p) : (now t d f).isPrefixOf X = true := by
  rw [List.isPrefixOf_iff_prefix, ← h.2]
  exact ⟨ltr t f l ++ [46, 32] ++ rtx t r p ++ [46], by unfold phr; simp [List.append_assoc]⟩
theorem T5.head {t : Int} {X : List UInt8} {d f l r p : Int} (h : T5 t X d f l r p) : (now t d f ++ ltr t f l ++ [46, 32]).isPrefixOf X = true := by
  rw [List.isPrefixOf_iff_prefix, ← h.2]
  exact ⟨rtx t r p ++ [46], by unfold phr; simp [List.append_assoc]⟩
/-- every telling lies at or behind a place of the search -/
def Nx (t : Int) (X : List UInt8) (d0 f0 l0 r0 p0 : Int) : Prop := ∀ d f l r p, T5 t X d f l r p → (d0 < d ∨ d = d0 ∧ (f0 < f ∨ f = f0 ∧ (l0 < l ∨ l = l0 ∧ (r0 < r ∨ r = r0 ∧ p0 ≤ p))))
variable {t : Int} {X : List UInt8} {d f l r p : Int}
theorem nx0 : Nx t X 0 0 0 0 0 := by
  intro a b c e g h
  obtain ⟨h1, h2, h3, h4, h5⟩ := h.sk
  omega
theorem nx_d (H : Nx t X d 13 0 0 0) : Nx t X (d + 1) 0 0 0 0 := by
  intro a b c e g h
  have := H a b c e g h
  obtain ⟨h1, h2, h3, h4, h5⟩ := h.sk
  omega
theorem nx_f (H : Nx t X d f 13 0 0) : Nx t X d (f + 1) 0 0 0 := by
  intro a b c e g h
  have := H a b c e g h
  obtain ⟨h1, h2, h3, h4, h5⟩ := h.sk
  omega
theorem nx_l (H : Nx t X d f l 4 0) : Nx t X d f (l + 1) 0 0 := by
  intro a b c e g h
  have := H a b c e g h
  obtain ⟨h1, h2, h3, h4, h5⟩ := h.sk
  omega
theorem nx_r (H : Nx t X d f l r 101) : Nx t X d f l (r + 1) 0 := by
  intro a b c e g h
  have := H a b c e g h
  obtain ⟨h1, h2, h3, h4, h5⟩ := h.sk
  omega
theorem nx_p (H : Nx t X d f l r p) (hn : ¬ T5 t X d f l r p) : Nx t X d f l r (p + 1) := by
  intro a b c e g h
  have q := H a b c e g h
  obtain ⟨h1, h2, h3, h4, h5⟩ := h.sk
  by_cases hh : a = d ∧ b = f ∧ c = l ∧ e = r ∧ g = p
  · obtain ⟨rfl, rfl, rfl, rfl, rfl⟩ := hh
    exact absurd h hn
  · omega
theorem nx_fs (H : Nx t X d f 0 0 0) (hn : ∀ l r p, ¬ T5 t X d f l r p) : Nx t X d (f + 1) 0 0 0 := by
  intro a b c e g h
  have q := H a b c e g h
  obtain ⟨h1, h2, h3, h4, h5⟩ := h.sk
  by_cases hh : a = d ∧ b = f
  · obtain ⟨rfl, rfl⟩ := hh
    exact absurd h (hn c e g)
  · omega
theorem nx_ls (H : Nx t X d f l 0 0) (hn : ∀ r p, ¬ T5 t X d f l r p) : Nx t X d f (l + 1) 0 0 := by
  intro a b c e g h
  have q := H a b c e g h
  obtain ⟨h1, h2, h3, h4, h5⟩ := h.sk
  by_cases hh : a = d ∧ b = f ∧ c = l
  · obtain ⟨rfl, rfl, rfl⟩ := hh
    exact absurd h (hn e g)
  · omega
theorem nx_end (H : Nx t X 9 0 0 0 0) : ∀ d f l r p, ¬ T5 t X d f l r p := by
  intro a b c e g h
  have q := H a b c e g h
  obtain ⟨h1, h2, h3, h4, h5⟩ := h.sk
  omega
theorem ext_take (q : List UInt8) (k : Nat) : (⟨q.toArray⟩ : ByteArray).extract 0 k = ⟨(q.take k).toArray⟩ := by
  apply WideShapes.bytes_inj; rw [ByteArray.data_extract]; simp
set_option maxHeartbeats 1000000 in
theorem sahead (s h : List UInt8) (w : World) (hs : s.length ≤ 2000000) : Calls Tryd.prog 14 #[.string ⟨s.toArray⟩, .string ⟨h.toArray⟩] w fun e w' => e = .returned (.bool (h.isPrefixOf s)) ∧ w' = w := by
  obtain ⟨S, hS⟩ : ∃ S : ByteArray, S = ⟨s.toArray⟩ := ⟨_, rfl⟩
  obtain ⟨Q, hQ⟩ : ∃ Q : ByteArray, Q = ⟨h.toArray⟩ := ⟨_, rfl⟩
  have sS : S.size = s.length := by rw [hS]; simp [ByteArray.size]
  have sQ : Q.size = h.length := by rw [hQ]; simp [ByteArray.size]
  obtain ⟨q, hq⟩ : ∃ q, h.isPrefixOf s = q := ⟨_, rfl⟩
  rw [hq]
  by_cases hl : h.length ≤ s.length
  · have ex : ((S.extract 0 Q.size).toList == Q.toList) = q := by
      rw [sQ, hS, hQ, ext_take, ← hq, Lib.toList_data, Lib.toList_data]
      show (s.take h.length == h) = h.isPrefixOf s
      rw [Bool.eq_iff_iff, List.isPrefixOf_iff_prefix]
      constructor
      · intro e
        have e' : s.take h.length = h := by simpa using e
        exact ⟨s.drop h.length, by conv => lhs; lhs; rw [← e']
                                   exact List.take_append_drop _ _⟩
      · rintro ⟨u, rfl⟩
        simp
    rw [← hS, ← hQ]
    have g1 : (Q.size : Int) ≤ (S.size : Int) := by omega
    have g2 : S.size ≤ 2000000 := by omega
    clear hS hQ hl hs sS sQ hq
    go_enter Tryd.func14, Tryd.ntmps14
    go_wp2_with fail
    go_ret
    first | exact ⟨rfl, rfl⟩ | (refine ⟨?_, rfl⟩; simp [ex])
  · have hq' : q = false := by
      rw [← hq]
      cases e : h.isPrefixOf s with
      | false => rfl
      | true =>
        rw [List.isPrefixOf_iff_prefix] at e
        exact absurd e.length_le hl
    subst hq'
    rw [← hS, ← hQ]
    have g1 : ¬ (Q.size : Int) ≤ (S.size : Int) := by omega
    have g2 : S.size ≤ 2000000 := by omega
    clear hS hQ hl hs sS sQ hq
    go_enter Tryd.func14, Tryd.ntmps14
    go_wp2_with fail
    go_ret
    exact ⟨rfl, rfl⟩
end Go.Proofs.YtnbhfjcpimdnlaaDoor.Ph
