/- Drain: the law, with both answers in it. -/
import Derived.Test.YtagkbglgdmajhaaDt
import Derived.Test.YtagkbglgdmajhaaDrL
namespace Go.Proofs.Ytagkbglgdmajhaa.Hm
open Go.ChangeShapes Go.WideShapes Go.ChangeAt Go.RowKit
open Go.Proofs.Ytagkbglgdmajhaa.Lists Go.Proofs.Ytagkbglgdmajhaa.Dp Go.Proofs.Ytagkbglgdmajhaa.Hp Go.Proofs.Ytagkbglgdmajhaa.Gd

theorem own_nil (w : World) (B : Nat) : w.ownsRow B 2 1 (.slice none 0 0) 0 (ints []) := ⟨rfl, .inl ⟨rfl, rfl⟩⟩
theorem least (F H : List Int) : ∀ k, k ≤ 1000 → (∀ x, x < k → H.getD x 0 ≠ 1) ∨ ∃ t, t < k ∧ H.getD t 0 = 1 ∧ ∀ x, x < k → H.getD x 0 = 1 → F.getD t 0 * 1000 + t ≤ F.getD x 0 * 1000 + x
  | 0, _ => .inl fun x hx => absurd hx (Nat.not_lt_zero x)
  | k + 1, hk => by
    by_cases e : H.getD k 0 = 1
    · rcases least F H k (by omega) with h | ⟨t, h⟩
      · exact .inr ⟨k, MinTo.first h e⟩
      · by_cases q : F.getD k 0 < F.getD t 0
        · exact .inr ⟨k, MinTo.move (t := t) h (by omega) q e⟩
        · exact .inr ⟨t, MinTo.stay h q⟩
    · rcases least F H k (by omega) with h | ⟨t, h⟩
      · exact .inl fun x hx => by
          by_cases q : x = k
          · subst q; exact e
          · exact h x (by omega)
      · exact .inr ⟨t, MinTo.skip h e⟩
theorem cnt_nb {L : List Int} {t y : Nat} {u : S3} (hy : y < u.H.length) : cnt 2 (Dp.nb L t u y).H = cnt 2 u.H := by
  by_cases e : u.H.getD y 0 = 0
  · rw [nb_yes e]
    have := cnt_set 2 1 u.H y hy
    rw [e] at this
    simpa using this
  · rw [nb_no e]
theorem cnt_fold {L : List Int} {t : Nat} : ∀ (l : List Nat) (u : S3), (∀ y ∈ l, y < u.H.length) → cnt 2 (l.foldl (Dp.nb L t) u).H = cnt 2 u.H
  | [], _, _ => rfl
  | y :: l, u, h => by
    have hy := h y (List.mem_cons_self ..)
    obtain ⟨_, _, _, k4, _⟩ := nb_keep (L := L) (t := t) hy
    rw [List.foldl_cons, cnt_fold l _ (fun z hz => by rw [k4]; exact h z (List.mem_cons_of_mem _ hz)), cnt_nb hy]
theorem rch_all {r c : Int} {L : List Int} (hc : 1 ≤ c) (hn : (L.length : Int) = r * c) (hl : L.length ≤ 1000) : ∀ m k s, Rch r c L k s → L.length - cnt 2 s.H ≤ m → DRes r c L s ∨ ∃ k' s', Rch r c L k' s' ∧ DRes r c L s'
  | 0, k, s, h, hm => by
    have g := rch_good hc hn h
    rcases least s.F s.H L.length hl with q | ⟨t, q⟩
    · exact .inl ⟨k, h, q⟩
    · exfalso
      have l1 : t < s.H.length := by rw [g.inv.lh]; exact q.1
      have := cnt_set 2 2 s.H t l1
      rw [q.2.1] at this
      have l2 := cnt_le 2 (s.H.set t 2)
      rw [List.length_set, g.inv.lh] at l2
      simp at this
      omega
  | m + 1, k, s, h, hm => by
    have g := rch_good hc hn h
    rcases least s.F s.H L.length hl with q | ⟨t, q⟩
    · exact .inl ⟨k, h, q⟩
    · have l1 : t < s.H.length := by rw [g.inv.lh]; exact q.1
      have e := cnt_set 2 2 s.H t l1
      rw [q.2.1] at e
      simp at e
      have e2 : cnt 2 (stp r c L s t).H = cnt 2 (s.H.set t 2) := cnt_fold (ys r c t) (Dp.mk s t) (fun y hy => by
        show y < (s.H.set t 2).length
        rw [List.length_set, g.inv.lh]
        exact ys_in hc hn q.1 y hy)
      have hr : Rch r c L (k + 1) (stp r c L s t) := ⟨s, t, h, q, rfl⟩
      rcases rch_all hc hn hl m (k + 1) _ hr (by omega) with a | a
      · exact .inr ⟨_, _, hr, a⟩
      · exact .inr a
/-- one answer for all walks -/
theorem dres_exists {r c : Int} {L : List Int} (q : Bx.okB r c L = true) : ∃ s, DRes r c L s := by
  obtain ⟨⟨r1, r2⟩, ⟨c1, c2⟩, hn⟩ := size_of q
  have n5 := (Bx.mul_le ⟨r1, r2⟩ ⟨c1, c2⟩).2
  rcases rch_all c1 hn (by omega) L.length 0 (ini r c L) rfl (by omega) with a | ⟨_, s, _, a⟩
  · exact ⟨_, a⟩
  · exact ⟨s, a⟩
theorem drainAll (w : World) (r c : Int) (v : Value) (L : List Int) (hL : Lists.Reads w v L) (fL : L.length < 9223372036854775808) :
    Calls Try.prog 3 #[Bo.sv r c v] w fun e w' => e = .returned (.bool true) ∧ Below w.heap.size w w' := by
  cases h : Bx.okB r c L
  · refine LawDrL.drainLaw w r c v L hL fL [] (by simp) [] (by simp) (fun w t0 h0 => ?_) (fun w t0 h0 => ?_)
    · refine (sdrain_no r c t0 L w h0 fL h).mono ?_
      rintro e w' ⟨v1, v2, e1, e2, e3, e4, e5⟩
      exact ⟨v1, v2, e1, e2, e3, fun k a b => e4 k a b, e5⟩
    · refine (idrain_no r c t0 L w h0 fL h).mono ?_
      rintro e w' ⟨e1, e5⟩
      exact ⟨_, _, e1, own_nil _ _, own_nil _ _, (fun k a _ => by simp [Value.ownBlock] at a), e5⟩
  · obtain ⟨⟨r1, r2⟩, ⟨c1, c2⟩, hn⟩ := size_of h
    have n5 := (Bx.mul_le ⟨r1, r2⟩ ⟨c1, c2⟩).2
    obtain ⟨s, k, hr, hf⟩ := dres_exists h
    have gd := rch_good c1 hn hr
    have all : ∀ {w : World} {e : Ending} {w' : World}, DPo r c L w e w' → ∃ u0 u1, e = .returned (.tuple #[u0, u1]) ∧ w'.ownsRow w.heap.size 2 1 u0 s.F.length (ints s.F) ∧ w'.ownsRow w.heap.size 2 1 u1 s.N.length (ints s.N) ∧ (∀ k, u0.ownBlock = some k → u1.ownBlock = some k → False) ∧ Below w.heap.size w w' := by
      rintro w e w' ⟨v1, v2, s', e1, ⟨k', hr', hf'⟩, e2, e3, e4, e5⟩
      have es := fin_uniq (by omega) hr' hf' hr hf
      subst es
      rw [gd.inv.lf, gd.inv.ln]
      exact ⟨v1, v2, e1, e2, e3, fun k a b => e4 k a b, e5⟩
    refine LawDrL.drainLaw w r c v L hL fL s.F (by rw [gd.inv.lf]; omega) s.N (by rw [gd.inv.ln]; omega) (fun w t0 h0 => ?_) (fun w t0 h0 => ?_)
    · exact (sdrain_yes r c t0 L w h0 h).mono fun e w' d => all d
    · exact (idrain_yes r c t0 L w h0 h).mono fun e w' d => all d
end Go.Proofs.Ytagkbglgdmajhaa.Hm
