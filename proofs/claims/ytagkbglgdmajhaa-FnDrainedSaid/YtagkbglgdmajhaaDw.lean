/- Drained boxes, plainly: the ways lead out of the edge, the heights fall along them. -/
import Derived.Test.YtagkbglgdmajhaaDrA
import Derived.Test.YtagkbglgdmajhaaCtT
namespace Go.Proofs.Ytagkbglgdmajhaa.Dp
open Go.Proofs.Ytagkbglgdmajhaa.Gd Go.Proofs.Ytagkbglgdmajhaa.Ct

structure Way (r c : Int) (L : List Int) (m : Nat) (s : S3) : Prop where
  ge : ∀ x, x < L.length → L.getD x 0 ≤ s.F.getD x 0
  en : ∀ x, x < L.length → s.H.getD x 0 ≠ 0 → (s.N.getD x 0 = -1 ∧ edB r c x = true) ∨ ∃ t : Nat, t < L.length ∧ s.N.getD x 0 = t ∧ s.H.getD t 0 = 2 ∧ s.F.getD t 0 ≤ s.F.getD x 0
  ends : ∀ x, x < L.length → s.H.getD x 0 ≠ 0 → (last s.N m x).isSome
theorem last_set {n : Nat} {N H : List Int} (hN : N.length = n) (cl : ∀ x, x < n → H.getD x 0 ≠ 0 → N.getD x 0 = -1 ∨ ∃ t : Nat, t < n ∧ N.getD x 0 = t ∧ H.getD t 0 ≠ 0) {y : Nat} (hy : y < n) (h0 : H.getD y 0 = 0) (v : Int) :
    ∀ k x, x < n → H.getD x 0 ≠ 0 → last (N.set y v) k x = last N k x
  | 0, _, _, _ => rfl
  | k + 1, x, hx, he => by
    have ne : x ≠ y := fun e => he (by rw [e]; exact h0)
    have g : nx (N.set y v) x = nx N x := by
      show (N.set y v).getD x 0 = N.getD x 0
      rw [set_get (by omega), if_neg ne]
    unfold last
    rw [g]
    by_cases e : nx N x = -1
    · rw [if_pos e, if_pos e]
    · rw [if_neg e, if_neg e]
      rcases cl x hx he with q | ⟨t, ht, q, hq⟩
      · exact absurd q e
      · have : (nx N x).toNat = t := by show (N.getD x 0).toNat = t; rw [q]; exact Int.toNat_natCast t
        rw [this]
        exact last_set hN cl hy h0 v k t ht hq
theorem last_le {N : List Int} {f g c : Nat} (h : f ≤ g) (hs : (last N f c).isSome) : (last N g c).isSome := by
  obtain ⟨r, hr⟩ := Option.isSome_iff_exists.1 hs
  rw [last_more N f g c r h hr]; rfl
theorem Way.up {r c : Int} {L : List Int} {m : Nat} {s : S3} (h : Way r c L m s) : Way r c L (m + 1) s := ⟨h.ge, h.en, fun x hx he => last_le (Nat.le_succ m) (h.ends x hx he)⟩
theorem Way.ini (r c : Int) (L : List Int) : Way r c L 1 (Dp.ini r c L) := by
  have nn : ∀ x, x < L.length → (Dp.ini r c L).N.getD x 0 = -1 := fun x hx => by
    show (List.replicate L.length (-1 : Int)).getD x 0 = -1
    simp [List.getD_eq_getElem?_getD, hx]
  refine ⟨fun x _ => Int.le_refl _, fun x hx he => .inl ⟨nn x hx, ?_⟩, fun x hx he => ?_⟩
  · change (H0 r c L.length L.length).getD x 0 ≠ 0 at he
    rw [H0_get r c hx] at he
    by_cases q : edB r c x = true
    · exact q
    · simp [q] at he
  · unfold last
    rw [if_pos (show nx (Dp.ini r c L).N x = -1 from nn x hx)]
    rfl
theorem Way.mkk {r c : Int} {L : List Int} {m : Nat} {s : S3} (h : Way r c L m s) (g : Inv r c L s) {t : Nat} (ht : t < L.length) (h1 : s.H.getD t 0 = 1) : Way r c L m (Dp.mk s t) := by
  have sg := fun x => set_get (L := s.H) (show t < s.H.length by rw [g.lh]; exact ht) 2 x
  have back : ∀ x, (Dp.mk s t).H.getD x 0 ≠ 0 → s.H.getD x 0 ≠ 0 := fun x hx => by
    change (s.H.set t 2).getD x 0 ≠ 0 at hx
    rw [sg] at hx
    by_cases e : x = t
    · subst e; omega
    · rwa [if_neg e] at hx
  refine ⟨h.ge, fun x hx he => ?_, fun x hx he => h.ends x hx (back x he)⟩
  rcases h.en x hx (back x he) with a | ⟨q, a1, a2, a3, a4⟩
  · exact .inl a
  · refine .inr ⟨q, a1, a2, ?_, a4⟩
    show (s.H.set t 2).getD q 0 = 2
    rw [sg]
    split
    · rfl
    · exact a3
def WF (r c : Int) (L : List Int) (m t : Nat) (u : S3) : Prop := Inv r c L u ∧ Way r c L (m + 1) u ∧ u.H.getD t 0 = 2 ∧ (last u.N m t).isSome
theorem WF.nb {r c : Int} {L : List Int} {m t : Nat} {u : S3} (h : WF r c L m t u) (ht : t < L.length) {y : Nat} (hy : y < L.length) : WF r c L m t (Dp.nb L t u y) := by
  obtain ⟨I, W, h2, hl⟩ := h
  by_cases e : u.H.getD y 0 = 0
  · have I' := I.nb (t := t) hy
    rw [nb_yes e] at I' ⊢
    have ty : t ≠ y := fun q => by subst q; omega
    have gF := fun x => set_get (L := u.F) (show y < u.F.length by rw [I.lf]; exact hy) (max (L.getD y 0) (u.F.getD t 0)) x
    have gN := fun x => set_get (L := u.N) (show y < u.N.length by rw [I.ln]; exact hy) (t : Int) x
    have gH := fun x => set_get (L := u.H) (show y < u.H.length by rw [I.lh]; exact hy) 1 x
    have cl : ∀ x, x < L.length → u.H.getD x 0 ≠ 0 → u.N.getD x 0 = -1 ∨ ∃ q : Nat, q < L.length ∧ u.N.getD x 0 = q ∧ u.H.getD q 0 ≠ 0 := fun x hx he => by
      rcases W.en x hx he with a | ⟨q, a1, a2, a3, _⟩
      · exact .inl a.1
      · exact .inr ⟨q, a1, a2, by omega⟩
    have ls := fun k x hx he => last_set I.ln cl hy e (t : Int) k x hx he
    refine ⟨I', ⟨fun x hx => ?_, fun x hx he => ?_, fun x hx he => ?_⟩, ?_, ?_⟩
    · show _ ≤ (u.F.set y _).getD x 0
      rw [gF]
      by_cases q : x = y
      · subst q; rw [if_pos rfl]; omega
      · rw [if_neg q]; exact W.ge x hx
    · change (u.H.set y 1).getD x 0 ≠ 0 at he
      show ((u.N.set y t).getD x 0 = -1 ∧ _) ∨ ∃ q : Nat, _ ∧ (u.N.set y t).getD x 0 = _ ∧ (u.H.set y 1).getD q 0 = 2 ∧ (u.F.set y _).getD q 0 ≤ (u.F.set y _).getD x 0
      rw [gH] at he
      rw [gN, gF]
      by_cases q : x = y
      · subst q
        rw [if_pos rfl, if_pos rfl]
        refine .inr ⟨t, ht, rfl, ?_, ?_⟩
        · rw [gH, if_neg ty]; exact h2
        · rw [gF, if_neg ty]; omega
      · rw [if_neg q] at he
        rw [if_neg q, if_neg q]
        rcases W.en x hx he with a | ⟨p, a1, a2, a3, a4⟩
        · exact .inl a
        · have py : p ≠ y := fun z => by subst z; omega
          refine .inr ⟨p, a1, a2, ?_, ?_⟩
          · rw [gH, if_neg py]; exact a3
          · rw [gF, if_neg py]; exact a4
    · change (u.H.set y 1).getD x 0 ≠ 0 at he
      show (last (u.N.set y t) (m + 1) x).isSome
      rw [gH] at he
      by_cases q : x = y
      · subst q
        unfold last
        have z : nx (u.N.set x t) x = t := by show (u.N.set x t).getD x 0 = t; rw [gN, if_pos rfl]
        rw [z, if_neg (by omega), Int.toNat_natCast, ls m t ht (by omega)]
        exact hl
      · rw [if_neg q] at he
        rw [ls (m + 1) x hx he]
        exact W.ends x hx he
    · show (u.H.set y 1).getD t 0 = 2
      rw [gH, if_neg ty]; exact h2
    · show (last (u.N.set y t) m t).isSome
      rw [ls m t ht (by omega)]; exact hl
  · rw [nb_no e]; exact ⟨I, W, h2, hl⟩
theorem WF.fold {r c : Int} {L : List Int} {m t : Nat} (ht : t < L.length) : ∀ (l : List Nat) (u : S3), (∀ y ∈ l, y < L.length) → WF r c L m t u → WF r c L m t (l.foldl (Dp.nb L t) u)
  | [], _, _, h => h
  | y :: l, u, hl, h => by
    rw [List.foldl_cons]
    exact WF.fold ht l _ (fun z hz => hl z (List.mem_cons_of_mem _ hz)) (h.nb ht (hl y (List.mem_cons_self ..)))
theorem rch_way {r c : Int} {L : List Int} (hc : 1 ≤ c) (hn : (L.length : Int) = r * c) : ∀ {k : Nat} {s : S3}, Rch r c L k s → Way r c L (k + 1) s
  | 0, _, h => by rw [h]; exact Way.ini r c L
  | k + 1, _, ⟨s0, t, h1, h2, h3⟩ => by
    have W := rch_way hc hn h1
    have g := rch_good hc hn h1
    rw [h3]
    have ht := h2.1
    have wf : WF r c L (k + 1) t (Dp.mk s0 t) := ⟨g.inv.mkk ht, (W.mkk g.inv ht h2.2.1).up, by
      show (s0.H.set t 2).getD t 0 = 2
      rw [set_get (by rw [g.inv.lh]; exact ht), if_pos rfl], W.ends t ht (by have := h2.2.1; omega)⟩
    exact (WF.fold ht (ys r c t) _ (fun y hy => ys_in hc hn ht y hy) wf).2.1
theorem rch_cnt {r c : Int} {L : List Int} (hc : 1 ≤ c) (hn : (L.length : Int) = r * c) : ∀ {k : Nat} {s : S3}, Rch r c L k s → k ≤ cnt 2 s.H
  | 0, _, _ => Nat.zero_le _
  | k + 1, _, ⟨s0, t, h1, h2, h3⟩ => by
    have g := rch_good hc hn h1
    have ih := rch_cnt hc hn h1
    have e := cnt_set 2 2 s0.H t (by rw [g.inv.lh]; exact h2.1)
    rw [h2.2.1] at e
    simp at e
    have e2 : cnt 2 (stp r c L s0 t).H = cnt 2 (s0.H.set t 2) := Hm.cnt_fold (ys r c t) (Dp.mk s0 t) (fun y hy => by
      show y < (s0.H.set t 2).length
      rw [List.length_set, g.inv.lh]
      exact ys_in hc hn h2.1 y hy)
    rw [h3, e2]
    omega
/-- what the law asks of the answer -/
structure Dry (r c : Int) (L F N : List Int) : Prop where
  lf : F.length = L.length
  ln : N.length = L.length
  ok : okN N = true
  at_ : ∀ x, x < L.length → L.getD x 0 ≤ F.getD x 0 ∧ ((N.getD x 0 = -1 ∧ edB r c x = true) ∨ ∃ t : Nat, t < L.length ∧ N.getD x 0 = t ∧ F.getD t 0 ≤ F.getD x 0)
theorem dry_of {r c : Int} {L : List Int} {s : S3} (hc : 1 ≤ c) (hn : (L.length : Int) = r * c) (hl : L.length ≤ 576) (h : Hm.DRes r c L s) : Dry r c L s.F s.N := by
  obtain ⟨k, hr, hf⟩ := h
  have g := rch_good hc hn hr
  have W := rch_way hc hn hr
  have A := all_two hc hn g hf
  have K := rch_cnt hc hn hr
  have C := cnt_le 2 s.H
  rw [g.inv.lh] at C
  have en : ∀ x, x < L.length → (s.N.getD x 0 = -1 ∧ edB r c x = true) ∨ ∃ t : Nat, t < L.length ∧ s.N.getD x 0 = t ∧ s.F.getD t 0 ≤ s.F.getD x 0 := fun x hx => by
    rcases W.en x hx (by rw [A x hx]; omega) with a | ⟨t, a1, a2, _, a4⟩
    · exact .inl a
    · exact .inr ⟨t, a1, a2, a4⟩
  refine ⟨g.inv.lf, g.inv.ln, (ok_iff _).2 ⟨by rw [g.inv.ln]; exact hl, fun x hx => ?_, fun x hx => ?_⟩, fun x hx => ⟨W.ge x hx, en x hx⟩⟩
  · rw [g.inv.ln] at hx ⊢
    show -1 ≤ s.N.getD x 0 ∧ s.N.getD x 0 < _
    rcases en x hx with a | ⟨t, a1, a2, _⟩
    · rw [a.1]; omega
    · rw [a2]; omega
  · rw [g.inv.ln] at hx ⊢
    exact last_le (by omega) (W.ends x hx (by rw [A x hx]; omega))
end Go.Proofs.Ytagkbglgdmajhaa.Dp
namespace Go.Proofs.Ytagkbglgdmajhaa.Ct
theorem sm_const (n : Nat) : sm n (fun _ => 1) = n := by
  induction n with
  | zero => rfl
  | succ n ih => show sm n (fun _ => 1) + 1 = _; rw [ih]; omega
theorem one_out {N : List Int} (hv : Va N) : ∀ f c, c < N.length → (last N f c).isSome → sm N.length (fun k => if nx N k = -1 then cn k (path N f c) else 0) = 1
  | 0, c, _, h => by simp [last] at h
  | f + 1, c, hc, h => by
    unfold last at h
    unfold path
    by_cases e : nx N c = -1
    · rw [if_pos e]
      refine (sm_congr fun k _ => ?_).trans (sm_one hc 1)
      rw [cn_cons, cn_nil]
      by_cases q : k = c
      · subst q; simp [e]
      · rw [if_neg (show ¬ c = k by omega), if_neg q]; split <;> rfl
    · rw [if_neg e] at h ⊢
      have hd : (nx N c).toNat < N.length := by have := hv c hc; omega
      refine (sm_congr fun k _ => ?_).trans (one_out hv f _ hd h)
      by_cases q : nx N k = -1
      · rw [if_pos q, if_pos q, cn_cons, if_neg (fun z => by subst z; exact e q)]; omega
      · rw [if_neg q, if_neg q]
def og (N : List Int) (k : Nat) : Int := if nx N k = -1 then F N k else 0
theorem out_all {N : List Int} (h : okN N = true) : sm N.length (og N) = N.length := by
  obtain ⟨_, hv, he⟩ := (ok_iff N).1 h
  have e : sm N.length (og N) = sm N.length (fun k => sm N.length (fun c => if nx N k = -1 then cn k (pth N c) else 0)) := sm_congr fun k _ => by
    unfold og F thru
    rw [sm_if]
  rw [e, sm_swap]
  refine Eq.trans ?_ (sm_const N.length)
  exact sm_congr fun c hc => one_out hv _ c hc (he c hc)
theorem og_ge {N : List Int} (k : Nat) : 0 ≤ og N k := by
  unfold og
  split
  · exact (thru_le N N.length k).1
  · exact Int.le_refl _
theorem sm_part {f : Nat → Int} (h : ∀ i, 0 ≤ f i) : ∀ {n K : Nat}, K ≤ n → sm K f ≤ sm n f
  | 0, K, hk => by obtain rfl : K = 0 := by omega
                   exact Int.le_refl _
  | n + 1, K, hk => by
    by_cases e : K = n + 1
    · subst e; exact Int.le_refl _
    · have := sm_part h (n := n) (K := K) (by omega)
      show _ ≤ sm n f + f n
      have := h n
      omega
theorem out_part {N : List Int} (h : okN N = true) {K : Nat} (hk : K ≤ N.length) : 0 ≤ sm K (og N) ∧ sm K (og N) ≤ N.length := by
  refine ⟨sm_ge fun i _ => og_ge i, ?_⟩
  rw [← out_all h]
  exact sm_part og_ge hk
theorem cat_at {N : List Int} (h : okN N = true) : (cat N).length = N.length ∧ ∀ k, k < N.length → (cat N).getD k 0 = F N k := by
  unfold cat
  rw [h]
  refine ⟨by simp, fun k hk => ?_⟩
  simp [List.getD_eq_getElem?_getD, hk]
theorem outl_at {N : List Int} (h : okN N = true) {k : Nat} (hk : k < N.length) : ∃ o : Nat, outl N k = (o : Int) ∧ o < N.length ∧ N.getD o 0 = -1 := by
  obtain ⟨_, hv, he⟩ := (ok_iff N).1 h
  obtain ⟨o, ho⟩ := Option.isSome_iff_exists.1 (he k hk)
  have := last_lt hv _ k o hk ho
  refine ⟨o, ?_, this.1, this.2⟩
  unfold outl
  rw [h, (inn_iff _ _ _).2 ⟨by omega, by omega⟩]
  simp only [Bool.and_self, if_true, Int.toNat_natCast]
  unfold la
  rw [ho]
  rfl
end Go.Proofs.Ytagkbglgdmajhaa.Ct
