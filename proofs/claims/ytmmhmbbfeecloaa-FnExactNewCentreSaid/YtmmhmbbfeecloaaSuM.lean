/- l9Subs: the subscribers of routes, rising (the model). -/
import Derived.Test.YtmmhmbbfeecloaaSuI
namespace Go.Proofs.Ytmmhmbbfeecloaa.Su
open Go.Sort Go.ChangeShapes Go.WideShapes Go.ChangeAt Go.RowKit Rt Ro
theorem ints_of_own {w : World} {B n : Nat} {v : Value} {S : List Int} (h : w.ownsRow B 2 1 v n (ints S)) (hn : S.length = n) : Ints w v S := by
  rcases row_cases h with ⟨h0, h1⟩ | ⟨g, c, h1, h2, h3, h4, h5⟩
  · subst h1
    exact .inl ⟨List.eq_nil_of_length_eq_zero (by omega), none, 0, rfl⟩
  · subst h1
    have := ints_of_row (Z := []) (by simpa using h) (by omega)
    rw [hn] at this
    exact this
set_option maxRecDepth 20000 in
set_option maxHeartbeats 4000000 in
theorem ssubs_any (L : Ls) (v : Value) (w : World) (h : Reads w v L) (ho : Ok L) : Calls Try.prog 15 #[v] w fun e w' => ∃ v', e = .returned v' ∧ Ints w' v' (su L 1000) ∧ Below w.heap.size w w' := by
  obtain ⟨i0, hi, hz0, hz1, hz2⟩ := info_parts Try.infoI
  obtain ⟨a, c, rfl⟩ := h.form
  have hl := ho.1
  obtain ⟨n, hn⟩ : ∃ n, n = L.length := ⟨_, rfl⟩
  have HM : Hid (n = L.length) := hn
  have HC : Hid (∀ i, i < n → ∃ b o, a = some ⟨b, o, none⟩ ∧ ∀ w', Below w.heap.size w w' → Cs w' b o L i) := fun i hi => (by
    rw [HM.out] at hi
    rcases h with ⟨rfl, _⟩ | ⟨b, o, c', e, e1, _, x, y⟩
    · simp at hi
    · simp at e; exact ⟨b, o, e.1, fun w' hb => (y i hi).below hb x⟩)
  rw [← hn] at hl ⊢
  clear h hn ho
  have R0 : Hid ((w.alloc (.cells #[] 2)).ownsRow w.heap.size 2 1 (.slice (some ⟨w.heap.size, 0, none⟩) 0 0) (su L 0).length (ints (su L 0))) := World.ownsRow_lit (base := w.heap.size) (e := 2) (size := 1) w #[] 0 (by simp) (Nat.zero_le _) rfl
  have B0 : Hid (Below w.heap.size w (w.alloc (.cells #[] 2))) := (Below.refl _ _).alloc (Nat.le_refl _) _
  go_enter Try.func15, Try.ntmps15
  go_wp2_with fail
  go_loopw [3, 4] (fun q i wr => ∃ (m : Nat) (sv : Value), m ≤ 1000 ∧ i = .int .i64 (1 + (m : Int)) ∧ sv = q ∧ Hid (wr.ownsRow w.heap.size 2 1 sv (su L m).length (ints (su L m))) ∧ Hid (Below w.heap.size w wr)) (fun _ i _ => 1001 - (intOf i).toNat)
  case atStart => exact ⟨0, _, Nat.zero_le _, by simp, rfl, R0, B0⟩
  case round =>
    clear R0 B0
    obtain ⟨m, sv, hm, rfl, hq, RR, BB⟩ := hrel
    subst hq
    by_cases hlt : m < 1000
    · have hle : 1 + (m : Int) ≤ 1000 := by omega
      have j2 : IntKind.i64.wrap (1 + (m : Int) + 1) = 1 + (m : Int) + 1 := IntWalk.i64_in _ (by omega)
      have HY : Hid (isS L (1 + (m : Int)) = true → su L (m + 1) = su L m ++ [1 + (m : Int)]) := fun h => by rw [su_next, if_pos h]
      have HN : Hid (isS L (1 + (m : Int)) = false → su L (m + 1) = su L m) := fun h => by rw [su_next, h]; rfl
      have hlen := su_len L m
      generalize su L m = D at *
      obtain ⟨s, hs⟩ : ∃ s : Int, s = 1 + (m : Int) := ⟨_, rfl⟩
      have HS : Hid (s = 1 + (m : Int)) := hs
      rw [← hs] at hle j2 HY HN ⊢
      have hsz : w.heap.size ≤ wr.heap.size := BB.out.size
      clear hs
      go_wp2_with fail
      go_loop [3, 5] (fun q i => ∃ j : Nat, j ≤ n ∧ i = .int .i64 j ∧ sv = q ∧ Hid (∀ t, t < j → ¬ c1 L t = s)) (fun _ i => n - (intOf i).toNat)
      case atStart => exact ⟨0, Nat.zero_le _, rfl, rfl, fun t ht => by omega⟩
      case round =>
        obtain ⟨j, hj, rfl, hqq, NB⟩ := hrel
        subst hqq
        by_cases hlj : j < n
        · obtain ⟨b, o, rfl, qq⟩ := HC.out j hlj
          obtain ⟨q0, q1⟩ := qq wr BB.out
          clear qq
          have i1 : (0 : Int) ≤ (j : Int) := by omega
          have i2 : (j : Int) < (n : Int) := by omega
          by_cases he : c1 L j = s
          · have HIS : Hid (su L (m + 1) = D ++ [s]) := HY.out ((isS_iff L s).2 ⟨j, by rw [← HM.out]; exact hlj, he⟩)
            rw [he] at q1
            generalize c0 L j = y0 at *
            clear he HY HN NB
            obtain ⟨p, hp⟩ : ∃ p, p = D.length := ⟨_, rfl⟩
            rw [← hp] at RR hlen
            have HP : Hid (p = D.length) := hp
            clear hp
            go_wp2_with (at_builtin; refine wpList_append_own _ rfl _ _ 41 rfl w.heap.size 2 i0 (.int .i64 0) 1 8 Try.underlying41 hi hz0 hz1 hz2 rfl (by decide) _ _ _ rfl (RR.out.alloc _) ⟨wr.heap.size, 0, none⟩ 1 1 [.int .i64 s] rfl rfl (cell_one wr _ 2) (one_one _) (by unfold maxLen; omega) (by omega) (by simp; omega) ?_)
            intro v' w3 hown hgrow _
            have B3 : Hid (Below w.heap.size w w3) := (BB.out.alloc BB.out.size _).grown hgrow (by simp; omega) (fun b hb => (RR.out.lt b hb).1)
            have R3 : Hid (w3.ownsRow w.heap.size 2 1 v' (su L (m + 1)).length (ints (su L (m + 1)))) := (by show World.ownsRow _ _ _ _ _ _ _; rw [HIS.out]; simpa [HP.out] using hown)
            clear hown hgrow hsz
            go_wp2_with fail
            go_roundw
            case rel => exact ⟨m + 1, _, by omega, by rw [HS.out]; go_num, rfl, R3, B3⟩
            case measure => have := HS.out; simp [intOf]; omega
          · have NB' : Hid (∀ t, t < j + 1 → ¬ c1 L t = s) := fun t ht => by
              by_cases e : t = j
              · subst e; exact he
              · exact NB.out t (by omega)
            generalize c0 L j = y0 at *
            generalize c1 L j = y1 at *
            clear NB
            go_wp2_with fail
            go_round
            case rel => exact ⟨j + 1, by omega, by go_num, rfl, NB'⟩
            case measure => simp [intOf]; omega
        · have i2 : ¬ (j : Int) < (n : Int) := by omega
          have HIS : Hid (su L (m + 1) = D) := HN.out (by
            rw [Bool.eq_false_iff]
            intro h
            obtain ⟨t, ht, he⟩ := (isS_iff L s).1 h
            exact NB.out t (by rw [← HM.out] at ht; omega) he)
          have R3 : Hid (wr.ownsRow w.heap.size 2 1 sv (su L (m + 1)).length (ints (su L (m + 1)))) := (by show World.ownsRow _ _ _ _ _ _ _; rw [HIS.out]; exact RR.out)
          clear HY HN NB RR
          go_wp2_with fail
          go_roundw
          case rel => exact ⟨m + 1, _, by omega, by rw [HS.out]; go_num, rfl, R3, BB⟩
          case measure => have := HS.out; simp [intOf]; omega
    · have em : m = 1000 := by omega
      subst em
      have RE : Hid (Ints wr sv (su L 1000)) := ints_of_own RR.out rfl
      go_wp2_with fail
      go_ret
      exact ⟨_, rfl, RE.out, BB.out⟩
end Go.Proofs.Ytmmhmbbfeecloaa.Su
