/- Mixed: the model. -/
import Derived.Test.YtnnmklkpgdpkgaaMxJ
import Derived.Maps.AppendAt
namespace Go.Proofs.Ytnnmklkpgdpkgaa.Mx
open Go.ChangeShapes Go.WideShapes Go.ChangeAt Go.RowKit
open Go.Proofs.Ytnnmklkpgdpkgaa.Lists Go.Proofs.Ytnnmklkpgdpkgaa.Al Go.Proofs.Ytnnmklkpgdpkgaa.Su

theorem row_form {w : World} {B k : Nat} {v : Value} {xs : List Value} (R : w.ownsRow B 2 1 v k xs) : ∃ sa sc, v = .slice sa k sc := by
  rcases R.2 with ⟨h, h'⟩ | ⟨g, c, cur, h, _⟩
  · exact ⟨none, 0, by rw [h, h']⟩
  · exact ⟨_, _, h⟩
theorem lit_row (w : World) : (w.alloc (Obj.cells #[] 2)).ownsRow w.heap.size 2 1 (.slice (some ⟨w.heap.size, 0, none⟩) 0 0) 0 [] := by
  have := World.ownsRow_lit (e := 2) w #[] 0 (size := 1) (Nat.le_refl _) (Nat.zero_le _) rfl
  simp at this
  exact this

set_option maxHeartbeats 1000000 in
theorem smixed_no (A B : List Int) (v s : Value) (w : World) (hA : Lists.Reads w v A) (hB : Lists.Reads w s B) (lA : A.length < 9223372036854775808) (lB : B.length < 9223372036854775808) (h : okM A B = false) :
    Calls Try.prog 9 #[v, s] w fun e w' => ∃ u, e = .returned (.tuple #[u, .bool false]) ∧ w'.ownsRow w.heap.size 2 1 u 0 [] ∧ Below w.heap.size w w' := by
  have FV := hA.form
  have FS := hB.form
  obtain ⟨av, cv, rfl⟩ := FV
  obtain ⟨sa, cs, rfl⟩ := FS
  have C1 : Hid (Calls Try.prog 21 #[.slice av A.length cv] w fun e w' => e = .returned (.bool (okR A)) ∧ ∃ m, w' = w.drewN m) := sres_any A _ w hA lA
  have C2 : Hid (∀ m, Calls Try.prog 21 #[.slice sa B.length cs] (w.drewN m) fun e w' => e = .returned (.bool (okR B)) ∧ ∃ m', w' = (w.drewN m).drewN m') := fun m => sres_any B _ _ (hB.on (below_drewN (Below.refl _ _) m)) lB
  have RR : Hid (∀ m, ((w.alloc (Obj.cells #[] 2)).drewN m).ownsRow w.heap.size 2 1 (.slice (some ⟨w.heap.size, 0, none⟩) 0 0) 0 []) := fun m => lit_row w
  have BR : Hid (∀ m, Below w.heap.size w ((w.alloc (Obj.cells #[] 2)).drewN m)) := fun m => below_drewN ((Below.refl _ _).alloc (Nat.le_refl _) _) m
  unfold okM at h
  clear hA hB
  generalize okR A = b1 at *
  generalize okR B = b2 at *
  generalize A.length = n at *
  generalize B.length = n' at *
  cases b1
  · go_enter Try.func9, Try.ntmps9
    go_wp2_with fail
    refine C1.out.mono ?_
    rintro e w1 ⟨rfl, m1, rfl⟩
    go_wp2_with fail
    exact bodyPost_ret (v := .tuple #[.slice (some ⟨w.heap.size, 0, none⟩) 0 0, .bool false]) (by simp [results, Try.results9, go_sem]) rfl ⟨_, rfl, RR.out m1, BR.out m1⟩
  · cases b2
    · go_enter Try.func9, Try.ntmps9
      go_wp2_with fail
      refine C1.out.mono ?_
      rintro e w1 ⟨rfl, m1, rfl⟩
      go_wp2_with fail
      refine (C2.out m1).mono ?_
      rintro e w2 ⟨rfl, m2, rfl⟩
      go_wp2_with fail
      exact bodyPost_ret (v := .tuple #[.slice (some ⟨w.heap.size, 0, none⟩) 0 0, .bool false]) (by simp [results, Try.results9, go_sem]) rfl ⟨_, rfl, RR.out (m1 + m2), BR.out (m1 + m2)⟩
    · have e1 : ((n : Int) != (n' : Int)) = true := by
        have : ¬ n = n' := by simpa using h
        simp
        omega
      go_enter Try.func9, Try.ntmps9
      go_wp2_with fail
      refine C1.out.mono ?_
      rintro e w1 ⟨rfl, m1, rfl⟩
      go_wp2_with fail
      refine (C2.out m1).mono ?_
      rintro e w2 ⟨rfl, m2, rfl⟩
      go_wp2_with fail
      exact bodyPost_ret (v := .tuple #[.slice (some ⟨w.heap.size, 0, none⟩) 0 0, .bool false]) (by simp [results, Try.results9, go_sem]) rfl ⟨_, rfl, RR.out (m1 + m2), BR.out (m1 + m2)⟩

set_option maxHeartbeats 1000000 in
theorem smixed_yes (A B : List Int) (v s : Value) (w : World) (hA : Lists.Reads w v A) (hB : Lists.Reads w s B) (h : okM A B = true) :
    Calls Try.prog 9 #[v, s] w fun e w' => ∃ u, e = .returned (.tuple #[u, .bool true]) ∧ w'.ownsRow w.heap.size 2 1 u A.length (ints (mixL A B A.length)) ∧ Below w.heap.size w w' := by
  have O := ok_of h
  obtain ⟨ba, oa, hca, hva⟩ := reads_at hA
  obtain ⟨bb, ob, hcb, hvb⟩ := reads_at hB
  have o1 := O.n1
  have o64 := O.n64
  have oB := O.nB
  obtain ⟨bal, ca, rfl⟩ := hva (by omega)
  obtain ⟨bbl, cb, rfl⟩ := hvb (by omega)
  obtain ⟨n, hn⟩ : ∃ n, n = A.length := ⟨_, rfl⟩
  rw [← hn] at o1 o64 oB
  unfold okM at h
  rw [Bool.and_eq_true, Bool.and_eq_true] at h
  obtain ⟨e1, e2, _⟩ := h
  have C1 : Hid (Calls Try.prog 21 #[.slice (some ⟨ba, oa, none⟩) n ca] w fun e w' => e = .returned (.bool true) ∧ ∃ m, w' = w.drewN m) := by rw [← e1]; have := sres_any A _ w hA (by omega); rw [← hn] at this; exact this
  have C2 : Hid (∀ m, Calls Try.prog 21 #[.slice (some ⟨bb, ob, none⟩) n cb] (w.drewN m) fun e w' => e = .returned (.bool true) ∧ ∃ m', w' = (w.drewN m).drewN m') := fun m => by rw [← e2]; have := sres_any B _ _ (hB.on (below_drewN (Below.refl _ _) m)) (by omega); rw [oB] at this; exact this
  have RR : Hid (∀ m, ((w.alloc (Obj.cells #[] 2)).drewN m).ownsRow w.heap.size 2 1 (.slice (some ⟨w.heap.size, 0, none⟩) 0 0) 0 []) := fun m => lit_row w
  have BR : Hid (∀ m, Below w.heap.size w ((w.alloc (Obj.cells #[] 2)).drewN m)) := fun m => below_drewN ((Below.refl _ _).alloc (Nat.le_refl _) _) m
  have HO : Hid (Ok A B) := O
  have HCA : Hid (∀ i, i < n → w.cell? ⟨ba, oa + i, none⟩ = some (.int .i64 (A.getD i 0))) := fun i hi => hca i (by omega)
  have HCB : Hid (∀ i, i < n → w.cell? ⟨bb, ob + i, none⟩ = some (.int .i64 (B.getD i 0))) := fun i hi => hcb i (by omega)
  have HBV : Hid (ba < w.heap.size ∧ bb < w.heap.size) := ⟨bal, bbl⟩
  have HN : Hid (n = A.length) := hn
  have e3 : ((n : Int) != (n : Int)) = false := by simp
  have n0 : ((n : Int) == 0) = false := by simp; omega
  have n0' : ¬ (n : Int) = 0 := by omega
  obtain ⟨i0, hi, hz0, hz1, hz2⟩ := info_parts Lists.Try.info2
  rw [oB, ← hn]
  clear hA hB hca hcb e1 e2 bal bbl O oB hn
  go_enter Try.func9, Try.ntmps9
  go_wp2_with fail
  refine C1.out.mono ?_
  rintro e w1 ⟨rfl, m1, rfl⟩
  go_wp2_with fail
  refine (C2.out m1).mono ?_
  rintro e w2 ⟨rfl, m2, rfl⟩
  go_wp2_with fail
  go_loopw [7, 8] (fun u i wr => ∃ k : Nat, k ≤ n ∧ i = .int .i64 k ∧ Hid (wr.ownsRow w.heap.size 2 1 u k (ints (mixL A B k))) ∧ Hid (Below w.heap.size w wr)) (fun _ i _ => n - (intOf i).toNat)
  case atStart => exact ⟨0, Nat.zero_le _, rfl, RR.out (m1 + m2), BR.out (m1 + m2)⟩
  case round =>
    obtain ⟨k, hk, rfl, R, BB⟩ := hrel
    obtain ⟨sa, sc, hv⟩ := row_form R.out
    subst hv
    by_cases hlt : k < n
    · have EX : Hid (mix A B k = (sm n fun i => A.getD i 0 * B.getD (ix n k i) 0) % 65537) := by show _ = _; unfold mix; rw [← HN.out]
      have i2 : (k : Int) < (n : Int) := by omega
      obtain ⟨wB, hwB⟩ : ∃ x : World, x = wr := ⟨_, rfl⟩
      subst hwB
      go_wp2_with fail
      go_loopw [9, 10] (fun s i wx => ∃ j : Nat, j ≤ n ∧ i = .int .i64 j ∧ s = .int .i64 ((sm j fun i => A.getD i 0 * B.getD (ix n k i) 0) % 65537) ∧ ∃ m, wx = wB.drewN m) (fun _ i _ => n - (intOf i).toNat)
      case atStart => exact ⟨0, Nat.zero_le _, rfl, rfl, 0, rfl⟩
      case round =>
        obtain ⟨j, hj, rfl, rfl, m, rfl⟩ := hrel
        by_cases hjt : j < n
        · have l := HBV.out
          have oo := HN.out
          have qa : ∀ m, (wB.drewN m).cell? ⟨ba, oa + j, none⟩ = some (.int .i64 (A.getD j 0)) := fun m => ((below_drewN BB.out m).cell (p := ⟨ba, oa + j, none⟩) l.1).trans (HCA.out j hjt)
          have qb : ∀ m, (wB.drewN m).cell? ⟨bb, ob + ix n k j, none⟩ = some (.int .i64 (B.getD (ix n k j) 0)) := fun m => ((below_drewN BB.out m).cell (p := ⟨bb, ob + ix n k j, none⟩) l.2).trans (HCB.out _ (ix_lt hlt hjt))
          have tb : 0 ≤ A.getD j 0 * B.getD (ix n k j) 0 ∧ A.getD j 0 * B.getD (ix n k j) 0 ≤ 4294967296 := by
            have := HO.out.term k j (by omega) (by omega)
            rw [← oo] at this
            exact this
          have em : ((k : Int) - j + n) % n = (ix n k j : Int) := ix_int hlt hjt
          have em' : ((k : Int) - j + n).tmod n = (ix n k j : Int) := by rw [Int.tmod_eq_emod_of_nonneg (by omega)]; exact em
          have il := ix_lt hlt hjt
          have ES : Hid ((sm (j + 1) fun i => A.getD i 0 * B.getD (ix n k i) 0) % 65537 = ((sm j fun i => A.getD i 0 * B.getD (ix n k i) 0) % 65537 + A.getD j 0 * B.getD (ix n k j) 0) % 65537) := sm_mod j _
          have s0 : 0 ≤ (sm j fun i => A.getD i 0 * B.getD (ix n k i) 0) % 65537 := by omega
          have s1 : (sm j fun i => A.getD i 0 * B.getD (ix n k i) 0) % 65537 < 65537 := by omega
          have p1 : (0 : Int) ≤ (j : Int) := by omega
          have p2 : (j : Int) < (n : Int) := by omega
          have p3 : (0 : Int) ≤ (ix n k j : Int) := by omega
          have p4 : (ix n k j : Int) < (n : Int) := by omega
          obtain ⟨t1, t2⟩ := tb
          clear l oo il
          generalize (sm j fun i => A.getD i 0 * B.getD (ix n k i) 0) % 65537 = S at *
          generalize A.getD j 0 = x at *
          generalize B.getD (ix n k j) 0 = y at *
          generalize ix n k j = r at *
          go_wp2_with fail
          go_region
          go_wp2_with fail
          go_roundw
          case rel => exact ⟨j + 1, by omega, by go_num, by rw [ES.out], m + 1, rfl⟩
          case measure => simp [intOf]; omega
        · have hjn : j = n := by omega
          subst hjn
          rw [← EX.out]
          have FN : Hid (mixL A B (k + 1) = mixL A B k ++ [mix A B k]) := rfl
          have RD : Hid ((wB.drewN m).ownsRow w.heap.size 2 1 (.slice sa k sc) k (ints (mixL A B k))) := R.out
          have BD : Hid (Below w.heap.size w (wB.drewN m)) := below_drewN BB.out m
          have OL : Hid (∀ g, (Value.slice sa k sc).ownBlock = some g → w.heap.size ≤ g ∧ g < (wB.drewN m).heap.size) := fun g hg => RD.out.lt g hg
          have HS : Hid (w.heap.size ≤ (wB.drewN m).heap.size) := BD.out.size
          generalize mix A B k = z at *
          generalize mixL A B k = F at *
          generalize wB.drewN m = wD at *
          go_wp2_with (at_builtin; refine wpList_append_own _ rfl _ _ 22 rfl w.heap.size 2 i0 (.int .i64 0) 1 8 Try.underlying22 hi hz0 hz1 hz2 rfl (by decide) _ _ _ rfl (RD.out.alloc _) ⟨wD.heap.size, 0, none⟩ 1 1 [.int .i64 z] rfl rfl ?c1 ?c2 ?c3 ?c4 ?c5 ?_)
          case c1 =>
            intro j u hj
            match j, hj with
            | 0, hj => simp at hj; subst hj; simp [Addr.add]
          case c2 => intro u hu; simp at hu; subst hu; rfl
          case c3 => unfold maxLen; omega
          case c4 => omega
          case c5 => have := HS.out; simp; omega
          · intro v' w2 hown hgrow _
            have R2 : Hid (w2.ownsRow w.heap.size 2 1 v' (k + 1) (ints (mixL A B (k + 1)))) := (by
              show World.ownsRow _ _ _ _ _ _ _
              rw [FN.out]
              simpa [ints] using hown)
            have B2 : Hid (Below w.heap.size w w2) := (BD.out.alloc HS.out _).grown hgrow (by simp; have := HS.out; omega) (fun b hb => (OL.out b hb).1)
            clear hown hgrow OL R RD BB
            go_wp2_with fail
            go_roundw
            case rel => exact ⟨k + 1, by omega, by go_num, R2, B2⟩
            case measure => simp [intOf]; omega
    · have hkn : k = n := by omega
      subst hkn
      go_wp2_with fail
      exact bodyPost_ret (v := .tuple #[.slice sa k sc, .bool true]) (by simp [results, Try.results9, go_sem]) rfl ⟨_, rfl, R.out, BB.out⟩
end Go.Proofs.Ytnnmklkpgdpkgaa.Mx
