/- Homogen: the model, the law. -/
import Derived.Test.YtcdajejapcbllaaHg
namespace Go.Proofs.Ytcdajejapcbllaa.Hg
open Go.ChangeShapes Go.WideShapes Go.ChangeAt Go.RowKit
open Go.Proofs.Ytcdajejapcbllaa.Lists Go.Proofs.Ytcdajejapcbllaa.Al Go.Proofs.Ytcdajejapcbllaa.Su Go.Proofs.Ytcdajejapcbllaa.Se Go.Proofs.Ytcdajejapcbllaa.Bk

theorem row_some {w : World} {base n : Nat} {e : TypeId} {v : Value} {xs : List Value} (h : w.ownsRow base e 1 v n xs) (hn : v ≠ .slice none 0 0) : ∃ g cap, v = .slice (some ⟨g, 0, none⟩) n cap ∧ base ≤ g ∧ g < w.heap.size ∧ n ≤ cap ∧ cap ≤ maxLen := by
  rcases h.2 with ⟨h1, _⟩ | ⟨g, cap, cur, h1, hb, hh, hc, hm, _⟩
  · exact absurd h1 hn
  · refine ⟨g, cap, h1, hb, ?_, hc, hm⟩
    by_cases x : g < w.heap.size
    · exact x
    · rw [Array.getElem?_eq_none (by omega)] at hh; cases hh
theorem row_base {w : World} {base base' n : Nat} {v : Value} {xs : List Value} (h : w.ownsRow base 2 1 v n xs) (hb : base' ≤ base) : w.ownsRow base' 2 1 v n xs := by
  refine ⟨h.1, ?_⟩
  rcases h.2 with x | ⟨g, cap, cur, h1, h2, h3⟩
  · exact .inl x
  · exact .inr ⟨g, cap, cur, h1, Nat.le_trans hb h2, h3⟩
theorem one_cell (X : List Int) : ∀ u ∈ ints X, u.oneCell' = true := by intro u hu; simp [ints] at hu; obtain ⟨z, _, rfl⟩ := hu; rfl
theorem ints_at' {w : World} {g o n : Nat} {X : List Int} (hn : X.length = n) (K : ∀ i, i < n → w.cell? ⟨g, o + i, none⟩ = some (.int .i64 (X.getD i 0))) : ∀ j u, (ints X)[j]? = some u → w.cell? ((⟨g, o, none⟩ : Addr).add j) = some u := by
  intro j u hj
  have hl : j < X.length := by
    have := (List.getElem?_eq_some_iff.1 hj).1
    simpa [ints] using this
  have e : (⟨g, o, none⟩ : Addr).add j = ⟨g, o + j, none⟩ := by
    unfold Addr.add
    split
    · rename_i h; subst h; rfl
    · rfl
  rw [e, K j (by omega)]
  simp [ints, List.getElem?_map, List.getElem?_eq_getElem hl] at hj
  rw [← hj]
  simp [List.getD_eq_getElem?_getD, hl]

set_option maxHeartbeats 1000000 in
theorem shom_no (L : List Int) (v : Value) (w : World) (hL : Lists.Reads w v L) (hf : L.length < 9223372036854775808) (hok : okS L = false) :
    Calls Try.prog 6 #[v] w fun e w' => ∃ u0, e = .returned (.tuple #[u0, .int .i64 0]) ∧ w'.ownsRow w.heap.size 2 1 u0 0 [] ∧ Below w.heap.size w w' := by
  have C : Hid (Calls Try.prog 15 #[v] w fun e w' => e = .returned (.bool (okS L)) ∧ ∃ m, w' = w.drewN m) := sok_any L v w hL hf
  rw [hok] at C
  have ER : Hid (∀ m, ((w.drewN m).alloc (.cells #[] 2)).ownsRow w.heap.size 2 1 (.slice (some ⟨w.heap.size, 0, none⟩) 0 0) 0 []) := fun m => empty_row (W := w.drewN m) 2
  have EB : Hid (∀ m, Below w.heap.size w ((w.drewN m).alloc (.cells #[] 2))) := fun m => (below_drewN (Below.refl _ _) m).alloc (Nat.le_refl _) _
  obtain ⟨a, cap, rfl⟩ := hL.form
  clear hL hok
  generalize L.length = n at *
  go_enter Try.func6, Try.ntmps6
  go_wp2_with fail
  refine C.out.mono ?_
  rintro e w1 ⟨rfl, m0, rfl⟩
  go_wp2_with fail
  go_ret2
  exact ⟨_, rfl, ER.out m0, EB.out m0⟩

set_option maxHeartbeats 2000000 in
theorem shom_yes (L : List Int) (v : Value) (w : World) (hL : Lists.Reads w v L) (hf : L.length < 9223372036854775808) (hok : okS L = true) :
    Calls Try.prog 6 #[v] w fun e w' => ∃ u0, e = .returned (.tuple #[u0, .int .i64 (R1 L)]) ∧ w'.ownsRow w.heap.size 2 1 u0 (X0 L).length (ints (X0 L)) ∧ Below w.heap.size w w' := by
  have C : Hid (Calls Try.prog 15 #[v] w fun e w' => e = .returned (.bool (okS L)) ∧ ∃ m, w' = w.drewN m) := sok_any L v w hL hf
  obtain ⟨i0, hi, hz0, hz1, hz2⟩ := info_parts Lists.Try.info2
  obtain ⟨l1, l2, hz⟩ := okS_parts hok
  obtain ⟨ka, kl, k0⟩ := kk_at hok
  have sb := stp_bd hok
  rw [hok] at C
  have pb := parts_bd hok (kk L) kl
  have C2 : Hid (∀ w', Below w.heap.size w w' → Calls Try.prog 16 #[v] w' fun e w'' => e = .returned (.tuple #[.int .i64 (kk L : Int), .int .i64 (far L)]) ∧ ∃ m, w'' = w'.drewN m) := fun w' hb => by
    have := s_any L v w' (hL.on hb) hf
    rw [ka] at this
    exact this
  rcases hL with ⟨rfl, _⟩ | ⟨b, o, cap, rfl, h2, h3, h4, h5⟩
  · simp at l1
  have hR : Lists.Reads w (.slice (some ⟨b, o, none⟩) L.length cap) L := Or.inr ⟨b, o, cap, rfl, h2, h3, h4, h5⟩
  have D1 : Hid (∀ w', Below w.heap.size w w' → Calls Try.prog 17 #[.slice (some ⟨b, o + kk L, none⟩) (L.length - kk L) (cap - kk L)] w' fun e w'' => e = .returned (.int .i64 (tot L L.length - tot L (kk L))) ∧ w'' = w') := fun w' hb => by
    have := ssum_any (L.drop (kk L)) _ w' (reads_drop (hR.on hb) rfl (kk L) (by omega)) (by simp; omega) (by simp; omega) (bd_drop hz (kk L))
    rw [tot_drop L (kk L) (by omega)] at this
    exact this
  have D2 : Hid (∀ w', Below w.heap.size w w' → Calls Try.prog 17 #[.slice (some ⟨b, o, none⟩) (kk L) cap] w' fun e w'' => e = .returned (.int .i64 (tot L (kk L))) ∧ w'' = w') := fun w' hb => by
    have := ssum_any (L.take (kk L)) _ w' (reads_take (hR.on hb) rfl (kk L) (by omega)) (by simp; omega) (by simp; omega) (bd_take hz (kk L))
    rw [tot_take L (kk L) (by omega)] at this
    exact this
  have HK : Hid (∀ m j u, (ints L)[j]? = some u → ((w.drewN m).alloc (.cells #[] 2)).cell? ((⟨b, o, none⟩ : Addr).add j) = some u) := fun m => ints_at' rfl fun i hi => by rw [World.cell?_alloc_lt _ _ _ h4]; exact h5 i hi
  have ER : Hid (∀ m, ((w.drewN m).alloc (.cells #[] 2)).ownsRow w.heap.size 2 1 (.slice (some ⟨w.heap.size, 0, none⟩) 0 0) 0 []) := fun m => empty_row (W := w.drewN m) 2
  have EB : Hid (∀ m, Below w.heap.size w ((w.drewN m).alloc (.cells #[] 2))) := fun m => (below_drewN (Below.refl _ _) m).alloc (Nat.le_refl _) _
  have HS : Hid (∀ j, j < L.length → (bmp L (stp L) j).set j (L.getD j 0 + stp L) = bmp L (stp L) (j + 1)) := fun j _ => bmp_set L (stp L) j
  have HG : Hid (∀ j, j < L.length → (bmp L (stp L) j).getD j 0 = L.getD j 0) := fun j hj => bmp_get L (stp L) j hj
  have HZ : Hid (∀ j, j < L.length → -100000 ≤ L.getD j 0 ∧ L.getD j 0 ≤ 100000) := hz
  have HL : Hid (∀ j, (bmp L (stp L) j).length = L.length) := bmp_len L (stp L)
  have H0 : Hid (bmp L (stp L) 0 = L) := bmp_zero L (stp L)
  have C5 : Hid (∀ (w' : World) (v' : Value), w'.ownsRow w.heap.size 2 1 v' L.length (ints (bmp L (stp L) (kk L))) → Calls Try.prog 15 #[v'] w' fun e w'' => e = .returned (.bool (okS (bmp L (stp L) (kk L)))) ∧ ∃ m, w'' = w'.drewN m) := fun w' v' h => by
    have hl := bmp_len L (stp L) (kk L)
    have h' : w'.ownsRow w.heap.size 2 1 v' (bmp L (stp L) (kk L)).length (ints (bmp L (stp L) (kk L))) := by rw [hl]; exact h
    exact sok_any _ _ w' (reads_row h') (by rw [hl]; omega)
  have F1 : Hid (okS (bmp L (stp L) (kk L)) = true → R1 L = stp L ∧ X0 L = bmp L (stp L) (kk L)) := fun h => by unfold R1 X0 good; rw [hok, h]; exact ⟨rfl, rfl⟩
  have F2 : Hid (okS (bmp L (stp L) (kk L)) = false → R1 L = 0 ∧ X0 L = []) := fun h => by unfold R1 X0 good; rw [hok, h]; exact ⟨rfl, rfl⟩
  have F3 : Hid (kk L = 0 → R1 L = 0 ∧ X0 L = L) := fun h => by
    have e : stp L = 0 := by unfold stp; rw [if_pos h]
    have := F1.out (by rw [h, bmp_zero]; exact hok)
    rw [e, h, bmp_zero] at this
    exact this
  have E0 : Hid (¬ kk L = 0 → stp L = (num L (kk L)).tdiv (den L (kk L))) := fun h => by show _ = _; unfold stp; rw [if_neg h]
  have E1 : Hid (num L (kk L) = (tot L L.length - tot L (kk L)) * (kk L : Int) - tot L (kk L) * ((L.length : Int) - (kk L : Int))) := rfl
  have E2 : Hid (den L (kk L) = (kk L : Int) * ((L.length : Int) - (kk L : Int))) := rfl
  have E3 : Hid (1 ≤ kk L → 1 ≤ den L (kk L)) := fun h => den_pos (kk L) h kl
  have HLn : Hid ((ints L).length = L.length) := (by show _ = _; simp)
  unfold maxLen at h3
  clear hR h4 h5 hz hok ka k0
  obtain ⟨n, hn⟩ : ∃ n, n = L.length := ⟨_, rfl⟩
  rw [← hn] at hf l1 l2 kl C C2 C5 HS HG HZ HL D1 E1 E2 h2 HLn pb ⊢
  obtain ⟨k, hkk⟩ : ∃ k, k = kk L := ⟨_, rfl⟩
  rw [← hkk] at kl C2 C5 F1 F2 F3 D1 D2 E0 E1 E2 E3 pb
  obtain ⟨st, hst⟩ : ∃ st, st = stp L := ⟨_, rfl⟩
  rw [← hst] at sb C5 HS HG HL F1 F2 E0 H0
  have HN : Hid (n = L.length) := hn
  clear hkk hst hn
  go_enter Try.func6, Try.ntmps6
  go_wp2_with fail
  refine C.out.mono ?_
  rintro e w1 ⟨rfl, m, rfl⟩
  go_wp2_with (at_builtin; refine wpList_append_own_at _ rfl _ _ 24 rfl w.heap.size 2 i0 (.int .i64 0) 1 8 Try.underlying24 hi hz0 hz1 hz2 rfl (by decide) (.slice (some ⟨w.heap.size, 0, none⟩) 0 0) 0 [] rfl (ER.out m) ⟨b, o, none⟩ n cap (ints L) rfl (by rw [HLn.out]; omega) (HK.out m) (one_cell L) (by unfold maxLen; omega) (by omega) (by simp) ?_; intro v' w2 hown hgrow hnil hat)
  have hown2 : w2.ownsRow w.heap.size 2 1 v' n (ints L) := by simpa using hown
  obtain ⟨g, c, rfl, q1, q2, q3, q4⟩ := row_some hown2 (fun e => by have := hnil.1 e; simp at this)
  have R2 : Hid (w2.ownsRow w.heap.size 2 1 (.slice (some ⟨g, 0, none⟩) n c) n (ints L)) := hown2
  have BB : Hid (Below w.heap.size w w2) := (EB.out m).grown hgrow (by simp) (fun k hk => by simp [Value.ownBlock] at hk; omega)
  clear hown hown2 hgrow hnil hat HK ER EB C hi hz0 hz1 hz2
  refine (C2.out w2 BB.out).mono ?_
  rintro e w3 ⟨rfl, m3, rfl⟩
  have B3 : Hid (Below w.heap.size w (w2.drewN m3)) := below_drewN BB.out m3
  have R3 : Hid ((w2.drewN m3).ownsRow w.heap.size 2 1 (.slice (some ⟨g, 0, none⟩) n c) n (ints L)) := R2.out
  obtain ⟨w3, hw3⟩ : ∃ w3, w3 = w2.drewN m3 := ⟨_, rfl⟩
  rw [← hw3] at B3 R3 ⊢
  clear hw3 BB R2 C2 q2
  by_cases hk0 : k = 0
  · subst hk0
    obtain ⟨f1, f2⟩ := F3.out rfl
    have FF : Hid (R1 L = 0 ∧ X0 L = L) := ⟨f1, f2⟩
    clear f1 f2
    go_wp2_with fail
    go_ret2
    exact ⟨.slice (some ⟨g, 0, none⟩) n c, by rw [FF.out.1]; rfl, by rw [FF.out.2, ← HN.out]; exact R3.out, B3.out⟩
  · have e0 := E0.out hk0
    have e3 := E3.out (by omega)
    obtain ⟨p1, p2, p3, p4, p5⟩ := pb
    have C6 : Hid (∀ m, Calls Try.prog 17 #[.slice (some ⟨b, o + k, none⟩) (n - k) (cap - k)] (w3.drewN m) fun e w'' => e = .returned (.int .i64 (tot L n - tot L k)) ∧ w'' = w3.drewN m) := fun m => D1.out _ (below_drewN B3.out m)
    have C7 : Hid (∀ m, Calls Try.prog 17 #[.slice (some ⟨b, o, none⟩) k cap] (w3.drewN m) fun e w'' => e = .returned (.int .i64 (tot L k)) ∧ w'' = w3.drewN m) := fun m => D2.out _ (below_drewN B3.out m)
    have J0 : IntKind.i64.wrap ((n : Int) - (k : Int)) = (n : Int) - (k : Int) := IntWalk.i64_in _ (by omega)
    have J1 : IntKind.i64.wrap ((tot L n - tot L k) * (k : Int)) = (tot L n - tot L k) * (k : Int) := IntWalk.i64_in _ (by omega)
    have J2 : IntKind.i64.wrap (tot L k * ((n : Int) - (k : Int))) = tot L k * ((n : Int) - (k : Int)) := IntWalk.i64_in _ (by omega)
    have J3 : IntKind.i64.wrap ((tot L n - tot L k) * (k : Int) - tot L k * ((n : Int) - (k : Int))) = num L k := by rw [← E1.out]; exact IntWalk.i64_in _ (by rw [E1.out]; omega)
    have J4 : IntKind.i64.wrap ((k : Int) * ((n : Int) - (k : Int))) = den L k := by rw [← E2.out]; exact IntWalk.i64_in _ (by omega)
    have J5 : IntKind.i64.wrap ((num L k).tdiv (den L k)) = st := by rw [← e0]; exact IntWalk.i64_in _ (by omega)
    have g1 : (den L k == 0) = false := by simp; omega
    have g0 : ¬ den L k = 0 := by omega
    have g2 : ((k : Int) == 0) = false := by simp; omega
    have g3 : (0 : Int) ≤ (k : Int) := by omega
    have g4 : (k : Int) ≤ (n : Int) := by omega
    have g5 : (n : Int) ≤ (cap : Int) := by omega
    have g6 : (k : Int) ≤ (cap : Int) := by omega
    have g7 : ¬ cap = k := by omega
    have g8 : ¬ k = cap := by omega
    clear p1 p2 p3 p4 p5 e0 e3 D1 D2 E0 E1 E2 E3
    generalize num L k = nu at *
    generalize den L k = de at *
    generalize tot L n - tot L k = t2 at *
    generalize tot L k = t1 at *
    go_wp2_with fail
    go_quiet ((first | (go_at_call_of 17 (Value.slice (some ⟨b, o + k, none⟩) (n - k) (cap - k)); exact Calls.quiet_of_same (C6.out _)) | (go_at_call 17; exact Calls.quiet_of_same (C7.out _))))
    have B4 : Hid (Below w.heap.size w (w3.drewN nq)) := below_drewN B3.out _
    have R4 : Hid ((w3.drewN nq).ownsRow w.heap.size 2 1 (.slice (some ⟨g, 0, none⟩) n c) n (ints (bmp L st 0))) := (by rw [H0.out]; exact R3.out)
    generalize w3.drewN nq = w4 at *
    clear B3 R3 C6 C7 J0 J1 J2 J3 J4 J5 g0 g1 g7 g8 H0
    go_wp2_with fail
    go_loopw [9] (fun ct wr => ∃ j : Nat, j ≤ k ∧ ct = .int .i64 j ∧ Hid (wr.ownsRow w.heap.size 2 1 (.slice (some ⟨g, 0, none⟩) n c) n (ints (bmp L st j))) ∧ Hid (Below w.heap.size w wr)) (fun ct _ => k - (intOf ct).toNat)
    case atStart => exact ⟨0, Nat.zero_le _, rfl, R4, B4⟩
    case round =>
      obtain ⟨j, hj, rfl, R, BB⟩ := hrel
      by_cases hlt : j < k
      · have i0 : (0 : Int) ≤ (j : Int) := by omega
        have i1 : (j : Int) < (k : Int) := by omega
        have i2 : (j : Int) < (n : Int) := by omega
        have c1 : wr.cell? ⟨g, j, none⟩ = some (.int .i64 (L.getD j 0)) := by
          have := row_get R.out (HL.out j) j (by omega)
          rw [HG.out j (by omega)] at this
          exact this
        have c2 : wr.frozen? ⟨g, j, none⟩ = false := R.out.frozenAt j
        have z1 := HZ.out j (by omega)
        have RE : Hid ((wr.setCell ⟨g, j, none⟩ (.int .i64 (L.getD j 0 + st))).ownsRow w.heap.size 2 1 (.slice (some ⟨g, 0, none⟩) n c) n (ints (bmp L st (j + 1)))) := (by
          have := row_put R.out j (L.getD j 0 + st)
          rw [HS.out j (by omega)] at this
          exact this)
        have BE : Hid (Below w.heap.size w (wr.setCell ⟨g, j, none⟩ (.int .i64 (L.getD j 0 + st)))) := BB.out.setCell (p := ⟨g, j, none⟩) q1 _
        have J1 : IntKind.i64.wrap (L.getD j 0 + st) = L.getD j 0 + st := IntWalk.i64_in _ (by omega)
        clear z1
        generalize L.getD j 0 = z at *
        go_wp2_with fail
        go_roundw
        case rel => exact ⟨j + 1, by omega, by go_num, RE, BE⟩
        case measure => simp [intOf]; omega
      · have hjk : j = k := by omega
        subst hjk
        have C8 : Hid (Calls Try.prog 15 #[.slice (some ⟨g, 0, none⟩) n c] wr fun e w'' => e = .returned (.bool (okS (bmp L st j))) ∧ ∃ m, w'' = wr.drewN m) := C5.out wr _ R.out
        clear C5
        cases hg : okS (bmp L st j)
        · obtain ⟨f1, f2⟩ := F2.out hg
          have FF : Hid (R1 L = 0 ∧ X0 L = []) := ⟨f1, f2⟩
          have ER : Hid (∀ m, ((wr.drewN m).alloc (.cells #[] 2)).ownsRow wr.heap.size 2 1 (.slice (some ⟨wr.heap.size, 0, none⟩) 0 0) 0 []) := fun m => empty_row (W := wr.drewN m) 2
          have EB : Hid (∀ m, Below w.heap.size w ((wr.drewN m).alloc (.cells #[] 2))) := fun m => (below_drewN BB.out m).alloc BB.out.size _
          have sz : Hid (w.heap.size ≤ wr.heap.size) := BB.out.size
          rw [hg] at C8
          clear f1 f2 hg F1 F2
          go_wp2_with fail
          refine C8.out.mono ?_
          rintro e w5 ⟨rfl, m5, hw⟩
          subst hw
          go_wp2_with fail
          go_ret2
          exact ⟨.slice (some ⟨wr.heap.size, 0, none⟩) 0 0, by rw [FF.out.1]; rfl, by rw [FF.out.2]; exact row_base (ER.out m5) sz.out, EB.out m5⟩
        · obtain ⟨f1, f2⟩ := F1.out hg
          have FF : Hid (R1 L = st ∧ X0 L = bmp L st j) := ⟨f1, f2⟩
          rw [hg] at C8
          clear f1 f2 hg F1 F2
          go_wp2_with fail
          refine C8.out.mono ?_
          rintro e w5 ⟨rfl, m5, hw⟩
          subst hw
          go_wp2_with fail
          go_ret2
          exact ⟨.slice (some ⟨g, 0, none⟩) n c, by rw [FF.out.1]; rfl, by rw [FF.out.2, HL.out]; exact R.out, below_drewN BB.out m5⟩

end Go.Proofs.Ytcdajejapcbllaa.Hg
