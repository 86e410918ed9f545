/- Parts: the model. -/
import Derived.Test.YtmbhlmpdkkjedaaPr
namespace Go.Proofs.Ytmbhlmpdkkjedaa.To
open Go.ChangeShapes Go.WideShapes Go.ChangeAt Go.RowKit
open Go.Proofs.Ytmbhlmpdkkjedaa.Al

def ld (f t : Int) (L : Ch.Ls) (m : Nat) : Int := (Dn f t L m).getLast?.getD 0
theorem Dn_step {f t : Int} {L : Ch.Ls} {m : Nat} (h : isE t L (f + 1 + (m : Int)) = true) : prs (Dn f t L (m + 1)) = prs (Dn f t L m) ++ [(ld f t L m, f + 1 + (m : Int))] ∧ ld f t L (m + 1) = f + 1 + (m : Int) := by
  have e := Dn_next f t L m
  rw [if_pos h] at e
  unfold ld
  rw [e]
  constructor
  · obtain ⟨a, l, hl⟩ : ∃ a l, Dn f t L m = a :: l := ⟨_, _, rfl⟩
    rw [hl, prs_snoc]
    rfl
  · simp
theorem Dn_stay {f t : Int} {L : Ch.Ls} {m : Nat} (h : isE t L (f + 1 + (m : Int)) = false) : prs (Dn f t L (m + 1)) = prs (Dn f t L m) ∧ ld f t L (m + 1) = ld f t L m := by
  have e := Dn_next f t L m
  rw [h] at e
  unfold ld
  rw [e]
  exact ⟨rfl, rfl⟩
def isP (t : Int) (L : Ch.Ls) (a : Int) (i : Nat) : Bool := (a == t) || (List.range i).any (fun j => (Ch.c1 L j == a) || (Ch.c2 L j == a))
theorem isP_next (t : Int) (L : Ch.Ls) (a : Int) (i : Nat) : isP t L a (i + 1) = (isP t L a i || ((Ch.c1 L i == a) || (Ch.c2 L i == a))) := by
  unfold isP
  rw [List.range_succ, List.any_append]
  simp [Bool.or_assoc]
theorem prs_bound (f t : Int) (L : Ch.Ls) (m : Nat) : (prs (Dn f t L m)).length ≤ m := by
  rw [prs_len]
  unfold Dn
  have := List.length_filter_le (isE t L) ((List.range m).map (fun (i : Nat) => f + 1 + (i : Int)))
  simp at this
  simp
  omega
theorem one_two (x y : Int) : ∀ u ∈ [Value.int .i64 x, Value.int .i64 y], u.oneCell' = true := by intro u hu; simp at hu; rcases hu with rfl | rfl <;> rfl
theorem tok_valid {C : ByteArray} {I f t d p v : Int} {W O : ByteArray} {b : Int} {L : Ch.Ls} (h : tok C I f t d p v W O b L = true) : 0 ≤ f ∧ f + 60 ≤ t ∧ t ≤ 52596000 ∧ t ≤ f + 2160 := by
  unfold tok vok span at h
  simp only [Bool.and_eq_true] at h
  obtain ⟨_, _, ⟨⟨h1, h3, _⟩, _, _, h2, _⟩, _⟩ := h
  have a1 := (inn_iff _ _ _).1 h1
  have a2 := (inn_iff _ _ _).1 h2
  have a3 := (inn_iff _ _ _).1 h3
  omega
set_option maxRecDepth 20000 in
set_option maxHeartbeats 4000000 in
theorem sparts_any (C : ByteArray) (I f t d p v : Int) (W O : ByteArray) (b : Int) (u : Value) (L : Ch.Ls) (w : World) (hL : Ch.Reads w u L) :
    Calls Try.prog 19 #[Tf.tv C I f t d p v W O b u] w fun e w' => ∃ v', e = .returned v' ∧ Pn.Row w' w.heap.size v' (pts C I f t d p v W O b L) ∧ Below w.heap.size w w' := by
  obtain ⟨iv, vi, vz0, vz1, vz2⟩ := info_parts Try.infoV
  have C1 : Hid (∀ w', Below w.heap.size w w' → Calls Try.prog 8 #[Tf.tv C I f t d p v W O b u] w' fun e w'' => e = .returned (.bool (tok C I f t d p v W O b L)) ∧ Below w'.heap.size w' w'') := fun w' hb => staf_any C I f t d p v W O b u L w' (hL.on hb)
  have HZ : Hid (tok C I f t d p v W O b L = false → pts C I f t d p v W O b L = []) := fun h => by unfold pts; rw [h]; rfl
  have HP : Hid (tok C I f t d p v W O b L = true → pts C I f t d p v W O b L = prs (Dn f t L (t - f).toNat) ∧ 0 ≤ f ∧ f + 60 ≤ t ∧ t ≤ 52596000 ∧ t ≤ f + 2160) := fun h => by
    unfold pts
    rw [h]
    exact ⟨rfl, tok_valid h⟩
  generalize pts C I f t d p v W O b L = M at *
  generalize tok C I f t d p v W O b L = b1 at *
  have hfit := hL.fits
  have hcell : ∃ bb o, (∀ w', Below w.heap.size w w' → ∀ i, i < L.length → Ch.Cs w' bb o L i) ∧ (0 < L.length → bb < w.heap.size ∧ ∃ cap, u = .slice (some ⟨bb, o, none⟩) L.length cap) := by
    rcases hL with ⟨rfl, _⟩ | ⟨bb, o, cap, h1, h2, h3, h4, h5⟩
    · exact ⟨0, 0, fun _ _ i hi => by simp at hi, fun hi => by simp at hi⟩
    · exact ⟨bb, o, fun w' hb i hi => (h5 i hi).below hb h4, fun _ => ⟨h4, cap, h1⟩⟩
  obtain ⟨bb, o, hc, hvv⟩ := hcell
  obtain ⟨sa, sc, hu⟩ := hL.form
  subst hu
  have HC : Hid (∀ w', Below w.heap.size w w' → ∀ i, i < L.length → Ch.Cs w' bb o L i) := hc
  have HB : Hid (0 < L.length → bb < w.heap.size ∧ sa = some ⟨bb, o, none⟩) := fun hi => by
    obtain ⟨h1, c, h2⟩ := hvv hi
    simp at h2
    exact ⟨h1, h2.1⟩
  obtain ⟨n, hn⟩ : ∃ n, n = L.length := ⟨_, rfl⟩
  rw [← hn] at hfit HC HB C1 ⊢
  have HN : Hid (n = L.length) := hn
  clear hL hc hvv hn
  obtain ⟨wb, hwb⟩ : ∃ wb, wb = (w.alloc (.cells #[.string C, .int .i64 I, .int .i64 f, .int .i64 t, .int .i64 d, .int .i64 p, .int .i64 v, .string W, .string O, .int .i64 b, (.slice sa n sc)] 35)).alloc (.cells #[] 31) := ⟨_, rfl⟩
  have HW : Hid (wb = (w.alloc (.cells #[.string C, .int .i64 I, .int .i64 f, .int .i64 t, .int .i64 d, .int .i64 p, .int .i64 v, .string W, .string O, .int .i64 b, (.slice sa n sc)] 35)).alloc (.cells #[] 31)) := hwb
  have BW : Hid (Below w.heap.size w wb) := (by show Below _ _ _; rw [hwb]; exact ((Below.refl _ _).alloc (Nat.le_refl _) _).alloc (by simp) _)
  have KT : Hid (Tf.TB wb w.heap.size C I f t d p v W O b (.slice sa n sc)) := (by show Tf.TB _ _ _ _ _ _ _ _ _ _ _ _ _; rw [hwb]; exact (Tf.TB.new w C I f t d p v W O b (.slice sa n sc)).on ((Below.refl _ _).alloc (Nat.le_refl _) _) (by simp))
  have KR : Hid (Pn.Row wb (w.heap.size + 1) (.slice (some ⟨w.heap.size + 1, 0, none⟩) 0 0) []) := (by
    show Pn.Row _ _ _ _
    rw [hwb]
    have := World.ownsRow_lit (base := w.heap.size + 1) (e := 31) (size := 2) (w.alloc (.cells #[.string C, .int .i64 I, .int .i64 f, .int .i64 t, .int .i64 d, .int .i64 p, .int .i64 v, .string W, .string O, .int .i64 b, (.slice sa n sc)] 35)) #[] 0 (by simp) (Nat.zero_le _) rfl
    exact ⟨[], by simpa using this, fun i hi => absurd hi (by simp)⟩)
  clear hwb
  obtain ⟨c0, c1, c2, c3, c4, c5, c6, c7, c8, c9, c10, _⟩ := KT.out.cells
  go_enter Try.func19, Try.ntmps19
  go_wp2_with fail
  rw [← HW.out]
  refine (C1.out _ BW.out).mono ?_
  rintro e w1 ⟨rfl, hb⟩
  have T1 : Hid (Tf.TB w1 w.heap.size C I f t d p v W O b (.slice sa n sc)) := KT.out.on hb KT.out.lt
  have R1 : Hid (Pn.Row w1 (w.heap.size + 1) (.slice (some ⟨w.heap.size + 1, 0, none⟩) 0 0) []) := KR.out.on hb
  have B1 : Hid (Below w.heap.size w w1) := BW.out.trans (hb.mono BW.out.size)
  clear c0 c1 c2 c3 c4 c5 c6 c7 c8 c9 c10 hb HW
  obtain ⟨c0, c1, c2, c3, c4, c5, c6, c7, c8, c9, c10, _⟩ := T1.out.cells
  cases b1
  · go_wp2_with fail
    go_ret
    exact ⟨_, rfl, by rw [HZ.out (by first | trivial | rfl)]; exact Pn.down R1.out (by omega), B1.out⟩
  obtain ⟨hM, v0, v1, v2, v3⟩ := HP.out (by first | trivial | rfl)
  subst hM
  have HN2 : Hid (∃ N : Nat, (N : Int) = t - f ∧ (t - f).toNat = N) := ⟨(t - f).toNat, by omega, rfl⟩
  obtain ⟨N, hN, hN'⟩ := HN2.out
  have HN' : Hid ((t - f).toNat = N) := hN'
  clear HZ HP HN2 hN'
  have j1 : IntKind.i64.wrap (f + 1) = f + 1 := IntWalk.i64_in _ (by omega)
  go_wp2_with fail
  clear c0 c1 c2 c3 c4 c5 c6 c7 c8 c9 c10
  go_loopw [3, 4, 5] (fun q r i wr => ∃ (m : Nat) (sv : Value), m ≤ N ∧ i = .int .i64 (f + 1 + (m : Int)) ∧ r = .int .i64 (ld f t L m) ∧ sv = q ∧ Hid (Tf.TB wr w.heap.size C I f t d p v W O b (.slice sa n sc)) ∧ Hid (Pn.Row wr (w.heap.size + 1) sv (prs (Dn f t L m))) ∧ Hid (Below w.heap.size w wr)) (fun _ _ i _ => (t + 1 - intOf i).toNat)
  case atStart => exact ⟨0, _, Nat.zero_le _, by simp, rfl, rfl, T1, R1, B1⟩
  case round =>
    obtain ⟨m, sv, hm, rfl, rfl, hq, T0, RR, BB⟩ := hrel
    subst hq
    obtain ⟨c0, c1, c2, c3, c4, c5, c6, c7, c8, c9, c10, _⟩ := T0.out.cells
    by_cases hlt : m < N
    · have hle : f + 1 + (m : Int) ≤ t := by omega
      have HSY : Hid (isE t L (f + 1 + (m : Int)) = true → prs (Dn f t L (m + 1)) = prs (Dn f t L m) ++ [(ld f t L m, f + 1 + (m : Int))] ∧ ld f t L (m + 1) = f + 1 + (m : Int)) := fun h => Dn_step h
      have HSN : Hid (isE t L (f + 1 + (m : Int)) = false → prs (Dn f t L (m + 1)) = prs (Dn f t L m) ∧ ld f t L (m + 1) = ld f t L m) := fun h => Dn_stay h
      have HIS : Hid (isE t L (f + 1 + (m : Int)) = isP t L (f + 1 + (m : Int)) n) := (by show _ = _; rw [HN.out]; rfl)
      have HI0 : Hid (isP t L (f + 1 + (m : Int)) 0 = (f + 1 + (m : Int) == t)) := (by show _ = _; unfold isP; simp)
      have HI1 : Hid (∀ i, isP t L (f + 1 + (m : Int)) (i + 1) = (isP t L (f + 1 + (m : Int)) i || ((Ch.c1 L i == f + 1 + (m : Int)) || (Ch.c2 L i == f + 1 + (m : Int))))) := fun i => isP_next t L _ i
      have j2 : IntKind.i64.wrap (f + 1 + (m : Int) + 1) = f + 1 + (m : Int) + 1 := IntWalk.i64_in _ (by omega)
      have hpl := prs_bound f t L m
      generalize prs (Dn f t L m) = P at *
      generalize ld f t L m = la at *
      obtain ⟨a, ha⟩ : ∃ a : Int, f + 1 + (m : Int) = a := ⟨_, rfl⟩
      have HAA : Hid (f + 1 + (m : Int) = a) := ha
      rw [ha] at hle HSY HSN HIS HI0 HI1 j2 ⊢
      clear ha
      obtain ⟨q0, hq0⟩ : ∃ q0, q0 = (a == t) := ⟨_, rfl⟩
      have HQ0 : Hid (isP t L a 0 = q0) := (by rw [hq0]; exact HI0.out)
      have hq1 : (a == t) = q0 := hq0.symm
      clear hq0 HI0
      go_wp2_with fail
      clear hq1
      go_loop [6, 7] (fun c i => ∃ k : Nat, k ≤ n ∧ i = .int .i64 k ∧ c = .bool (isP t L a k)) (fun _ i => n - (intOf i).toNat)
      case atStart => exact ⟨0, Nat.zero_le _, rfl, by rw [HQ0.out]⟩
      case round =>
        obtain ⟨k, hk, rfl, rfl⟩ := hrel
        have HP1 : Hid (isP t L a (k + 1) = (isP t L a k || ((Ch.c1 L k == a) || (Ch.c2 L k == a)))) := HI1.out k
        by_cases hlk : k < n
        · obtain ⟨hb0, hx⟩ := HB.out (by omega)
          subst hx
          obtain ⟨q0', q1, q2, q3, q4, q5, q6, q7, q8⟩ := HC.out wr BB.out k hlk
          have i1 : (0 : Int) ≤ (k : Int) := by omega
          have i2 : (k : Int) < (n : Int) := by omega
          clear q0' q3 q4 q5 q6 q7 q8
          generalize Ch.c1 L k = y1 at *
          generalize Ch.c2 L k = y2 at *
          generalize isP t L a k = p0 at *
          cases p0
          rotate_left 1
          · go_wp2_with fail
            go_round
            case rel => exact ⟨k + 1, by omega, by go_num, by rw [HP1.out]; rfl⟩
            case measure => simp [intOf]; omega
          cases h1 : (y1 == a)
          rotate_left 1
          · rw [h1] at HP1
            go_wp2_with fail
            go_round
            case rel => exact ⟨k + 1, by omega, by go_num, by rw [HP1.out]; rfl⟩
            case measure => simp [intOf]; omega
          rw [h1] at HP1
          obtain ⟨q2', hq2⟩ : ∃ q2, (y2 == a) = q2 := ⟨_, rfl⟩
          rw [hq2] at HP1
          go_wp2_with fail
          go_round
          case rel => exact ⟨k + 1, by omega, by go_num, by rw [HP1.out]; rfl⟩
          case measure => simp [intOf]; omega
        · have ek : k = n := by omega
          subst ek
          cases hE : isE t L a
          · have hP : isP t L a k = false := by rw [← HIS.out]; exact hE
            obtain ⟨s1, s2⟩ := HSN.out hE
            have S1 : Hid (prs (Dn f t L (m + 1)) = P) := s1
            have S2 : Hid (ld f t L (m + 1) = la) := s2
            clear s1 s2 HSY HSN
            rw [hP]
            clear hE hP
            go_wp2_with fail
            go_roundw
            case rel => exact ⟨m + 1, _, by omega, by congr 1; have := HAA.out; omega, by rw [S2.out], rfl, T0, by rw [S1.out]; exact RR, BB⟩
            case measure => simp [intOf]; have := HAA.out; omega
          · have hP : isP t L a k = true := by rw [← HIS.out]; exact hE
            obtain ⟨s1, s2⟩ := HSY.out hE
            have S1 : Hid (prs (Dn f t L (m + 1)) = P ++ [(la, a)]) := s1
            have S2 : Hid (ld f t L (m + 1) = a) := s2
            clear s1 s2 HSY HSN
            rw [hP]
            clear hE hP
            obtain ⟨xs, O, G⟩ := RR.out
            have O' : Hid (wr.ownsRow (w.heap.size + 1) 31 2 sv P.length xs) := O
            have G' : Hid (Pn.Good xs P P.length) := G
            obtain ⟨l, hll⟩ : ∃ l, l = P.length := ⟨_, rfl⟩
            rw [← hll] at O' hpl
            have HLL : Hid (l = P.length) := hll
            have hsz : w.heap.size + 1 ≤ wr.heap.size := by have := T0.out.lt; omega
            clear hll O G
            go_wp2_with (at_builtin; refine wpList_append_own _ rfl _ _ 47 rfl (w.heap.size + 1) 31 iv (.agg #[.int .i64 0, .int .i64 0]) 2 16 Try.underlying47 vi vz0 vz1 vz2 rfl (by decide) _ _ _ rfl (O'.out.alloc _) ⟨wr.heap.size, 0, none⟩ 1 1 [.int .i64 la, .int .i64 a] rfl rfl (Pn.cell_news wr _ _ 31) (one_two _ _) (by unfold maxLen; omega) (by omega) (by simp; omega) ?_)
            intro v' w3 hown hgrow _
            have A3 : Hid (Below wr.heap.size wr (wr.alloc (.cells #[.int .i64 la, .int .i64 a] 31))) := (Below.refl _ _).alloc (Nat.le_refl _) _
            have T3 : Hid (Tf.TB w3 w.heap.size C I f t d p v W O b _) := TB.grown (T0.out.on A3.out T0.out.lt) hgrow (fun e => by have := (O'.out.lt _ e).1; omega)
            have R3 : Hid (Pn.Row w3 (w.heap.size + 1) v' (prs (Dn f t L (m + 1)))) := (by
              show Pn.Row _ _ _ _
              rw [S1.out]
              exact ⟨_, by simpa [HLL.out] using hown, Pn.good_snoc G'.out (by rw [← HLL.out]; exact O'.out.1)⟩)
            have B3 : Hid (Below w.heap.size w w3) := (BB.out.alloc BB.out.size _).grown hgrow (by simp; omega) (fun b hb => (by have := (O'.out.lt b hb).1; omega))
            clear hown hgrow O' G'
            go_wp2_with fail
            go_roundw
            case rel => exact ⟨m + 1, _, by omega, by congr 1; have := HAA.out; omega, by rw [S2.out], rfl, T3, R3, B3⟩
            case measure => simp [intOf]; have := HAA.out; omega
    · have em : m = N := by omega
      have hgt : ¬ f + 1 + (m : Int) ≤ t := by omega
      go_wp2_with fail
      go_ret
      exact ⟨_, rfl, by rw [HN'.out, ← em]; exact Pn.down RR.out (by omega), BB.out⟩
end Go.Proofs.Ytmbhlmpdkkjedaa.To
