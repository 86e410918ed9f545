/- FnLateOnce: the law. -/
import Derived.Test.YtfhpomfdkpfooaaRl
import Derived.BigQuiet
namespace Go.Proofs.Ytfhpomfdkpfooaa.Ty
open Go.ChangeShapes Go.WideShapes Go.ChangeAt Go.RowKit
open Go.Proofs.Ytfhpomfdkpfooaa.Lists Go.Proofs.Ytfhpomfdkpfooaa.Tm Go.Proofs.Ytfhpomfdkpfooaa.Rk Go.Proofs.Ytfhpomfdkpfooaa.Ru Go.Proofs.Ytfhpomfdkpfooaa.Al Go.Proofs.Ytfhpomfdkpfooaa.Rd Go.Proofs.Ytfhpomfdkpfooaa.Cp

theorem ct_next (x : Int) (L : List Int) (k : Nat) (hk : k < L.length) : ct x (L.take (k + 1)) = ct x (L.take k) + if L.getD k 0 = x then 1 else 0 := by
  unfold ct
  rw [List.take_add_one, List.count_append, List.getElem?_eq_getElem hk, List.getD_eq_getElem?_getD, List.getElem?_eq_getElem hk]
  simp [List.count_singleton]
theorem ct_all (x : Int) (L : List Int) : ct x (L.take L.length) = ct x L := by rw [List.take_length]
theorem ct_le (x : Int) (L : List Int) (k : Nat) : ct x (L.take k) ≤ k := by
  unfold ct
  exact Nat.le_trans List.count_le_length (by simp; omega)
theorem mod_in {n : Int} (l : Int) (h0 : 0 ≤ n) : 0 ≤ l % (n + 1) ∧ l % (n + 1) ≤ n := by
  have := Int.emod_nonneg l (show n + 1 ≠ 0 by omega)
  have := Int.emod_lt_of_pos l (show 0 < n + 1 by omega)
  omega
/-- what the clock of the program gives -/
def PT (R : Tk.Ls) (X : List Int) (J : Jb.Ls) (now' : Int) (L : List Int) (W : World) (e : Ending) (w' : World) : Prop := ∃ ra rc xa xc ja jc la lc, e = .returned (.tuple #[rv (.slice ra R.length rc) (.slice xa X.length xc) now' (.slice ja J.length jc), .slice la L.length lc]) ∧ RR w' (.slice ra R.length rc) (.slice xa X.length xc) (.slice ja J.length jc) R X J ∧ Lists.Reads w' (.slice la L.length lc) L ∧ Below W.heap.size W w'
theorem itk {R : Tk.Ls} {X : List Int} {now : Int} {J : Jb.Ls} (hk : okR R X now J = true) {tn : Int} (h : 0 ≤ tn) (W : World) (vr vx vj : Value) (hh : RR W vr vx vj R X J) : Calls Try.prog 13 #[rv vr vx now vj, .int .i64 tn] W (PT R X J (nw now tn) (lts R J now (nw now tn) R.length) W) := (itick_yes R X now J vr vx vj tn W hh hk h).mono (by
  rintro e w' ⟨a1, a2, a3, a4, a5, a6, a7, a8, rfl, ⟨xs, h1, h2, _⟩, hb⟩
  exact ⟨a1, a2, a3, a4, a5, a6, a7, a8, rfl, h1.reads, Lists.reads_row h2, hb⟩)
theorem stk {R : Tk.Ls} {X : List Int} {now : Int} {J : Jb.Ls} (hk : okR R X now J = true) {tn : Int} (h : 0 ≤ tn) (W : World) (vr vx vj : Value) (hh : RR W vr vx vj R X J) : Calls Try.prog 12 #[rv vr vx now vj, .int .i64 tn] W (PT R X J (nw now tn) (lts R J now (nw now tn) R.length) W) := (stick_yes R X now J vr vx vj tn W hh hk h).mono (by
  rintro e w' ⟨a1, a2, a3, a4, a5, a6, a7, a8, rfl, h1, h2, hb⟩
  exact ⟨a1, a2, a3, a4, a5, a6, a7, a8, rfl, h1.reads, h2, hb⟩)
theorem nil_reads (w : World) : Jb.Reads w nilS [] := Or.inl ⟨rfl, _, _, rfl⟩
/-- refused: both give nothing -/
theorem tick_refused {R : Tk.Ls} {X : List Int} {now : Int} {J : Jb.Ls} {tn : Int} (h : okR R X now J = false ∨ tn < 0) : (∀ (W : World) (vr vx vj : Value), RR W vr vx vj R X J → Calls Try.prog 12 #[rv vr vx now vj, .int .i64 tn] W fun e w' => e = .returned (.tuple #[rv nilS nilS 0 nilS, (.slice (some ⟨W.heap.size + 2, 0, none⟩) 0 0)]) ∧ Below W.heap.size W w') ∧ (∀ (W : World) (vr vx vj : Value), RR W vr vx vj R X J → Calls Try.prog 13 #[rv vr vx now vj, .int .i64 tn] W fun e w' => e = .returned (.tuple #[rv nilS nilS 0 nilS, nilS]) ∧ Below W.heap.size W w') := by
  cases hk : okR R X now J
  · exact ⟨fun W vr vx vj hh => stick_no R X now J vr vx vj tn W hh hk, fun W vr vx vj hh => itick_no R X now J vr vx vj tn W hh hk⟩
  · rcases h with h | h
    · rw [hk] at h; cases h
    · exact ⟨fun W vr vx vj hh => stick_neg R X now J vr vx vj tn W hh hk h, fun W vr vx vj hh => itick_neg R X now J vr vx vj tn W hh hk h⟩

set_option maxRecDepth 20000 in
set_option maxHeartbeats 4000000 in
theorem lateLaw (a : Option Addr) (len cap : Nat) (a2 : Option Addr) (len2 cap2 : Nat) (w : World) (hc : Rd.Code w a len cap) (hn : len < 9223372036854775808) (hn2 : len2 < 9223372036854775808) : Calls Try.prog 4 #[.slice a len cap, .slice a2 len2 cap2] w fun e w' => e = .returned (.bool true) ∧ Below w.heap.size w w' := by
  by_cases hl : 1048576 < len
  · have C : Hid (Calls Try.prog 6 #[.slice a len cap] w fun e w' => e = .returned (.bool true) ∧ w' = w) := big_yes a len cap w hl hn
    clear hc
    go_enter Try.func4, Try.ntmps4
    go_wp2_with fail
    refine C.out.mono ?_
    rintro e w1 ⟨rfl, hw⟩
    have hw' := hw.symm
    subst hw'
    go_wp2_with fail
    go_ret
    exact ⟨rfl, Below.refl _ _⟩
  have C : Hid (Calls Try.prog 6 #[.slice a len cap] w fun e w' => e = .returned (.bool false) ∧ w' = w) := big_no a len cap w (by omega)
  by_cases hl2 : 1048576 < len2
  · have C2 : Hid (Calls Try.prog 6 #[.slice a2 len2 cap2] w fun e w' => e = .returned (.bool true) ∧ w' = w) := big_yes a2 len2 cap2 w hl2 hn2
    clear hc
    go_enter Try.func4, Try.ntmps4
    go_wp2_with fail
    refine C.out.mono ?_
    rintro e w1 ⟨rfl, hw⟩
    have hw' := hw.symm
    subst hw'
    go_wp2_with fail
    refine C2.out.mono ?_
    rintro e w1 ⟨rfl, hw⟩
    have hw' := hw.symm
    subst hw'
    go_wp2_with fail
    go_ret
    exact ⟨rfl, Below.refl _ _⟩
  have C2 : Hid (Calls Try.prog 6 #[.slice a2 len2 cap2] w fun e w' => e = .returned (.bool false) ∧ w' = w) := big_no a2 len2 cap2 w (by omega)
  have D : Hid (Calls Try.prog 11 #[.slice a len cap] w fun e w' => ∃ vr vx vj now k, e = .returned (.tuple #[rv vr vx now vj, .int .i64 k]) ∧ DZ w vr vx vj w') := dtick_any a len cap w hc (by omega)
  clear hc hl
  go_enter Try.func4, Try.ntmps4
  go_wp2_with fail
  refine C.out.mono ?_
  rintro e w1 ⟨rfl, hw⟩
  have hw' := hw.symm
  subst hw'
  clear C hw
  go_wp2_with fail
  refine C2.out.mono ?_
  rintro e w1 ⟨rfl, hw⟩
  have hw' := hw.symm
  subst hw'
  clear C2 hw
  go_wp2_with fail
  refine D.out.mono ?_
  rintro e w2 ⟨vr, vx, vj, now, tn, rfl, R, X, J, h2, hj60, b2⟩
  clear D
  obtain ⟨ra, rc, e1⟩ := h2.1.form
  obtain ⟨xa, xc, e2⟩ := h2.2.1.form
  obtain ⟨ja, jc, e3⟩ := h2.2.2.form
  subst e1 e2 e3
  obtain ⟨nb, hnb⟩ : ∃ y, y = w2.heap.size := ⟨_, rfl⟩
  have HNB : Hid (nb = w2.heap.size) := hnb
  obtain ⟨w3, hw3⟩ : ∃ y, y = w2.alloc (.cells #[.slice ra R.length rc, .slice xa X.length xc, .int .i64 now, .slice ja J.length jc] 30) := ⟨_, rfl⟩
  have HW3 : Hid (w3 = w2.alloc (.cells #[.slice ra R.length rc, .slice xa X.length xc, .int .i64 now, .slice ja J.length jc] 30)) := hw3
  have S3 : Hid (LB nb (.slice ra R.length rc) (.slice xa X.length xc) (.slice ja J.length jc) now R X J w3) := (by show LB _ _ _ _ _ _ _ _ _; rw [hw3, hnb]; exact LB.new h2 now)
  have B3 : Hid (Below w.heap.size w w3) := (by
    have b3 : Below w2.heap.size w2 w3 := by rw [hw3]; exact (Below.refl _ _).alloc (Nat.le_refl _) _
    exact b2.trans (b3.mono b2.size))
  clear h2 b2 hnb hw3
  go_upto_region 4 with fail
  rw [← HW3.out, ← HNB.out]
  clear HW3 HNB
  obtain ⟨c0, c1, c2, c3⟩ := S3.out.cells
  by_cases hg : okR R X now J = true ∧ 0 ≤ tn
  · obtain ⟨hok, h0⟩ := hg
    obtain ⟨o1, o2, o3, _⟩ := okR_iff.1 hok
    have F := fit_of o1
    have fr1 := F.r1
    have fr60 := F.r60
    have jl1 : 1 ≤ J.length := by omega
    have SP : Hid (∀ (W : World) (vr vx vj : Value), RR W vr vx vj R X J → Calls Try.prog 12 #[rv vr vx now vj, .int .i64 tn] W (PT R X J (nw now tn) (lts R J now (nw now tn) R.length) W)) := fun W vr vx vj hh => stk hok h0 W vr vx vj hh
    have IM : Hid (∀ (W : World) (vr vx vj : Value), RR W vr vx vj R X J → Calls Try.prog 13 #[rv vr vx now vj, .int .i64 tn] W (PT R X J (nw now tn) (lts R J now (nw now tn) R.length) W)) := fun W vr vx vj hh => itk hok h0 W vr vx vj hh
    obtain ⟨ta, hta⟩ : ∃ ta : Int, ta = (len2 : Int) % (tn + 1) := ⟨_, rfl⟩
    obtain ⟨m1, m2⟩ := mod_in (len2 : Int) h0
    rw [← hta] at m1 m2
    obtain ⟨cu1, cu2, cu3⟩ := nw_cut o2 m1 m2
    have IA : Hid (∀ (W : World) (vr vx vj : Value), RR W vr vx vj R X J → Calls Try.prog 13 #[rv vr vx now vj, .int .i64 ta] W (PT R X J (nw now ta) (lts R J now (nw now ta) R.length) W)) := fun W vr vx vj hh => itk hok m1 W vr vx vj hh
    have IB : Hid (∀ (W : World) (vr vx vj : Value), RR W vr vx vj R X J → Calls Try.prog 13 #[rv vr vx (nw now ta) vj, .int .i64 (tn - ta)] W (PT R X J (nw now tn) (lts R J (nw now ta) (nw now tn) R.length) W)) := fun W vr vx vj hh => (by
      have := itk (nw_ok hok m1) (show 0 ≤ tn - ta by omega) W vr vx vj hh
      rw [cu1] at this
      exact this)
    obtain ⟨LA, hLA⟩ : ∃ L, L = lts R J now (nw now tn) R.length := ⟨_, rfl⟩
    obtain ⟨L1, hL1⟩ : ∃ L, L = lts R J now (nw now ta) R.length := ⟨_, rfl⟩
    obtain ⟨L2, hL2⟩ : ∃ L, L = lts R J (nw now ta) (nw now tn) R.length := ⟨_, rfl⟩
    have LEN : L1.length + L2.length = LA.length := (by rw [hLA, hL1, hL2]; exact (lts_ct cu2 cu3 0 R.length).2)
    have ONCE : Hid (∀ i, i < LA.length → ct (LA.getD i 0) L1 + ct (LA.getD i 0) L2 = 1) := fun i hi => (by rw [hLA] at hi ⊢; rw [hL1, hL2]; exact lts_once cu2 cu3 R.length i hi)
    have LL : LA.length ≤ 60 := by rw [hLA]; exact Nat.le_trans (lts_len _ _ _ _ _) fr60
    rw [← hLA] at SP IM
    rw [← hL1] at IA
    rw [← hL2] at IB
    have TD : (len2 : Int).tmod (tn + 1) = ta := by rw [Int.tmod_eq_emod_of_nonneg (by omega)]; exact hta.symm
    have TD2 : (len2 : Int) % (tn + 1) = ta := hta.symm
    have HE : Hid (L1.length + L2.length = LA.length) := LEN
    have l1b : L1.length ≤ 60 := by omega
    have l2b : L2.length ≤ 60 := by omega
    have lsum : (L1.length : Int) + (L2.length : Int) = (LA.length : Int) := by omega
    clear LEN hta hLA hL1 hL2 cu1 cu2 cu3 hok o1 o2 o3 F fr1 fr60
    generalize nw now tn = nt at *
    generalize nw now ta = na at *
    go_wp2_with fail
    refine (SP.out w3 _ _ _ S3.out.rr).mono ?_
    rintro e w4 ⟨a1, a2', a3, a4, a5, a6, a7, a8, rfl, r4, l4, b4⟩
    obtain ⟨ns, hns⟩ : ∃ y, y = w4.heap.size := ⟨_, rfl⟩
    have HNS : Hid (ns = w4.heap.size) := hns
    obtain ⟨w5, hw5⟩ : ∃ y, y = w4.alloc (.cells #[.slice a1 R.length a2', .slice a3 X.length a4, .int .i64 nt, .slice a5 J.length a6] 30) := ⟨_, rfl⟩
    have HW5 : Hid (w5 = w4.alloc (.cells #[.slice a1 R.length a2', .slice a3 X.length a4, .int .i64 nt, .slice a5 J.length a6] 30)) := hw5
    have b5 : Below w4.heap.size w4 w5 := by rw [hw5]; exact (Below.refl _ _).alloc (Nat.le_refl _) _
    have S5 : Hid (LB ns (.slice a1 R.length a2') (.slice a3 X.length a4) (.slice a5 J.length a6) nt R X J w5 ∧ Lists.Reads w5 (.slice a7 LA.length a8) LA) := (by refine ⟨?_, l4.on b5⟩; rw [hw5, hns]; exact LB.new r4 nt)
    have Q5 : Hid (Below w3.heap.size w3 w5) := b4.trans (b5.mono b4.size)
    clear r4 l4 b4 b5 hns hw5 c0 c1 c2 c3 SP
    obtain ⟨c0, c1, c2, c3⟩ := (S3.out.on Q5.out).cells
    go_upto_region 5 with fail
    rw [← HW5.out, ← HNS.out]
    clear HW5 HNS
    go_wp2_with fail
    refine (IM.out w5 _ _ _ (S3.out.on Q5.out).rr).mono ?_
    rintro e w6 ⟨d1, d2, d3, d4, d5, d6, d7, d8, rfl, r6, l6, b6⟩
    obtain ⟨nx, hnx⟩ : ∃ y, y = w6.heap.size := ⟨_, rfl⟩
    have HNX : Hid (nx = w6.heap.size) := hnx
    obtain ⟨w7, hw7⟩ : ∃ y, y = w6.alloc (.cells #[.slice d1 R.length d2, .slice d3 X.length d4, .int .i64 nt, .slice d5 J.length d6] 30) := ⟨_, rfl⟩
    have HW7 : Hid (w7 = w6.alloc (.cells #[.slice d1 R.length d2, .slice d3 X.length d4, .int .i64 nt, .slice d5 J.length d6] 30)) := hw7
    have b7 : Below w6.heap.size w6 w7 := by rw [hw7]; exact (Below.refl _ _).alloc (Nat.le_refl _) _
    have S7 : Hid (LB nx (.slice d1 R.length d2) (.slice d3 X.length d4) (.slice d5 J.length d6) nt R X J w7 ∧ Lists.Reads w7 (.slice d7 LA.length d8) LA) := (by refine ⟨?_, l6.on b7⟩; rw [hw7, hnx]; exact LB.new r6 nt)
    have Q7 : Hid (Below w5.heap.size w5 w7) := b6.trans (b7.mono b6.size)
    clear r6 l6 b6 b7 hnx hw7 c0 c1 c2 c3 IM
    have T7 : Hid (LB ns (.slice a1 R.length a2') (.slice a3 X.length a4) (.slice a5 J.length a6) nt R X J w7 ∧ Lists.Reads w7 (.slice a7 LA.length a8) LA) := ⟨S5.out.1.on Q7.out, S5.out.2.on Q7.out⟩
    have R7 : Hid (Below w3.heap.size w3 w7) := Q5.out.trans (Q7.out.mono Q5.out.size)
    clear S5
    go_upto_region 6 with fail
    rw [← HW7.out, ← HNX.out]
    clear HW7 HNX
    obtain ⟨c0, c1, c2, c3⟩ := S7.out.1.cells
    obtain ⟨g0, g1, g2, g3⟩ := T7.out.1.cells
    have SI : Hid (Calls Try.prog 14 #[.slice d7 LA.length d8, .slice a7 LA.length a8] w7 fun e w' => e = .returned (.bool true) ∧ Below w7.heap.size w7 w') := samei_any LA _ _ w7 S7.out.2 T7.out.2
    have ntn : (nt != nt) = false := by simp
    go_wp2_with fail
    refine SI.out.mono ?_
    rintro e w8 ⟨rfl, b8⟩
    have S8 : Hid (LB nx (.slice d1 R.length d2) (.slice d3 X.length d4) (.slice d5 J.length d6) nt R X J w8 ∧ Lists.Reads w8 (.slice d7 LA.length d8) LA) := ⟨S7.out.1.on b8, S7.out.2.on b8⟩
    have T8 : Hid (LB ns (.slice a1 R.length a2') (.slice a3 X.length a4) (.slice a5 J.length a6) nt R X J w8) := T7.out.1.on b8
    have R8 : Hid (Below w3.heap.size w3 w8) := R7.out.trans (b8.mono R7.out.size)
    clear b8 c0 c1 c2 c3 g0 g1 g2 g3 SI S7 T7 R7
    obtain ⟨c0, c1, c2, c3⟩ := S8.out.1.cells
    obtain ⟨g0, g1, g2, g3⟩ := T8.out.cells
    have SJ : Hid (Calls Try.prog 10 #[.slice d5 J.length d6, .slice a5 J.length a6] w8 fun e w' => e = .returned (.bool true) ∧ Below w8.heap.size w8 w') := samej_any w8 _ _ J S8.out.1.rr.2.2 T8.out.rr.2.2
    go_wp2_with fail
    refine SJ.out.mono ?_
    rintro e w9 ⟨rfl, b9⟩
    have S9 : Hid (LB nx (.slice d1 R.length d2) (.slice d3 X.length d4) (.slice d5 J.length d6) nt R X J w9 ∧ Lists.Reads w9 (.slice d7 LA.length d8) LA) := ⟨S8.out.1.on b9, S8.out.2.on b9⟩
    have T9 : Hid (LB ns (.slice a1 R.length a2') (.slice a3 X.length a4) (.slice a5 J.length a6) nt R X J w9) := T8.out.on b9
    have R9 : Hid (Below w3.heap.size w3 w9) := R8.out.trans (b9.mono R8.out.size)
    clear b9 c0 c1 c2 c3 g0 g1 g2 g3 SJ S8 T8 R8
    obtain ⟨g0, g1, g2, g3⟩ := T9.out.cells
    have jz2 : ¬ (J.length : Int) = 0 := by omega
    have jz : ((J.length : Int) == 0) = false := beq_eq_false_iff_ne.2 jz2
    by_cases hm : 1000000000000 < tn
    · go_wp2_with fail
      go_ret
      exact ⟨rfl, B3.out.trans (R9.out.mono B3.out.size)⟩
    have tz : ¬ tn + 1 = 0 := by omega
    have wt : IntKind.i64.wrap (tn + 1) = tn + 1 := IntWalk.i64_in _ (by omega)
    have wta : IntKind.i64.wrap (tn - ta) = tn - ta := IntWalk.i64_in _ (by omega)
    obtain ⟨c0, c1, c2, c3⟩ := (S3.out.on R9.out).cells
    go_wp2_with fail
    refine (IA.out w9 _ _ _ (S3.out.on R9.out).rr).mono ?_
    rintro e w10 ⟨f1, f2, f3, f4, f5, f6, f7, f8, rfl, r10, l10, b10⟩
    obtain ⟨ny, hny⟩ : ∃ y, y = w10.heap.size := ⟨_, rfl⟩
    have HNY : Hid (ny = w10.heap.size) := hny
    obtain ⟨w11, hw11⟩ : ∃ y, y = w10.alloc (.cells #[.slice f1 R.length f2, .slice f3 X.length f4, .int .i64 na, .slice f5 J.length f6] 30) := ⟨_, rfl⟩
    have HW11 : Hid (w11 = w10.alloc (.cells #[.slice f1 R.length f2, .slice f3 X.length f4, .int .i64 na, .slice f5 J.length f6] 30)) := hw11
    have b11 : Below w10.heap.size w10 w11 := by rw [hw11]; exact (Below.refl _ _).alloc (Nat.le_refl _) _
    have S11 : Hid (LB ny (.slice f1 R.length f2) (.slice f3 X.length f4) (.slice f5 J.length f6) na R X J w11 ∧ Lists.Reads w11 (.slice f7 L1.length f8) L1) := (by refine ⟨?_, l10.on b11⟩; rw [hw11, hny]; exact LB.new r10 na)
    have Q11 : Hid (Below w9.heap.size w9 w11) := b10.trans (b11.mono b10.size)
    clear r10 l10 b10 b11 hny hw11 c0 c1 c2 c3 g0 g1 g2 g3 IA
    go_upto_region 12 with fail
    rw [← HW11.out, ← HNY.out]
    clear HW11 HNY
    obtain ⟨c0, c1, c2, c3⟩ := S11.out.1.cells
    go_wp2_with fail
    refine (IB.out w11 _ _ _ S11.out.1.rr).mono ?_
    rintro e w12 ⟨h1, h2, h3, h4, h5, h6, h7, h8, rfl, r12, l12, b12⟩
    obtain ⟨nz, hnz⟩ : ∃ y, y = w12.heap.size := ⟨_, rfl⟩
    have HNZ : Hid (nz = w12.heap.size) := hnz
    obtain ⟨w13, hw13⟩ : ∃ y, y = w12.alloc (.cells #[.slice h1 R.length h2, .slice h3 X.length h4, .int .i64 nt, .slice h5 J.length h6] 30) := ⟨_, rfl⟩
    have HW13 : Hid (w13 = w12.alloc (.cells #[.slice h1 R.length h2, .slice h3 X.length h4, .int .i64 nt, .slice h5 J.length h6] 30)) := hw13
    have b13 : Below w12.heap.size w12 w13 := by rw [hw13]; exact (Below.refl _ _).alloc (Nat.le_refl _) _
    have S13 : Hid (LB nz (.slice h1 R.length h2) (.slice h3 X.length h4) (.slice h5 J.length h6) nt R X J w13 ∧ Lists.Reads w13 (.slice h7 L2.length h8) L2) := (by refine ⟨?_, l12.on b13⟩; rw [hw13, hnz]; exact LB.new r12 nt)
    have Q13 : Hid (Below w11.heap.size w11 w13) := b12.trans (b13.mono b12.size)
    have ALL : Hid (LB nx (.slice d1 R.length d2) (.slice d3 X.length d4) (.slice d5 J.length d6) nt R X J w13 ∧ Lists.Reads w13 (.slice d7 LA.length d8) LA ∧ Lists.Reads w13 (.slice f7 L1.length f8) L1) := (by
      have q := Q11.out.trans (Q13.out.mono Q11.out.size)
      exact ⟨S9.out.1.on q, S9.out.2.on q, S11.out.2.on Q13.out⟩)
    have B13 : Hid (Below w.heap.size w w13) := (by
      have q := Q11.out.trans (Q13.out.mono Q11.out.size)
      have q2 := R9.out.trans (q.mono R9.out.size)
      exact B3.out.trans (q2.mono B3.out.size))
    clear r12 l12 b12 b13 hnz hw13 c0 c1 c2 c3 IB S11 S9 T9
    go_upto_region 13 with fail
    rw [← HW13.out, ← HNZ.out]
    clear HW13 HNZ
    obtain ⟨c0, c1, c2, c3⟩ := S13.out.1.cells
    obtain ⟨g0, g1, g2, g3⟩ := ALL.out.1.cells
    have wl : IntKind.i64.wrap ((L1.length : Int) + (L2.length : Int)) = (LA.length : Int) := by rw [lsum]; exact IntWalk.i64_in _ (by omega)
    have nll : ((LA.length : Int) != (LA.length : Int)) = false := by simp
    have KA : Hid (∀ i, i < LA.length → ∃ b o, ∃ c, (Value.slice d7 LA.length d8) = .slice (some ⟨b, o, none⟩) LA.length c ∧ w13.cell? ⟨b, o + i, none⟩ = some (.int .i64 (LA.getD i 0))) := fun i hi => (by
      rcases ALL.out.2.1 with ⟨e, _⟩ | ⟨b, o, c, e, _, _, _, hh⟩
      · rw [e] at hi; simp at hi
      · exact ⟨b, o, c, e, hh i hi⟩)
    have K1 : Hid (∀ i, i < L1.length → ∃ b o, ∃ c, (Value.slice f7 L1.length f8) = .slice (some ⟨b, o, none⟩) L1.length c ∧ w13.cell? ⟨b, o + i, none⟩ = some (.int .i64 (L1.getD i 0))) := fun i hi => (by
      rcases ALL.out.2.2 with ⟨e, _⟩ | ⟨b, o, c, e, _, _, _, hh⟩
      · rw [e] at hi; simp at hi
      · exact ⟨b, o, c, e, hh i hi⟩)
    have K2 : Hid (∀ i, i < L2.length → ∃ b o, ∃ c, (Value.slice h7 L2.length h8) = .slice (some ⟨b, o, none⟩) L2.length c ∧ w13.cell? ⟨b, o + i, none⟩ = some (.int .i64 (L2.getD i 0))) := fun i hi => (by
      rcases S13.out.2 with ⟨e, _⟩ | ⟨b, o, c, e, _, _, _, hh⟩
      · rw [e] at hi; simp at hi
      · exact ⟨b, o, c, e, hh i hi⟩)
    clear ALL S13 S3
    go_upto_region 15 with fail
    clear c0 c1 c2 c3 g0 g1 g2 g3 wl nll lsum
    go_wp2_with fail
    go_loopw [16] (fun c wr => ∃ (k m : Nat), k ≤ LA.length ∧ c = .int .i64 k ∧ wr = w13.drewN m) (fun c _ => LA.length - (intOf c).toNat)
    case atStart => exact ⟨0, 0, Nat.zero_le _, rfl, rfl⟩
    case round =>
      obtain ⟨k, m, hk, rfl, hwr⟩ := hrel
      subst hwr
      by_cases hlt : k < LA.length
      · have i0 : (0 : Int) ≤ (k : Int) := by omega
        have i1 : (k : Int) < (LA.length : Int) := by omega
        obtain ⟨ab, ao, ac, e1, v1⟩ := KA.out k hlt
        simp at e1
        obtain ⟨rfl, rfl⟩ := e1
        have ONK : Hid (ct (LA.getD k 0) L1 + ct (LA.getD k 0) L2 = 1) := ONCE.out k hlt
        generalize LA.getD k 0 = x at *
        go_wp2_with fail
        go_loopw [17, 18] (fun t c wr => ∃ (j q : Nat), j ≤ L1.length ∧ c = .int .i64 j ∧ t = .int .i64 (ct x (L1.take j) : Int) ∧ wr = w13.drewN q) (fun _ c _ => L1.length - (intOf c).toNat)
        case atStart => exact ⟨0, m, Nat.zero_le _, rfl, rfl, rfl⟩
        case round =>
          obtain ⟨j, q, hj, rfl, rfl, hwr⟩ := hrel
          subst hwr
          have cb := ct_le x L1 j
          by_cases hlj : j < L1.length
          · have j0 : (0 : Int) ≤ (j : Int) := by omega
            have j1 : (j : Int) < (L1.length : Int) := by omega
            obtain ⟨bb, bo, bc, e2, v2⟩ := K1.out j hlj
            simp at e2
            obtain ⟨rfl, rfl⟩ := e2
            have NX := ct_next x L1 j hlj
            by_cases he : L1.getD j 0 = x
            · rw [if_pos he] at NX
              rw [he] at v2
              have HNX : Hid (ct x (L1.take (j + 1)) = ct x (L1.take j) + 1) := NX
              clear NX he
              generalize ct x (L1.take j) = cc at *
              have he' : (x == x) = true := by simp
              go_wp2_with fail
              go_quiet (fail)
              go_wp2_with fail
              go_roundw
              case rel => exact ⟨j + 1, _, by omega, by go_num, by rw [HNX.out]; go_num, rfl⟩
              case measure => simp [intOf]; omega
            · rw [if_neg he] at NX
              have HNX : Hid (ct x (L1.take (j + 1)) = ct x (L1.take j)) := NX
              clear NX
              have he' : (L1.getD j 0 == x) = false := by simpa using he
              have he2 : decide (L1.getD j 0 = x) = false := decide_eq_false he
              generalize L1.getD j 0 = zz at *
              generalize ct x (L1.take j) = cc at *
              go_wp2_with fail
              go_quiet (fail)
              go_wp2_with fail
              go_roundw
              case rel => exact ⟨j + 1, _, by omega, by go_num, by rw [HNX.out], rfl⟩
              case measure => simp [intOf]; omega
          · have ej : j = L1.length := by omega
            subst ej
            have j1 : ¬ (L1.length : Int) < (L1.length : Int) := by omega
            rw [List.take_length] at cb ⊢
            have HC1 : Hid (ct x L1 + ct x L2 = 1) := ONK.out
            generalize ct x L1 = c1 at *
            go_wp2_with fail
            go_loopw [17, 19] (fun t c wr => ∃ (j q : Nat), j ≤ L2.length ∧ c = .int .i64 j ∧ t = .int .i64 ((c1 : Int) + (ct x (L2.take j) : Int)) ∧ wr = w13.drewN q) (fun _ c _ => L2.length - (intOf c).toNat)
            case atStart => exact ⟨0, q, Nat.zero_le _, rfl, by simp [ct], rfl⟩
            case round =>
              obtain ⟨j, q, hj, rfl, rfl, hwr⟩ := hrel
              subst hwr
              have cb2 := ct_le x L2 j
              by_cases hlj : j < L2.length
              · have j0 : (0 : Int) ≤ (j : Int) := by omega
                have j1 : (j : Int) < (L2.length : Int) := by omega
                obtain ⟨bb, bo, bc, e2, v2⟩ := K2.out j hlj
                simp at e2
                obtain ⟨rfl, rfl⟩ := e2
                have NX := ct_next x L2 j hlj
                by_cases he : L2.getD j 0 = x
                · rw [if_pos he] at NX
                  rw [he] at v2
                  have HNX : Hid (ct x (L2.take (j + 1)) = ct x (L2.take j) + 1) := NX
                  clear NX he
                  generalize ct x (L2.take j) = cc at *
                  have he' : (x == x) = true := by simp
                  go_wp2_with fail
                  go_quiet (fail)
                  go_wp2_with fail
                  go_roundw
                  case rel => exact ⟨j + 1, _, by omega, by go_num, by rw [HNX.out]; go_num, rfl⟩
                  case measure => simp [intOf]; omega
                · rw [if_neg he] at NX
                  have HNX : Hid (ct x (L2.take (j + 1)) = ct x (L2.take j)) := NX
                  clear NX
                  have he' : (L2.getD j 0 == x) = false := by simpa using he
                  have he2 : decide (L2.getD j 0 = x) = false := decide_eq_false he
                  generalize L2.getD j 0 = zz at *
                  generalize ct x (L2.take j) = cc at *
                  go_wp2_with fail
                  go_quiet (fail)
                  go_wp2_with fail
                  go_roundw
                  case rel => exact ⟨j + 1, _, by omega, by go_num, by rw [HNX.out], rfl⟩
                  case measure => simp [intOf]; omega
              · have ej : j = L2.length := by omega
                subst ej
                have j1 : ¬ (L2.length : Int) < (L2.length : Int) := by omega
                rw [List.take_length] at cb2 ⊢
                have es : (c1 : Int) + (ct x L2 : Int) = 1 := by have := HC1.out; omega
                rw [es]
                clear es cb2
                go_wp2_with fail
                go_roundw
                case rel => exact ⟨k + 1, q, by omega, by go_num, rfl⟩
                case measure => simp [intOf]; omega
      · have i1 : ¬ (k : Int) < (LA.length : Int) := by omega
        go_wp2_with fail
        go_ret
        exact ⟨rfl, below_drewN B13.out _⟩
  · have hr : okR R X now J = false ∨ tn < 0 := by
      cases h : okR R X now J
      · exact Or.inl rfl
      · exact Or.inr (by rcases Int.lt_or_le tn 0 with q | q; exact q; exact absurd ⟨h, q⟩ hg)
    obtain ⟨s1, s2⟩ := tick_refused hr
    have SP : Hid (∀ (W : World) (vr vx vj : Value), RR W vr vx vj R X J → Calls Try.prog 12 #[rv vr vx now vj, .int .i64 tn] W fun e w' => e = .returned (.tuple #[rv nilS nilS 0 nilS, (.slice (some ⟨W.heap.size + 2, 0, none⟩) 0 0)]) ∧ Below W.heap.size W w') := s1
    have IM : Hid (∀ (W : World) (vr vx vj : Value), RR W vr vx vj R X J → Calls Try.prog 13 #[rv vr vx now vj, .int .i64 tn] W fun e w' => e = .returned (.tuple #[rv nilS nilS 0 nilS, nilS]) ∧ Below W.heap.size W w') := s2
    clear s1 s2 hr hg
    go_wp2_with fail
    refine (SP.out w3 _ _ _ S3.out.rr).mono ?_
    rintro e w4 ⟨rfl, b4⟩
    obtain ⟨w5, hw5⟩ : ∃ y, y = w4.alloc (.cells #[.slice none 0 0, .slice none 0 0, .int .i64 0, .slice none 0 0] 30) := ⟨_, rfl⟩
    have HW5 : Hid (w5 = w4.alloc (.cells #[.slice none 0 0, .slice none 0 0, .int .i64 0, .slice none 0 0] 30)) := hw5
    obtain ⟨ns, hns⟩ : ∃ y, y = w4.heap.size := ⟨_, rfl⟩
    have HNS : Hid (ns = w4.heap.size) := hns
    have S5 : Hid (Bl w5 ns 30 zr) := (by show Bl _ _ _ _; rw [hw5, hns]; exact Bl.new w4 30 _)
    have Q5 : Hid (Below w3.heap.size w3 w5) := (by show Below _ _ _; rw [hw5]; exact b4.alloc b4.size _)
    obtain ⟨sl, hsl⟩ : ∃ y, y = w3.heap.size + 2 := ⟨_, rfl⟩
    rw [← hsl]
    clear b4 hns hw5 c0 c1 c2 c3 SP hsl
    obtain ⟨c0, c1, c2, c3⟩ := (S3.out.on Q5.out).cells
    go_upto_region 5 with fail
    rw [← HW5.out, ← HNS.out]
    clear HW5 HNS
    go_wp2_with fail
    refine (IM.out w5 _ _ _ (S3.out.on Q5.out).rr).mono ?_
    rintro e w6 ⟨rfl, b6⟩
    obtain ⟨nx, hnx⟩ : ∃ y, y = w6.heap.size := ⟨_, rfl⟩
    have HNX : Hid (nx = w6.heap.size) := hnx
    obtain ⟨w7, hw7⟩ : ∃ y, y = w6.alloc (.cells #[.slice none 0 0, .slice none 0 0, .int .i64 0, .slice none 0 0] 30) := ⟨_, rfl⟩
    have HW7 : Hid (w7 = w6.alloc (.cells #[.slice none 0 0, .slice none 0 0, .int .i64 0, .slice none 0 0] 30)) := hw7
    have b7 : Below w6.heap.size w6 w7 := by rw [hw7]; exact (Below.refl _ _).alloc (Nat.le_refl _) _
    have S7 : Hid (Bl w7 nx 30 zr ∧ Bl w7 ns 30 zr) := ⟨by rw [hw7, hnx]; exact Bl.new w6 30 _, (S5.out.on b6).on b7⟩
    have Q7 : Hid (Below w.heap.size w w7) := (by
      have q := Q5.out.trans ((b6.trans (b7.mono b6.size)).mono Q5.out.size)
      exact B3.out.trans (q.mono B3.out.size))
    clear b6 b7 hnx hw7 c0 c1 c2 c3 IM
    go_upto_region 6 with fail
    rw [← HW7.out, ← HNX.out]
    clear HW7 HNX
    have x2 : w7.cell? ⟨nx, 2, none⟩ = some (.int .i64 0) := by rw [S7.out.1.cell]; rfl
    have x3 : w7.cell? ⟨nx, 3, none⟩ = some (.slice none 0 0) := by rw [S7.out.1.cell]; rfl
    have y2 : w7.cell? ⟨ns, 2, none⟩ = some (.int .i64 0) := by rw [S7.out.2.cell]; rfl
    have y3 : w7.cell? ⟨ns, 3, none⟩ = some (.slice none 0 0) := by rw [S7.out.2.cell]; rfl
    have SI : Hid (Calls Try.prog 14 #[.slice none 0 0, .slice (some ⟨sl, 0, none⟩) 0 0] w7 fun e w' => e = .returned (.bool true) ∧ Below w7.heap.size w7 w') := samei_any [] _ _ w7 (Or.inl ⟨rfl, _, _, rfl⟩) (Or.inl ⟨rfl, _, _, rfl⟩)
    go_wp2_with fail
    refine SI.out.mono ?_
    rintro e w8 ⟨rfl, b8⟩
    have S8 : Hid (Bl w8 nx 30 zr ∧ Bl w8 ns 30 zr) := ⟨S7.out.1.on b8, S7.out.2.on b8⟩
    have Q8 : Hid (Below w.heap.size w w8) := Q7.out.trans (b8.mono Q7.out.size)
    clear b8 x2 x3 y2 y3
    have x3 : w8.cell? ⟨nx, 3, none⟩ = some (.slice none 0 0) := by rw [S8.out.1.cell]; rfl
    have y3 : w8.cell? ⟨ns, 3, none⟩ = some (.slice none 0 0) := by rw [S8.out.2.cell]; rfl
    have SJ : Hid (Calls Try.prog 10 #[.slice none 0 0, .slice none 0 0] w8 fun e w' => e = .returned (.bool true) ∧ Below w8.heap.size w8 w') := samej_any w8 _ _ [] (nil_reads _) (nil_reads _)
    go_wp2_with fail
    refine SJ.out.mono ?_
    rintro e w9 ⟨rfl, b9⟩
    have y4 : w9.cell? ⟨ns, 3, none⟩ = some (.slice none 0 0) := by rw [(S8.out.2.on b9).cell]; rfl
    have Q9 : Hid (Below w.heap.size w w9) := Q8.out.trans (b9.mono Q8.out.size)
    clear b9 x3 y3
    go_wp2_with fail
    go_ret
    exact ⟨rfl, Q9.out⟩
end Go.Proofs.Ytfhpomfdkpfooaa.Ty
