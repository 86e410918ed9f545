/- unpack of the program: all groups read, or it gives up. -/
import Derived.Test.YtmopkbkdfipglaaBe
namespace Go.Proofs.Ytmopkbkdfipglaa.Lists
open Go.ChangeShapes Go.WideShapes Go.ChangeAt Go.RowKit
open Go.Proofs.Ytmopkbkdfipglaa.Bytes (bys)

def UPo (w : World) (D : List Int) (e : Ending) (w' : World) : Prop :=
  Below w.heap.size w w' ∧ ((∃ L v', RD D L ∧ e = .returned v' ∧ w'.ownsRow w.heap.size 2 1 v' L.length (ints L)) ∨ ((∀ L, ¬ RD D L) ∧ ∃ c : Int, (c = 1 ∨ c = 2 ∨ c = 3) ∧ e = .panicked (upc c)))
theorem UPo.no {w w' : World} {D : List Int} {e : Ending} (hb : Below w.heap.size w w') (h : ∀ L, ¬ RD D L) (c : Int) (hc : c = 1 ∨ c = 2 ∨ c = 3) (he : e = .panicked (upc c)) : UPo w D e w' := ⟨hb, .inr ⟨h, c, hc, he⟩⟩

def slen : Value → Nat
  | .slice _ l _ => l
  | _ => 0

set_option maxRecDepth 20000 in
set_option maxHeartbeats 4000000 in
theorem unpackx_any (w : World) (v : Value) (D : List Int) (h : Bytes.Reads w v D) (hD : By D) (hN : D.length ≤ 1048576) :
    Calls Try.prog 61 #[.agg #[], v] w fun e w' => UPo w D e w' := by
  obtain ⟨tf, hi, hz0, hz1, hz2⟩ := info_parts Try.info2
  obtain ⟨a, cap, rfl⟩ := h.form
  obtain ⟨N, hNN⟩ : ∃ N, N = D.length := ⟨_, rfl⟩
  have HN : Hid (D.length = N) := hNN.symm
  have HD : Hid (By D) := hD
  have RA : Hid (∀ W, Below w.heap.size w W → Bytes.Reads W (.slice a N cap) D) := fun W hW => by rw [hNN]; exact h.on hW
  have RC : Hid (∀ i, i < N → ∃ g o, a = some ⟨g, o, none⟩ ∧ N ≤ cap ∧ cap ≤ maxLen ∧ g < w.heap.size ∧ w.cell? ⟨g, o + i, none⟩ = some (.int .u8 (D.getD i 0))) := fun i hi => by
    rw [hNN] at hi ⊢
    rcases h with ⟨rfl, _⟩ | ⟨b, o, cap', h1, h2, h3, h4, h5⟩
    · simp at hi
    · injection h1 with q1 q2 q3
      subst q3
      exact ⟨b, o, q1, h2, h3, h4, h5 i hi⟩
  rw [← hNN] at hN ⊢
  have NR : Hid (∀ L, RD D L → nm D 0 16 = (L.length : Int) ∧ L.length ≤ 4096 ∧ 2 ≤ N ∧ ∀ k, k < ng L.length → wk D k ≤ 43 ∧ psk D k + 56 + (gr L k).length * wk D k ≤ 8 * N) := fun L hL => by
    obtain ⟨_, h2, h3, h4, h5, _⟩ := hL.back
    rw [HN.out] at h3 h5
    exact ⟨h4, h2.1, h3, h5⟩
  clear h hD hNN
  go_enter Try.func61, Try.ntmps61
  go_wp2_with fail
  obtain ⟨w1, hw1⟩ : ∃ w1, w1 = (w.alloc (Obj.cells #[] 42)).alloc (Obj.cells #[Value.slice a N cap, Value.int IntKind.i64 0] 99) := ⟨_, rfl⟩
  rw [← hw1]
  have b1 : Below w.heap.size w w1 := by rw [hw1]; exact ((Below.refl _ _).alloc (Nat.le_refl _) _).alloc (by simp) _
  have z1 : w1.heap.size = w.heap.size + 2 := by rw [hw1]; simp
  have l1 : Bl w1 (w.heap.size + 1) 99 #[.slice a N cap, .int .i64 ((0 : Nat) : Int)] := by
    have := Bl.new (w.alloc (Obj.cells #[] 42)) 99 #[Value.slice a N cap, Value.int IntKind.i64 0]
    rw [World.size_alloc] at this
    rw [hw1]; exact this
  have RB1 : RB w1 (w.heap.size + 1) a N cap D 0 := ⟨l1, HN.out, HD.out, fun i hi => by
    obtain ⟨g, o, q1, q2, q3, q4, q5⟩ := RC.out i hi
    exact ⟨g, o, q1, q2, q3, by omega, by omega, (b1.cell (p := ⟨g, o + i, none⟩) q4).trans q5⟩⟩
  have ON : Hid (∀ W W' p, RB W (w.heap.size + 1) a N cap D p → KB (fun g => w.heap.size + 2 ≤ g) W W' → RB W' (w.heap.size + 1) a N cap D p) := fun W W' p h k => h.kb k (fun e => by omega) (fun h0 g e => by
    obtain ⟨g0, o0, q1, _, _, q4, _⟩ := RC.out 0 h0
    refine .inr fun o e2 => ?_
    rw [q1] at e2
    injection e2 with e2
    injection e2 with e3
    omega)
  have P1 : Hid (Calls Try.prog 68 #[.pointer (some ⟨w.heap.size + 1, 0, none⟩), .int .i64 16] w1 fun e w' => KB (fun k => k = w.heap.size + 1) w1 w' ∧ ((0 + 16 ≤ 8 * N ∧ e = .returned (.int .u64 (nm D 0 16)) ∧ RB w' (w.heap.size + 1) a N cap D (0 + 16)) ∨ (¬ 0 + 16 ≤ 8 * N ∧ e = .panicked (upc 3)))) :=
    iread_any w1 (w.heap.size + 1) a N cap 0 16 D hN (by omega) (by omega) RB1
  have B1 : Hid (Below w.heap.size w w1) := b1
  clear hw1 RB1 l1 b1
  refine P1.out.mono ?_
  rintro e w2 ⟨k2, (⟨hle, rfl, rb2⟩ | ⟨hle, rfl⟩)⟩
  case inr =>
    refine ⟨rfl, UPo.no (B1.out.trans (k2.below (by omega) (fun k e => by omega))) (fun L hL => ?_) 3 (.inr (.inr rfl)) rfl⟩
    have := (NR.out L hL).2.2.1
    omega
  have B2 : Hid (Below w.heap.size w w2) := B1.out.trans (k2.below (by omega) (fun k e => by omega))
  have z2 : w.heap.size + 2 ≤ w2.heap.size := by have := k2.size; omega
  have R2 : Hid (RB w2 (w.heap.size + 1) a N cap D (psk D 0)) := rb2
  obtain ⟨n, hn⟩ : ∃ n : Nat, n = (nm D 0 16).toNat := ⟨_, rfl⟩
  have bn := nm_b D 0 16
  have en : nm D 0 16 = (n : Int) := by omega
  have n16 : n < 65536 := by have : (2 : Int) ^ 16 = 65536 := by decide
                             omega
  have EN : Hid (nm D 0 16 = (n : Int)) := en
  rw [en]
  have NQ : Hid (∀ L, RD D L → L.length = n ∧ n ≤ 4096 ∧ ∀ k, k < ng n → wk D k ≤ 43 ∧ psk D k + 56 + min 16 (n - 16 * k) * wk D k ≤ 8 * N) := fun L hL => by
    obtain ⟨q1, q2, q3, q4⟩ := NR.out L hL
    have e : L.length = n := by omega
    refine ⟨e, by omega, fun k hk => ?_⟩
    have := q4 k (by rw [e]; exact hk)
    rw [gr_len, e] at this
    exact this
  have XQ : Hid (∀ L, RD D L → L = rlD D n) := fun L hL => by
    have e := (NQ.out L hL).1
    have := hL.back.2.2.2.2.2
    rw [e] at this
    exact this.symm
  clear P1 B1 k2 rb2 hn bn en NR z1
  by_cases hbig : 4096 < n
  · have i1 : (4096 : Int) < (n : Int) := by omega
    have BG : Hid (4096 < n) := hbig
    clear hbig
    go_wp2_with fail
    refine ⟨rfl, UPo.no B2.out (fun L hL => ?_) 1 (.inl rfl) rfl⟩
    have := (NQ.out L hL).2.1
    have := BG.out
    omega
  have i1 : ¬ (4096 : Int) < (n : Int) := by omega
  have R0 : Hid (w2.ownsRow (w.heap.size + 2) 2 1 (.slice none 0 0) 0 (ints (rlD D 0))) := ⟨rfl, .inl ⟨rfl, rfl⟩⟩
  have S0 : Hid (-(((0 : Nat) : Int) * 562949953421312) ≤ smD D 0 ∧ smD D 0 ≤ ((0 : Nat) : Int) * 562949953421312) := (by show _ ∧ _; simp [smD])
  have n4 : n ≤ 4096 := by omega
  clear hbig
  go_wp2_with fail
  go_loopw [7, 8, 9, 10] (fun vl ah' _ _ wr => ∃ k p : Nat, k ≤ ng n ∧ p ≤ 8 * N ∧ (k < ng n → p = psk D k) ∧ ah' = .int .i64 (smD D (min (16 * k) n)) ∧ Hid (wr.ownsRow (w.heap.size + 2) 2 1 vl (min (16 * k) n) (ints (rlD D (min (16 * k) n)))) ∧ Hid (RB wr (w.heap.size + 1) a N cap D p) ∧ Hid (Below w.heap.size w wr ∧ w.heap.size + 2 ≤ wr.heap.size) ∧ Hid (-(((min (16 * k) n : Nat) : Int) * 562949953421312) ≤ smD D (min (16 * k) n) ∧ smD D (min (16 * k) n) ≤ ((min (16 * k) n : Nat) : Int) * 562949953421312)) (fun vl _ _ _ _ => n - slen vl)
  case atStart => exact ⟨0, 16, Nat.zero_le _, hle, fun _ => rfl, rfl, R0, R2, ⟨B2.out, z2⟩, S0⟩
  case round =>
    clear R0 R2 B2 S0
    obtain ⟨k, p, hk, hp, hpk, rfl, OL, RR, BB, SB⟩ := hrel
    obtain ⟨vl, hvl⟩ : ∃ vl, vl = u7 := ⟨_, rfl⟩
    subst hvl
    obtain ⟨wo, hwo⟩ : ∃ x, x = wr := ⟨_, rfl⟩
    subst hwo
    have NG : ng n = (n + 15) / 16 := rfl
    by_cases hkn : 16 * k < n
    · have ek : k < ng n := by omega
      have ep := hpk ek
      subst ep
      obtain ⟨t, ht⟩ : ∃ t, t = 16 * k := ⟨_, rfl⟩
      have emin : min (16 * k) n = t := by omega
      rw [emin] at OL SB ⊢
      obtain ⟨va, vc, ev⟩ := row_form OL.out
      subst ev
      have i2 : (t : Int) < (n : Int) := by omega
      have HT : Hid (t = 16 * k ∧ k < ng n) := ⟨ht, ek⟩
      have P2 : Hid (Calls Try.prog 68 #[.pointer (some ⟨w.heap.size + 1, 0, none⟩), .int .i64 48] wo fun e w' => KB (fun k => k = w.heap.size + 1) wo w' ∧ ((psk D k + 48 ≤ 8 * N ∧ e = .returned (.int .u64 (nm D (psk D k) 48)) ∧ RB w' (w.heap.size + 1) a N cap D (psk D k + 48)) ∨ (¬ psk D k + 48 ≤ 8 * N ∧ e = .panicked (upc 3)))) :=
        iread_any wo (w.heap.size + 1) a N cap (psk D k) 48 D hN hp (by omega) RR.out
      clear ht hpk emin NG ek
      go_wp2_with fail
      refine P2.out.mono ?_
      rintro e w3 ⟨k3, (⟨hle3, rfl, rb3⟩ | ⟨hle3, rfl⟩)⟩
      case inr =>
        refine ⟨rfl, UPo.no (BB.out.1.trans (k3.below (by have := BB.out.2; omega) (fun k e => by omega))) (fun L hL => ?_) 3 (.inr (.inr rfl)) rfl⟩
        have := ((NQ.out L hL).2.2 k HT.out.2).2
        omega
      have OL3 : w3.ownsRow (w.heap.size + 2) 2 1 (.slice va t vc) t (ints (rlD D t)) := row_kb OL.out k3 (fun g hg e => by have := (OL.out.lt g hg).1; omega)
      have BB3 : Below w.heap.size w w3 ∧ w.heap.size + 2 ≤ w3.heap.size := ⟨BB.out.1.trans (k3.below (by have := BB.out.2; omega) (fun k e => by omega)), by have := BB.out.2; have := k3.size; omega⟩
      have P3 : Hid (Calls Try.prog 68 #[.pointer (some ⟨w.heap.size + 1, 0, none⟩), .int .i64 8] w3 fun e w' => KB (fun k => k = w.heap.size + 1) w3 w' ∧ ((psk D k + 48 + 8 ≤ 8 * N ∧ e = .returned (.int .u64 (nm D (psk D k + 48) 8)) ∧ RB w' (w.heap.size + 1) a N cap D (psk D k + 48 + 8)) ∨ (¬ psk D k + 48 + 8 ≤ 8 * N ∧ e = .panicked (upc 3)))) :=
        iread_any w3 (w.heap.size + 1) a N cap (psk D k + 48) 8 D hN hle3 (by omega) rb3
      obtain ⟨n1, hn1⟩ : ∃ n1, n1 = nm D (psk D k) 48 := ⟨_, rfl⟩
      have bn1 := nm_b D (psk D k) 48
      rw [← hn1] at bn1 ⊢
      rw [show (2 : Int) ^ 48 = 281474976710656 by decide] at bn1
      obtain ⟨ls, hls⟩ : ∃ ls, ls = n1 - 4398046511104 := ⟨_, rfl⟩
      have els : n1 - 4398046511104 = ls := hls.symm
      have LS : Hid (ls = lsD D k) := (by show _ = _; rw [hls, hn1]; rfl)
      have OL3' : Hid (w3.ownsRow (w.heap.size + 2) 2 1 (.slice va t vc) t (ints (rlD D t))) := OL3
      have BB3' : Hid (Below w.heap.size w w3 ∧ w.heap.size + 2 ≤ w3.heap.size) := BB3
      clear hn1 hls OL BB rb3 k3 P2 OL3 BB3 RR
      go_wp2_with fail
      refine P3.out.mono ?_
      rintro e w4 ⟨k4, (⟨hle4, rfl, rb4⟩ | ⟨hle4, rfl⟩)⟩
      case inr =>
        refine ⟨rfl, UPo.no (BB3'.out.1.trans (k4.below (by have := BB3'.out.2; omega) (fun k e => by omega))) (fun L hL => ?_) 3 (.inr (.inr rfl)) rfl⟩
        have := ((NQ.out L hL).2.2 k HT.out.2).2
        omega
      have OL4 : Hid (w4.ownsRow (w.heap.size + 2) 2 1 (.slice va t vc) t (ints (rlD D t))) := row_kb OL3'.out k4 (fun g hg e => by have := (OL3'.out.lt g hg).1; omega)
      have BB4 : Hid (Below w.heap.size w w4 ∧ w.heap.size + 2 ≤ w4.heap.size) := ⟨BB3'.out.1.trans (k4.below (by have := BB3'.out.2; omega) (fun k e => by omega)), by have := BB3'.out.2; have := k4.size; omega⟩
      obtain ⟨wd, hwd⟩ : ∃ wd : Nat, wd = wk D k := ⟨_, rfl⟩
      have bw := nm_b D (psk D k + 48) 8
      rw [show (2 : Int) ^ 8 = 256 by decide] at bw
      have ew : nm D (psk D k + 48) 8 = (wd : Int) := by rw [hwd]; unfold wk wdD; omega
      have w256 : wd < 256 := by omega
      rw [ew]
      have R4 : Hid (RB w4 (w.heap.size + 1) a N cap D (psk D k + 56 + 0 * wd)) := (by show RB _ _ _ _ _ _ _; rw [Nat.zero_mul]; exact rb4)
      have WD : Hid (wd = wk D k) := hwd
      clear hwd bw ew rb4 k4 P3 OL3' BB3'
      by_cases h43 : 43 < wd
      · have i4 : (43 : Int) < (wd : Int) := by omega
        have WB : Hid (43 < wd) := h43
        clear h43
        go_wp2_with fail
        refine ⟨rfl, UPo.no BB4.out.1 (fun L hL => ?_) 2 (.inr (.inl rfl)) rfl⟩
        have := ((NQ.out L hL).2.2 k HT.out.2).1
        rw [← WD.out] at this
        have := WB.out
        omega
      have i4 : ¬ (43 : Int) < (wd : Int) := by omega
      have w43 : wd ≤ 43 := by omega
      obtain ⟨m, hm⟩ : ∃ m, m = min 16 (n - t) := ⟨_, rfl⟩
      have em : min (16 : Int) ((n : Int) - (t : Int)) = (m : Int) := by omega
      have m1 : 0 < m ∧ m ≤ 16 ∧ t + m ≤ n ∧ (m = 16 ∨ t + m = n) := by omega
      have MM : Hid (m = min 16 (n - 16 * k)) := (by show _ = _; rw [hm, HT.out.1])
      have O0 : Hid (w4.ownsRow (w.heap.size + 2) 2 1 (.slice va t vc) (t + 0) (ints (rlD D (t + 0)))) := OL4.out
      have S1 : Hid (-(((t + 0 : Nat) : Int) * 562949953421312) ≤ smD D (t + 0) ∧ smD D (t + 0) ≤ ((t + 0 : Nat) : Int) * 562949953421312) := SB.out
      have hle4' : psk D k + 56 ≤ 8 * N := hle4
      clear h43 hm OL4 SB
      go_wp2_with fail
      go_loopw [7, 8, 36] (fun vl ah' iv wr => ∃ i p : Nat, i ≤ m ∧ iv = .int .i64 (i : Int) ∧ p = psk D k + 56 + i * wd ∧ p ≤ 8 * N ∧ ah' = .int .i64 (smD D (t + i)) ∧ Hid (wr.ownsRow (w.heap.size + 2) 2 1 vl (t + i) (ints (rlD D (t + i)))) ∧ Hid (RB wr (w.heap.size + 1) a N cap D (psk D k + 56 + i * wd)) ∧ Hid (Below w.heap.size w wr ∧ w.heap.size + 2 ≤ wr.heap.size) ∧ Hid (-(((t + i : Nat) : Int) * 562949953421312) ≤ smD D (t + i) ∧ smD D (t + i) ≤ ((t + i : Nat) : Int) * 562949953421312)) (fun _ _ iv _ => m - (intOf iv).toNat)
      case atStart => exact ⟨0, _, Nat.zero_le _, rfl, rfl, by omega, rfl, O0, R4, BB4, S1⟩
      case round =>
        clear O0 R4 BB4 S1
        obtain ⟨i, p, hi', rfl, hp', hpN, rfl, OL, RR, BB, SB⟩ := hrel
        obtain ⟨vl, hvl⟩ : ∃ vl, vl = u7 := ⟨_, rfl⟩
        subst hvl
        obtain ⟨ti, hti⟩ : ∃ ti, ti = t + i := ⟨_, rfl⟩
        rw [← hti] at OL SB ⊢
        obtain ⟨va2, vc2, ev⟩ := row_form OL.out
        subst ev
        rw [← hp'] at RR
        by_cases him : i < m
        · have j1 : (i : Int) < (m : Int) := by omega
          have P5 : Hid (Calls Try.prog 68 #[.pointer (some ⟨w.heap.size + 1, 0, none⟩), .int .i64 (wd : Int)] wr fun e w' => KB (fun k => k = w.heap.size + 1) wr w' ∧ ((p + wd ≤ 8 * N ∧ e = .returned (.int .u64 (nm D p wd)) ∧ RB w' (w.heap.size + 1) a N cap D (p + wd)) ∨ (¬ p + wd ≤ 8 * N ∧ e = .panicked (upc 3)))) :=
            iread_any wr (w.heap.size + 1) a N cap p wd D hN hpN (by omega) RR.out
          have PE : Hid (p = psk D k + 56 + i * wd ∧ ti = t + i ∧ i < m) := ⟨hp', hti, him⟩
          obtain ⟨g, hg⟩ : ∃ g, g = nm D p wd := ⟨_, rfl⟩
          have bg := nm_b D p wd
          have bp := (pow48 wd (by omega)).2
          rw [← hg] at bg P5
          have gb : 0 ≤ g ∧ g < 281474976710656 := by omega
          have g43 : g < 8796093022208 := by
            have key : ∀ e : Fin 44, (2 : Int) ^ e.val ≤ 8796093022208 := by decide +kernel
            have := key ⟨wd, by omega⟩
            simp only at this
            omega
          obtain ⟨z, hz⟩ : ∃ z, z = smD D ti := ⟨_, rfl⟩
          obtain ⟨y1, hy1⟩ : ∃ y1, y1 = ls + g := ⟨_, rfl⟩
          obtain ⟨y, hy⟩ : ∃ y, y = z + y1 := ⟨_, rfl⟩
          have ey1 : ls + g = y1 := hy1.symm
          have ey : z + y1 = y := hy.symm
          have sb := SB.out
          rw [← hz] at sb ⊢
          have t4 : ti ≤ 4096 := by omega
          have zb : -2305843009213693952 ≤ z ∧ z ≤ 2305843009213693952 := by omega
          have yb1 : -4398046511104 ≤ y1 ∧ y1 < 562949953421312 := by omega
          have yb : -2305847407260205056 ≤ y ∧ y ≤ 2306405959167115264 := by omega
          have SN : Hid (smD D (ti + 1) = y) := (by
            show _ = _
            have i16 : i < 16 := by omega
            have h1 : ti / 16 = k := by have := HT.out.1; omega
            have h2 : ti % 16 = i := by have := HT.out.1; omega
            rw [smD, dlD, h1, h2, ← LS.out, ← WD.out, ← hp', ← hg, ← hz, hy, hy1])
          have S2 : Hid (-(((ti + 1 : Nat) : Int) * 562949953421312) ≤ y ∧ y ≤ ((ti + 1 : Nat) : Int) * 562949953421312) := (by show _ ∧ _; omega)
          clear hp' hti him hg bg bp hz hy hy1 sb RR
          go_wp2_with fail
          refine P5.out.mono ?_
          rintro e w5 ⟨k5, (⟨hle5, rfl, rb5⟩ | ⟨hle5, rfl⟩)⟩
          case inr =>
            refine ⟨rfl, UPo.no (BB.out.1.trans (k5.below (by have := BB.out.2; omega) (fun k e => by omega))) (fun L hL => ?_) 3 (.inr (.inr rfl)) rfl⟩
            have := ((NQ.out L hL).2.2 k HT.out.2).2
            rw [← WD.out, ← MM.out] at this
            have hmul : (i + 1) * wd ≤ m * wd := Nat.mul_le_mul_right _ (by have := PE.out.2.2; omega)
            rw [Nat.succ_mul] at hmul
            have := PE.out.1
            omega
          have OL5 : Hid (w5.ownsRow (w.heap.size + 2) 2 1 (.slice va2 ti vc2) ti (ints (rlD D ti))) := row_kb OL.out k5 (fun g hg e => by have := (OL.out.lt g hg).1; omega)
          have BB5 : Hid (Below w.heap.size w w5 ∧ w.heap.size + 2 ≤ w5.heap.size) := ⟨BB.out.1.trans (k5.below (by have := BB.out.2; omega) (fun k e => by omega)), by have := BB.out.2; have := k5.size; omega⟩
          have R5 : Hid (RB w5 (w.heap.size + 1) a N cap D (p + wd)) := rb5
          have z5 := BB5.out.2
          clear k5 rb5 P5 OL BB SB
          go_wp2_with (at_builtin; refine wpList_append_own_at _ rfl _ _ 22 rfl (w.heap.size + 2) 2 tf (.int .i64 0) 1 8 Try.underlying22 hi hz0 hz1 hz2 rfl (by decide) _ _ _ rfl (OL5.out.alloc _) ⟨w5.heap.size, 0, none⟩ 1 1 [.int .i64 y] rfl rfl (cell_one_new _ _ _) (by intro u hu; simp at hu; subst hu; rfl) (by unfold maxLen; omega) (by omega) (by simp; omega) ?_)
          intro v6 w6 hown hgrow _ _
          have O6 : Hid (w6.ownsRow (w.heap.size + 2) 2 1 v6 (t + (i + 1)) (ints (rlD D (t + (i + 1))))) := (by
            show World.ownsRow _ _ _ _ _ _ _
            rw [show t + (i + 1) = ti + 1 by have := PE.out.2.1; omega, rlD_snoc, SN.out, ints_snoc]
            exact hown)
          have K6 : KB (fun g => w.heap.size + 2 ≤ g) w5 w6 := (KB.of_below ((Below.refl _ _).alloc (Nat.le_refl _) _)).trans (KB.of_grown hgrow (fun g e => (OL5.out.lt g e).1))
          have R6 : Hid (RB w6 (w.heap.size + 1) a N cap D (psk D k + 56 + (i + 1) * wd)) := (by
            show RB _ _ _ _ _ _ _
            have := ON.out w5 w6 _ R5.out K6
            rw [Nat.succ_mul, ← Nat.add_assoc, ← PE.out.1]
            exact this)
          have B6 : Hid (Below w.heap.size w w6 ∧ w.heap.size + 2 ≤ w6.heap.size) := ⟨BB5.out.1.trans (K6.below (by omega) (fun k e => by omega)), by have := K6.size; omega⟩
          have S6 : Hid (-(((t + (i + 1) : Nat) : Int) * 562949953421312) ≤ smD D (t + (i + 1)) ∧ smD D (t + (i + 1)) ≤ ((t + (i + 1) : Nat) : Int) * 562949953421312) := (by show _ ∧ _; rw [show t + (i + 1) = ti + 1 by have := PE.out.2.1; omega, SN.out]; exact S2.out)
          clear hown hgrow OL5 K6 R5 BB5
          go_wp2_with fail
          go_roundw
          case rel => exact ⟨i + 1, p + wd, by have := PE.out; omega, by go_num, by rw [Nat.succ_mul]; have := PE.out.1; omega, hle5, by rw [show t + (i + 1) = ti + 1 by have := PE.out.2.1; omega, SN.out], O6, R6, B6, S6⟩
          case measure => simp [intOf] <;> have := PE.out <;> omega
        · have ei : i = m := by omega
          have j1 : ¬ (i : Int) < (m : Int) := by omega
          have PE : Hid (p = psk D k + 56 + i * wd ∧ ti = t + i ∧ i = m) := ⟨hp', hti, ei⟩
          have mt : min (16 * (k + 1)) n = ti := by have := MM.out; have := HT.out; omega
          have O7 : Hid (wr.ownsRow (w.heap.size + 2) 2 1 (.slice va2 ti vc2) (min (16 * (k + 1)) n) (ints (rlD D (min (16 * (k + 1)) n)))) := (by show World.ownsRow _ _ _ _ _ _ _; rw [mt]; exact OL.out)
          have S7 : Hid (-(((min (16 * (k + 1)) n : Nat) : Int) * 562949953421312) ≤ smD D (min (16 * (k + 1)) n) ∧ smD D (min (16 * (k + 1)) n) ≤ ((min (16 * (k + 1)) n : Nat) : Int) * 562949953421312) := (by show _ ∧ _; rw [mt]; exact SB.out)
          have MT : Hid (min (16 * (k + 1)) n = ti) := mt
          have tlt : t < ti := by omega
          have tin : ti ≤ n := by omega
          clear hp' hti ei OL SB mt him
          go_wp2_with fail
          go_roundw
          case rel =>
            refine ⟨k + 1, p, by have := HT.out.2; omega, hpN, fun hk1 => ?_, by rw [MT.out], O7, RR, BB, S7⟩
            have e16 : m = 16 := by have := MM.out; unfold ng at hk1; omega
            rw [PE.out.1, PE.out.2.2, e16, psk, WD.out]
            rfl
          case measure => simp [slen]; omega
    · have emin : min (16 * k) n = n := by omega
      rw [emin] at OL SB ⊢
      obtain ⟨va, vc, ev⟩ := row_form OL.out
      subst ev
      obtain ⟨X, hX⟩ : ∃ X, X = rlD D n := ⟨_, rfl⟩
      have XL : X.length = n := by rw [hX, rlD_len]
      rw [← hX] at OL XQ
      have i2 : ¬ (n : Int) < (n : Int) := by omega
      have RX : Reads wo (.slice va n vc) X := reads_row (base := w.heap.size + 2) (by rw [XL]; exact OL.out)
      have HI : Hid (Calls Try.prog 32 #[.slice va n vc, .int .i64 1099511627776] wo fun e w' => e = .returned (.bool (sml 1099511627776 X)) ∧ w' = wo) := inum_any wo _ X 1099511627776 RX (by omega) (by omega) (by omega)
      have HX : Hid (X.length = n) := XL
      cases hs : sml 1099511627776 X
      · rw [hs] at HI
        have HS : Hid (sml 1099511627776 X = false) := hs
        clear hs XL hX RX SB emin RR
        go_wp2_with (go_at_call 32; refine HI.out.mono ?_; rintro e w' ⟨rfl, hw⟩; have hw' := hw.symm; subst hw')
        refine ⟨rfl, UPo.no BB.out.1 (fun L hL => ?_) 2 (.inr (.inl rfl)) rfl⟩
        have h1 := hL.1
        rw [XQ.out L hL, HS.out] at h1
        cases h1
      · rw [hs] at HI
        have hr : Rg X := rg_sml.1 hs
        have HS : Hid (sml 1099511627776 X = true) := hs
        have HP : Hid (Calls Try.prog 60 #[.agg #[], .slice va n vc] wo fun e w' => ∃ v', e = .returned v' ∧ w'.ownsRow wo.heap.size 5 1 v' (pk X).length (bys (pk X)) ∧ Below wo.heap.size wo w') := rpack_any wo _ X RX hr
        clear hs XL hX RX SB emin hr RR
        go_wp2_with (go_at_call 32; refine HI.out.mono ?_; rintro e w' ⟨rfl, hw⟩; have hw' := hw.symm; subst hw')
        refine HP.out.mono ?_
        rintro e w6 ⟨v6, rfl, o6, b6⟩
        have BB6 : Hid (Below w.heap.size w w6) := BB.out.1.trans (b6.mono (by have := BB.out.2; omega))
        have OL6 : Hid (w6.ownsRow w.heap.size 2 1 (.slice va n vc) X.length (ints X)) := (by
          show World.ownsRow _ _ _ _ _ _ _
          rw [HX.out]
          exact row_lift (row_kb OL.out (KB.of_below b6 (S := fun _ => False)) (fun _ _ h => h)) (by omega))
        have HE : Hid (Calls Try.prog 69 #[v6, .slice a N cap] w6 fun e w' => e = .returned (.bool (decide (pk X = D))) ∧ w' = w6) := iequal_any w6 v6 _ (pk X) D (Bytes.reads_row o6) (RA.out w6 BB6.out) (byt_by _ (pkB_01 _ _)) HD.out
        obtain ⟨r, hr⟩ : ∃ r, r = decide (pk X = D) := ⟨_, rfl⟩
        rw [← hr] at HE
        have HRr : Hid (r = decide (pk X = D)) := hr
        clear o6 b6 HP HI OL hr
        cases r
        · go_wp2_with fail
          refine HE.out.mono ?_
          rintro e w7 ⟨rfl, hw⟩
          have hw' := hw.symm
          subst hw'
          go_wp2_with fail
          refine ⟨rfl, UPo.no BB6.out (fun L hL => ?_) 2 (.inr (.inl rfl)) rfl⟩
          have h1 := hL.2
          rw [XQ.out L hL] at h1
          have := HRr.out
          simp [h1] at this
        · go_wp2_with fail
          refine HE.out.mono ?_
          rintro e w7 ⟨rfl, hw⟩
          have hw' := hw.symm
          subst hw'
          go_wp2_with fail
          go_ret
          exact ⟨BB6.out, .inl ⟨X, _, ⟨HS.out, by have := HRr.out; simpa using this.symm⟩, rfl, OL6.out⟩⟩
end Go.Proofs.Ytmopkbkdfipglaa.Lists
