/- What is drawn: a list of ways, rain. -/
import Derived.Test.YtjhoagbcfpbelaaXb
import Derived.Test.YtjhoagbcfpbelaaRdJ
namespace Go.Proofs.Ytjhoagbcfpbelaa.Xa
open Go.ChangeShapes Go.WideShapes Go.ChangeAt Go.RowKit
open Go.Proofs.Ytjhoagbcfpbelaa.Lists Go.Proofs.Ytjhoagbcfpbelaa.Gd Go.Proofs.Ytjhoagbcfpbelaa.Rd

structure KT (r : Nat) (w wr : World) : Prop where
  rd : Rd.Rd r wr
  tn : Turn r w wr
theorem KT.call {r : Nat} {w wr w2 : World} (h : KT r w wr) (k : Rd.Rd r w2) (t : Turn r wr w2) : KT r w w2 := ⟨k, h.tn.trans t⟩
theorem KT.below {r : Nat} {w wr w2 : World} (h : KT r w wr) (hr : r < w.heap.size) (hb : Below w.heap.size wr w2) : KT r w w2 :=
  ⟨h.rd.kept hb hr, h.tn.bel.trans (hb.mono (by omega)), fun k h1 h2 => (hb.block k h2).trans (h.tn.abv k h1 h2)⟩
theorem KT.up {r : Nat} {w wr w2 : World} (h : KT r w wr) (hr : r < w.heap.size) (hb : Below wr.heap.size wr w2) : KT r w w2 := h.below hr (hb.mono h.tn.size)
theorem AI.turn {r b n : Nat} {w wr : World} {v : Value} (h : AI w b v n) (hr : r < b) (t : Turn r w wr) : AI wr b v n :=
  h.out (Dr.turn_out t) (fun g hg e => by have := (h.lt g hg).1; omega)
theorem AI.cut0 {w : World} {b n c : Nat} {a : Option Addr} (h : AI w b (.slice a n c) n) : AI w b (.slice a 0 c) 0 := by
  obtain ⟨L, hl, hr⟩ := h
  refine ⟨[], rfl, rfl, ?_⟩
  rcases hr.2 with ⟨e, h0⟩ | ⟨g, cap, cur, e, h1, h2, h3, h4, h5, h6⟩
  · cases e; exact .inl ⟨rfl, rfl⟩
  · cases e; exact .inr ⟨g, _, cur, rfl, h1, h2, Nat.zero_le _, h4, h5, by simp [ints]⟩
theorem AI.app {w5 : World} {b n : Nat} {v' : Value} {L : List Int} {u : Int} (hL : L.length = n) (hrow : w5.ownsRow b 2 1 v' (n + 1) (ints L ++ [.int .i64 u])) : AI w5 b v' (n + 1) := ⟨L ++ [u], by simp [hL], by simpa [ints] using hrow⟩
theorem app_below {wr w5 : World} {b n : Nat} {v : Value} {o : Obj} (h : AI wr b v n) (hb : b ≤ wr.heap.size) (hg : (wr.alloc o).grownBy w5 v.ownBlock) : Below b wr w5 :=
  ((Below.refl _ wr).alloc hb _).grown hg (by simp; omega) (fun g e => (h.lt g e).1)

set_option maxRecDepth 20000 in
set_option maxHeartbeats 1000000 in
theorem rain_any (r : Nat) (w : World) (h : Rd.Rd r w) (na : Option Addr) (n nc : Nat) (hn : n ≤ 1000) :
    Calls Try.prog 12 #[.pointer (some ⟨r, 0, none⟩), .slice na n nc] w fun e w' => (∃ v, e = .returned v ∧ AI w' w.heap.size v n) ∧ Rd.Rd r w' ∧ Turn r w w' := by
  have hr := h.lt
  have K0 : Hid (KT r w (w.alloc (.cells #[] 2))) := KT.up ⟨h, Turn.refl r w⟩ hr ((Below.refl _ _).alloc (Nat.le_refl _) _)
  have A0 : Hid (AI (w.alloc (.cells #[] 2)) w.heap.size (sl w.heap.size 0 0) 0) := AI.lit w _ (Nat.le_refl _)
  obtain ⟨i0, hi, hz0, hz1, hz2⟩ := info_parts Lists.Try.info2
  go_enter Try.func12, Try.ntmps12
  go_wp2_with fail
  go_loopw [5, 6] (fun x i wr => ∃ k : Nat, k ≤ n ∧ i = .int .i64 k ∧ Hid (KT r w wr) ∧ Hid (AI wr w.heap.size x k)) (fun _ i _ => n - (intOf i).toNat)
  case atStart => exact ⟨0, Nat.zero_le _, rfl, K0, A0⟩
  case round =>
    clear K0 A0
    obtain ⟨k, hk, rfl, K, A⟩ := hrel
    obtain ⟨xa, xc, rfl⟩ := A.out.form
    by_cases hlt : k < n
    · have j1 : (k : Int) < (n : Int) := by omega
      go_wp2_with fail
      refine (below_any r _ K.out.rd 30 (by omega) (by omega)).mono ?_
      rintro e w1 ⟨⟨u, hu, rfl⟩, k1, t1⟩
      have K1 : Hid (KT r w w1) := K.out.call k1 t1
      have A1 : Hid (AI w1 w.heap.size (.slice xa k xc) k) := A.out.turn hr t1
      have sz := K1.out.tn.size
      clear K A k1 t1
      obtain ⟨XL, xl, xr⟩ := A1.out
      go_wp2_with (at_builtin; refine wpList_append_own_at _ rfl _ _ 24 rfl w.heap.size 2 i0 (.int .i64 0) 1 8 Try.underlying24 hi hz0 hz1 hz2 rfl (by decide) _ _ _ rfl (xr.alloc _) ⟨w1.heap.size, 0, none⟩ 1 1 [.int .i64 u] rfl rfl (cell_one_new w1 (.int .i64 u) 2) (one_int _) (by unfold maxLen; omega) (by omega) (by simp; omega) ?_)
      intro x' w5 hown hgrow _ hat
      have K2 : Hid (KT r w w5) := K1.out.below hr (app_below A1.out sz hgrow)
      have A2 : Hid (AI w5 w.heap.size x' (k + 1)) := AI.app xl hown
      clear K1 A1 hown hgrow hat xr xl
      go_wp2_with fail
      go_roundw
      case rel => exact ⟨k + 1, by omega, by go_num, K2, A2⟩
      case measure => simp [intOf]; omega
    · have hkn : n = k := by omega
      subst hkn
      have jj : ¬ (n : Int) < (n : Int) := by omega
      go_wp2_with fail
      exact bodyPost_ret (v := .slice xa n xc) (by simp [results, Try.results12, go_sem]) rfl ⟨⟨_, rfl, A.out⟩, K.out.rd, K.out.tn⟩

set_option maxRecDepth 20000 in
set_option maxHeartbeats 1000000 in
theorem next_draw (r : Nat) (w : World) (h : Rd.Rd r w) :
    Calls Try.prog 10 #[.pointer (some ⟨r, 0, none⟩)] w fun e w' => (∃ v n, e = .returned v ∧ AI w' w.heap.size v n ∧ n ≤ 600) ∧ Rd.Rd r w' ∧ Turn r w w' := by
  have hr := h.lt
  go_enter Try.func10, Try.ntmps10
  go_wp2_with fail
  refine (Dr.box_any r w h).mono ?_
  rintro e w1 ⟨⟨a, b, v, L, rfl, ha, hb, hl, hrow⟩, k1, t1⟩
  obtain ⟨P, hP, p1, p2⟩ := Dr.mul90 ha hb
  have HL : Hid (Lists.Reads w1 v L) := Lists.reads_row hrow
  have K1 : Hid (KT r w w1) := ⟨k1, t1⟩
  have HP : Hid (L.length < 9223372036854775808) := (by show _ < _; omega)
  clear hrow k1 t1 hl hP ha hb
  go_wp2_with fail
  refine (drain_any a b v L w1 HL.out HP.out).mono ?_
  rintro e w2 ⟨v1, v2, m, rfl, hA, hm, hb⟩
  have K2 : Hid (KT r w w2) := K1.out.up hr hb
  have A2 : Hid (AI w2 w.heap.size v2 m) := hA.down K1.out.tn.size
  clear hA hb K1 HL HP
  obtain ⟨na, nc, rfl⟩ := A2.out.form
  go_upto_region 2 with fail
  go_cut [19] (fun x wx => ∃ q : Bool, x = .bool q ∧ (q = true → 0 < m) ∧ Hid (KT r w wx) ∧ Hid (AI wx w.heap.size (.slice na m nc) m))
  case first =>
    by_cases hq : 0 < m
    · have hq1 : (0 : Int) < (m : Int) := by omega
      go_wp2_with fail
      refine (once_any r _ K2.out.rd 6 (by omega) (by omega)).mono ?_
      rintro e w4 ⟨⟨u, rfl⟩, k3, t3⟩
      have K3 : Hid (KT r w w4) := K2.out.call k3 t3
      have A3 : Hid (AI w4 w.heap.size (.slice na m nc) m) := A2.out.turn hr t3
      go_wp2_with fail
      go_meet
      exact ⟨_, rfl, fun _ => hq, K3, A3⟩
    · have hq1 : ¬ (0 : Int) < (m : Int) := by omega
      go_wp2_with fail
      go_meet
      exact ⟨false, rfl, fun x => (by cases x), K2, A2⟩
  case rest =>
    clear K2 A2
    obtain ⟨q, rfl, hq, K3, A3⟩ := hcut
    obtain ⟨wd, hwd⟩ : ∃ q : World, q = wc := ⟨_, rfl⟩
    subst hwd
    go_upto_if 19 with fail
    go_cut [] (fun wx => Hid (KT r w wx) ∧ Hid (AI wx w.heap.size (.slice na m nc) m))
    case first =>
      cases q
      · go_wp2_with fail
        go_meet
        exact ⟨K3, A3⟩
      · have h0 := hq rfl
        obtain ⟨g, cg, eg, lg, _⟩ := A3.out.at h0
        cases eg
        go_wp2_with fail
        refine (below_all r _ K3.out.rd m (by omega) (by omega)).mono ?_
        rintro e w4 ⟨⟨u, ⟨hu1, hu2⟩, rfl⟩, k4, t4⟩
        have K4 : Hid (KT r w w4) := K3.out.call k4 t4
        have A4 : Hid (AI w4 w.heap.size (.slice (some ⟨g, 0, none⟩) m nc) m) := A3.out.turn hr t4
        clear K3 A3 k4 t4
        have e2 : IntKind.i64.wrap ((m : Int) + 2) = ((m + 2 : Nat) : Int) := by rw [IntWalk.i64_in _ (by omega)]; simp
        go_wp2_with fail
        refine (below_all r _ K4.out.rd (m + 2) (by omega) (by omega)).mono ?_
        rintro e w5 ⟨⟨z, ⟨hz1, hz2⟩, rfl⟩, k5, t5⟩
        have K5 : Hid (KT r w w5) := K4.out.call k5 t5
        have A5 : Hid (AI w5 w.heap.size (.slice (some ⟨g, 0, none⟩) m nc) m) := A4.out.turn hr t5
        clear K4 A4 k5 t5 e2
        obtain ⟨y, rfl⟩ : ∃ y : Nat, u = (y : Int) := ⟨u.toNat, by omega⟩
        have hy : y < m := by omega
        obtain ⟨x1, c1, f1⟩ := A5.out.get y hy
        have K6 : Hid (∀ z : Int, KT r w (w5.setCell ⟨g, y, none⟩ (.int .i64 z))) := fun z => K5.out.below hr ((Below.refl _ _).setCell (p := ⟨g, y, none⟩) lg _)
        have A6 : Hid (∀ z : Int, AI (w5.setCell ⟨g, y, none⟩ (.int .i64 z)) w.heap.size (.slice (some ⟨g, 0, none⟩) m nc) m) := fun z => A5.out.put g y z
        clear K5 A5
        go_wp2_with fail
        go_meet
        exact ⟨K6.out _, A6.out _⟩
    case rest =>
      clear K3 A3 hq
      obtain ⟨K3, A3⟩ := hcut
      obtain ⟨we, hwe⟩ : ∃ q : World, q = wc := ⟨_, rfl⟩
      subst hwe
      go_wp2_with fail
      refine (once_any r _ K3.out.rd 40 (by omega) (by omega)).mono ?_
      rintro e w4 ⟨⟨u, rfl⟩, k4, t4⟩
      have K4 : Hid (KT r w w4) := K3.out.call k4 t4
      have A4 : Hid (AI w4 w.heap.size (.slice na m nc) m) := A3.out.turn hr t4
      clear K3 A3 k4 t4
      cases u
      · go_wp2_with fail
        exact bodyPost_ret (v := .slice na m nc) (by simp [results, Try.results10, go_sem]) rfl ⟨⟨_, m, rfl, A4.out, by omega⟩, K4.out.rd, K4.out.tn⟩
      · go_wp2_with fail
        refine (below_any r _ K4.out.rd 2 (by omega) (by omega)).mono ?_
        rintro e w5 ⟨⟨z, ⟨hz1, hz2⟩, rfl⟩, k5, t5⟩
        have K5 : Hid (KT r w w5) := K4.out.call k5 t5
        have A5 : Hid (AI w5 w.heap.size (.slice na m nc) m) := A4.out.turn hr t5
        clear K4 A4 k5 t5
        obtain ⟨i0, hi, hzz0, hzz1, hzz2⟩ := info_parts Lists.Try.info2
        have A6 : Hid (AI w5 w.heap.size (.slice na 0 nc) 0) := A5.out.cut0
        obtain ⟨P, hP⟩ : ∃ P : Nat, 576 + z = (P : Int) := ⟨(576 + z).toNat, by omega⟩
        have e1 : IntKind.i64.wrap (576 + z) = (P : Int) := by rw [hP]; exact IntWalk.i64_in _ (by omega)
        have P6 : P ≤ 600 := by omega
        have CP : m ≤ nc := by
          obtain ⟨L5, l5, r5⟩ := A5.out
          rcases r5.2 with ⟨e, h0⟩ | ⟨g, cap, cur, e, _, _, h3, _⟩
          · cases e; omega
          · cases e; exact h3
        go_wp2_with fail
        go_loopw [4, 6] (fun x i wr => ∃ k : Nat, k ≤ P ∧ i = .int .i64 k ∧ Hid (KT r w wr) ∧ Hid (AI wr w.heap.size x k)) (fun _ i _ => P - (intOf i).toNat)
        case atStart => exact ⟨0, Nat.zero_le _, rfl, K5, A6⟩
        case round =>
          clear K5 A6 A5
          obtain ⟨k, hk, rfl, K, A⟩ := hrel
          obtain ⟨xa, xc, rfl⟩ := A.out.form
          by_cases hlt : k < P
          · have j1 : (k : Int) < (P : Int) := by omega
            have sz := K.out.tn.size
            have e2 : IntKind.i64.wrap ((k : Int) - 1) = (k : Int) - 1 := IntWalk.i64_in _ (by omega)
            obtain ⟨XL, xl, xr⟩ := A.out
            go_wp2_with (at_builtin; refine wpList_append_own_at _ rfl _ _ 24 rfl w.heap.size 2 i0 (.int .i64 0) 1 8 Try.underlying24 hi hzz0 hzz1 hzz2 rfl (by decide) _ _ _ rfl (xr.alloc _) ⟨wr.heap.size, 0, none⟩ 1 1 [.int .i64 ((k : Int) - 1)] rfl rfl (cell_one_new wr (.int .i64 ((k : Int) - 1)) 2) (one_int _) (by unfold maxLen; omega) (by omega) (by simp; omega) ?_)
            intro x' w7 hown hgrow _ hat
            have K2 : Hid (KT r w w7) := K.out.below hr (app_below A.out sz hgrow)
            have A2 : Hid (AI w7 w.heap.size x' (k + 1)) := AI.app xl hown
            clear K A hown hgrow hat xr xl
            go_wp2_with fail
            go_roundw
            case rel => exact ⟨k + 1, by omega, by go_num, K2, A2⟩
            case measure => simp [intOf]; omega
          · have hkn : P = k := by omega
            subst hkn
            have jj : ¬ (P : Int) < (P : Int) := by omega
            go_wp2_with fail
            exact bodyPost_ret (v := .slice xa P xc) (by simp [results, Try.results10, go_sem]) rfl ⟨⟨_, rfl, P, A.out, P6⟩, K.out.rd, K.out.tn⟩
end Go.Proofs.Ytjhoagbcfpbelaa.Xa
