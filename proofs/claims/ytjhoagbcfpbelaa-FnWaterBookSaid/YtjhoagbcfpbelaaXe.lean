/- A book drawn: the walk. -/
import Derived.Test.YtjhoagbcfpbelaaXd
namespace Go.Proofs.Ytjhoagbcfpbelaa.Xa
open Go.ChangeShapes Go.WideShapes Go.ChangeAt Go.RowKit
open Go.Proofs.Ytjhoagbcfpbelaa.Lists Go.Proofs.Ytjhoagbcfpbelaa.Gd Go.Proofs.Ytjhoagbcfpbelaa.Rd

def zbox : Obj := .cells #[.slice none 0 0, .int .i64 0, .int .i64 0] 26
theorem reads_turn {r : Nat} {w w' : World} {a : Option Addr} {n c : Nat} {L : List Int} (h : Lists.Reads w (.slice a n c) L) (hne : ∀ g o, a = some ⟨g, o, none⟩ → g ≠ r) (t : Turn r w w') : Lists.Reads w' (.slice a n c) L := by
  rcases h with h1 | ⟨b, o, cap, e, e1, e2, e3, e4⟩
  · exact .inl h1
  · cases e
    refine .inr ⟨b, o, _, rfl, e1, e2, Nat.lt_of_lt_of_le e3 t.size, fun i hi => ?_⟩
    rw [t.cell (o + i) e3 (hne b o rfl)]
    exact e4 i hi
theorem turn_then {r : Nat} {wr w5 W : World} (q : Turn r wr w5) (hb : Below wr.heap.size w5 W) (hr : r < wr.heap.size) : Turn r wr W :=
  ⟨q.bel.trans (hb.mono (by omega)), fun k h1 h2 => (hb.block k h2).trans (q.abv k h1 h2)⟩
theorem leafP {r : Nat} {w : World} {B : Nat} {v : Value} {m : Nat} {o z : Int} {wr w5 : World} {NB base : Nat} {u x y t : Value} {L : List Int} {o' z' : Int} (h : BK r w B v m o z wr) (hr : r < w.heap.size) (q : Turn r wr w5) (k : Rd.Rd r w5)
    (hbx : Bk.Box w5 NB x y t) (hrow : w5.ownsRow base 2 1 u L.length (ints L)) (h1 : NB < base) (h2 : wr.heap.size ≤ NB) (hl : L.length ≤ 600) :
    BK r w B v m o z (put3 w5 NB u (.int .i64 o') (.int .i64 z')) ∧ NX w B wr NB u L.length o' z' (put3 w5 NB u (.int .i64 o') (.int .i64 z')) := by
  have bb := put3_below (wx := w5) h2 u (.int .i64 o') (.int .i64 z')
  have lt := h.lt
  have A : AI w5 base u L.length := ⟨L, rfl, hrow⟩
  have lo := fun g e => (A.lt g e).1
  refine ⟨h.turn hr (k.kept bb h.kt.rd.lt) (turn_then q bb h.kt.rd.lt), ⟨put3_box hbx _ _ _, (A.out (put3_out _ _ _ _ _) (fun g e x => by have := lo g e; omega)).down (by omega), fun e => by have := lo _ e; omega, h2, hl⟩⟩
theorem leafN {r : Nat} {w : World} {B : Nat} {v : Value} {m : Nat} {o z : Int} {wr w5 : World} {base : Nat} {u : Value} {L : List Int} {o' z' : Int} (h : BK r w B v m o z wr) (hr : r < w.heap.size) (q : Turn r wr w5) (k : Rd.Rd r w5)
    (hrow : w5.ownsRow base 2 1 u L.length (ints L)) (h1 : wr.heap.size ≤ base) (hl : L.length ≤ 600) :
    BK r w B v m o z (w5.alloc (.cells #[u, .int .i64 o', .int .i64 z'] 26)) ∧ NX w B wr w5.heap.size u L.length o' z' (w5.alloc (.cells #[u, .int .i64 o', .int .i64 z'] 26)) := by
  have b0 : Below w5.heap.size w5 (w5.alloc (.cells #[u, .int .i64 o', .int .i64 z'] 26)) := (Below.refl _ _).alloc (Nat.le_refl _) _
  have bb := b0.mono q.size
  have lt := h.lt
  have A : AI w5 base u L.length := ⟨L, rfl, hrow⟩
  have lo := fun g e => (A.lt g e).1
  refine ⟨h.turn hr (k.kept bb h.kt.rd.lt) (turn_then q bb h.kt.rd.lt), ⟨(box_of (World.alloc_heap_new w5 _)).1, (A.on b0).down (by omega), fun e => by have := lo _ e; omega, q.size, hl⟩⟩
def BP (w : World) (e : Ending) (w' : World) : Prop := ∃ v m o z, e = .returned (Bk.sv o z v) ∧ AI w' (w.heap.size + 1) v m ∧ m ≤ 600
set_option maxRecDepth 20000 in
set_option maxHeartbeats 2000000 in
theorem book_draw (r : Nat) (w : World) (h : Rd.Rd r w) (N : List Int) (na : Option Addr) (nc : Nat) (hN : Lists.Reads w (.slice na N.length nc) N) (hne : ∀ g o, na = some ⟨g, o, none⟩ → g ≠ r) (ln : N.length ≤ 600) :
    Calls Try.prog 11 #[.pointer (some ⟨r, 0, none⟩), .slice na N.length nc] w fun e w' => BP w e w' ∧ Rd.Rd r w' ∧ Turn r w w' := by
  have hr := h.lt
  obtain ⟨i0, hi, hz0, hz1, hz2⟩ := info_parts Lists.Try.info2
  obtain ⟨w0, hw0⟩ : ∃ w0, w0 = w.alloc (.cells #[.slice none 0 0, .int .i64 0, .int .i64 0] 26) := ⟨_, rfl⟩
  have HW0 : Hid (w0 = w.alloc (.cells #[.slice none 0 0, .int .i64 0, .int .i64 0] 26)) := hw0
  have s0 : w0.heap.size = w.heap.size + 1 := by rw [hw0]; simp
  have K0 : KT r w w0 := by rw [hw0]; exact KT.up ⟨h, Turn.refl r w⟩ hr ((Below.refl _ _).alloc (Nat.le_refl _) _)
  have R0 : Bk.Box w0 w.heap.size (.slice none 0 0) (.int .i64 0) (.int .i64 0) ∧ ∀ j, w0.frozen? ⟨w.heap.size, j, none⟩ = false := box_of (by rw [hw0]; exact World.alloc_heap_new w _)
  have HN : Hid (Lists.Reads w (.slice na N.length nc) N) := hN
  have LN : Hid (N.length ≤ 600) := ln
  have HE : Hid (∀ g o, na = some ⟨g, o, none⟩ → g ≠ r) := hne
  clear hw0 hN hne
  generalize hnn : N.length = nn at *
  have HL : Hid (N.length = nn) := hnn
  clear hnn
  go_enter Try.func11, Try.ntmps11
  go_upto_region 1 with fail
  rw [← HW0.out]
  go_wp2_with (at_make; refine wpList_make_full _ rfl _ _ 24 rfl (w.heap.size + 1) 2 i0 (.int .i64 0) 1 Try.underlying24 hi hz0 hz1 .i64 .i64 (nn : Int) (nn : Int) nn rfl rfl rfl rfl (by rw [hz2]; omega) (by unfold maxLen; omega) (by omega) ?_; intro w1 hown hgrow)
  rw [Ct.zeros_made] at hown
  have A1 : AI w1 (w.heap.size + 1) (sl (w.heap.size + 1) nn nn) nn := ⟨Ct.zeros nn, Ct.zeros_len nn, by first | exact hown | (rw [s0] at hown; exact hown)⟩
  have G1 : Below w0.heap.size w0 w1 := (Below.refl _ _).grown hgrow (Nat.le_refl _) (fun k hk => by cases hk)
  have K1 : KT r w w1 := K0.below hr (G1.mono (by omega))
  have S1 := G1.size
  have S0 : Hid (BK r w w1.heap.size (sl (w.heap.size + 1) nn nn) nn 0 0 (w1.alloc (Obj.cells #[.slice (some ⟨w.heap.size + 1, 0, none⟩) nn nn, .int .i64 0, .int .i64 0] 26))) := (by
    have bb : Below w1.heap.size w1 (w1.alloc (Obj.cells #[.slice (some ⟨w.heap.size + 1, 0, none⟩) nn nn, .int .i64 0, .int .i64 0] 26)) := (Below.refl _ _).alloc (Nat.le_refl _) _
    have nw := box_of (World.alloc_heap_new w1 (Obj.cells #[.slice (some ⟨w.heap.size + 1, 0, none⟩) nn nn, .int .i64 0, .int .i64 0] 26))
    have e1 := (bb.block w.heap.size (by omega)).trans (G1.block w.heap.size (by omega))
    obtain ⟨⟨c0, c1, c2⟩, cf⟩ := R0
    refine ⟨K1.up hr bb, nw.1, nw.2, ⟨⟨_, _, _, (World.cell?_of_block e1).trans c0, (World.cell?_of_block e1).trans c1, (World.cell?_of_block e1).trans c2⟩, fun i => (World.frozen?_of_block e1).trans (cf i)⟩, A1.on bb, ?_, ⟨by omega, by simp⟩, ln⟩
    intro e
    simp [Value.ownBlock] at e
    have := (A1.lt (w.heap.size + 1) rfl).2
    omega)
  have NR : Hid (∀ X, KT r w X → Lists.Reads X (.slice na nn nc) N) := fun X K => reads_turn HN.out HE.out K.tn
  clear hown hgrow G1 K1 A1 S1 R0 K0 HW0 HN HE
  go_wp2_with fail
  refine (below_any r _ S0.out.kt.rd 4 (by omega) (by omega)).mono ?_
  rintro e w2 ⟨⟨u, ⟨hu1, hu2⟩, rfl⟩, k2, t2⟩
  have S2 : Hid (BK r w w1.heap.size (sl (w.heap.size + 1) nn nn) nn 0 0 w2) := S0.out.turn hr k2 t2
  clear S0 k2 t2
  obtain ⟨P, rfl⟩ : ∃ P : Nat, u = (P : Int) := ⟨u.toNat, by omega⟩
  generalize w1.heap.size = B at *
  go_wp2_with fail
  go_loopw [7] (fun i wr => ∃ (k : Nat) (v : Value) (m : Nat) (o z : Int), k ≤ P ∧ i = .int .i64 k ∧ Hid (BK r w B v m o z wr)) (fun i _ => P - (intOf i).toNat)
  case atStart => exact ⟨0, _, _, _, _, Nat.zero_le _, rfl, S2⟩
  case round =>
    clear S2
    obtain ⟨k, v, m, o, z, hk, rfl, S⟩ := hrel
    obtain ⟨b0, b1, b2⟩ := id S.out.bx
    obtain ⟨va, vc, rfl⟩ := S.out.ai.form
    by_cases hlt : k < P
    · have j1 : (k : Int) < (P : Int) := by omega
      obtain ⟨ob, hob⟩ : ∃ ob : Obj, ob = .cells #[.slice none 0 0, .int .i64 0, .int .i64 0] 26 := ⟨_, rfl⟩
      have hrr : r < wr.heap.size := S.out.kt.rd.lt
      have KW : Hid (∀ X, Turn r wr X → Rd.Rd r X → Bk.Box X B (.slice va m vc) (.int .i64 o) (.int .i64 z)) := fun X t kx => (S.out.turn hr kx t).bx
      have RX : Hid (∀ X, Below wr.heap.size wr X → Rd.Rd r X) := fun X hb => S.out.kt.rd.kept hb hrr
      have TX : Hid (∀ X, Below wr.heap.size wr X → Turn r wr X) := fun X hb => Turn.of hb (Nat.le_refl _) (Nat.le_of_lt hrr)
      obtain ⟨WL, wl, wrd⟩ : ∃ L : List Int, L.length = m ∧ ∀ X, Turn r wr X → Rd.Rd r X → Lists.Reads X (.slice va m vc) L := by
        obtain ⟨L, hl, hrw⟩ := S.out.ai
        refine ⟨L, hl, fun X t kx => ?_⟩
        have oo := (Dr.turn_out t).row hrw (fun g e x => by have := (S.out.ai.lt g e).1; omega)
        subst hl
        exact Lists.reads_row oo
      have WR : Hid (∀ X, Turn r wr X → Rd.Rd r X → Lists.Reads X (.slice va m vc) WL) := wrd
      clear wrd
      have lB := S.out.lt
      have nb0 : ¬ B = wr.heap.size := by omega
      have nb0' : ¬ wr.heap.size = B := by omega
      go_upto_region 6 with fail
      go_cut [8, 9] (fun p q wx => ∃ (nb : Nat) (st : Bool) (v5 : Value) (m5 : Nat) (o5 z5 : Int), p = .pointer (some ⟨nb, 0, none⟩) ∧ q = .bool st ∧ Hid (BK r w B (.slice va m vc) m o z wx) ∧ Hid (NX w B wr nb v5 m5 o5 z5 wx))
      case first =>
        go_region_held3 (fun w' => w'.cell? ⟨B, 0, none⟩ = some (.slice va m vc) ∧ w'.cell? ⟨B, 1, none⟩ = some (.int .i64 o) ∧ w'.cell? ⟨B, 2, none⟩ = some (.int .i64 z)) (go_keep)
          (first
            | (go_at_call 12; refine (rain_any r _ (RX.out _ (by first | exact (Below.refl _ _).drew | exact ((Below.refl _ _).alloc (Nat.le_refl _) _).drew)) na nn nc (by omega)).mono ?_; rintro e w4 ⟨⟨v4, rfl, A4⟩, k4, t4⟩; have P1 : Turn r wr w4 := (by first | exact (TX.out _ (Below.refl _ _).drew).trans t4 | exact (TX.out _ ((Below.refl _ _).alloc (Nat.le_refl _) _).drew).trans t4); obtain ⟨k40, k41, k42⟩ := KW.out w4 P1 k4; obtain ⟨R4, l4, h4⟩ := A4.reads; have Z1 := P1.size; have nb1 : ¬ B = w4.heap.size := (by omega); have nb1' : ¬ w4.heap.size = B := (by omega); (try (have tt := bl_turnd hrr t4; have s10 := tt)))
            | (go_at_call 6; refine (Fs.sflow_any N WL R4 o z _ _ _ _ (by first | exact NR.out _ (S.out.kt.call k4 P1) | exact (NR.out _ (S.out.kt.call k4 P1)).on ((Below.refl _ _).alloc (Nat.le_refl _) _)) (by first | exact WR.out _ P1 k4 | exact (WR.out _ P1 k4).on ((Below.refl _ _).alloc (Nat.le_refl _) _)) (by first | exact h4 | exact h4.on ((Below.refl _ _).alloc (Nat.le_refl _) _)) (by have := HL.out; omega)).mono ?_; rintro e w5 ⟨u, rfl, hrow, hb5⟩; obtain ⟨ua, uc, hu⟩ := Gd.row_form hrow; subst hu; have P2 : Below w4.heap.size w4 w5 := (by first | exact hb5 | exact ((Below.refl _ _).alloc (Nat.le_refl _) _).trans (hb5.mono (by simp))); have Q2 : Turn r wr w5 := P1.trans (Turn.of P2 (Nat.le_refl _) (Nat.le_of_lt k4.lt)); have k5 : Rd.Rd r w5 := k4.kept P2 k4.lt; obtain ⟨k50, k51, k52⟩ := KW.out w5 Q2 k5; have Z2 := Q2.size; have nb2 : ¬ B = w5.heap.size := (by omega); have nb2' : ¬ w5.heap.size = B := (by omega); (try (have tt := box_of ((P2.block wr.heap.size s10.2).trans s10.1); have s20 := tt; obtain ⟨⟨r0, r1, r2⟩, rf⟩ := tt; have f0 := rf 0; have f1 := rf 1; have f2 := rf 2; clear rf)); (try (have tt := box_of (bl_new hb5).1; have s21 := tt; obtain ⟨⟨r0, r1, r2⟩, rf⟩ := tt; have f0 := rf 0; have f1 := rf 1; have f2 := rf 2; clear rf))))
        all_goals
          go_wp2_with fail
          go_meet
          have al := anL_len N WL R4 o z (by have := HL.out; omega)
          first
            | (obtain ⟨p1, p2⟩ := leafN (o' := Fs.anO N WL R4 o z) (z' := Fs.anR N WL R4 o z) S.out hr Q2 k5 hrow (by first | omega | (simp <;> omega)) al; exact ⟨_, _, _, _, _, _, rfl, rfl, p1, p2⟩)
            | (obtain ⟨p1, p2⟩ := leafP (o' := Fs.anO N WL R4 o z) (z' := Fs.anR N WL R4 o z) S.out hr Q2 k5 s20.1 hrow (by first | omega | (simp <;> omega)) (by first | omega | (simp <;> omega)) al; exact ⟨_, _, _, _, _, _, rfl, rfl, p1, p2⟩)
            | (obtain ⟨p1, p2⟩ := leafP (o' := Fs.anO N WL R4 o z) (z' := Fs.anR N WL R4 o z) S.out hr Q2 k5 s21.1 hrow (by first | omega | (simp <;> omega)) (by first | omega | (simp <;> omega)) al; exact ⟨_, _, _, _, _, _, rfl, rfl, p1, p2⟩)
      case rest =>
        obtain ⟨nb, st, v5, m5, o5, z5, rfl, rfl, S5, X5⟩ := hcut
        clear KW RX TX WR b0 b1 b2 nb0 nb0' lB S
        obtain ⟨wd, hwd⟩ : ∃ q : World, q = wc := ⟨_, rfl⟩
        subst hwd
        cases st
        · go_wp2_with fail
          go_roundw
          case rel => exact ⟨k + 1, _, _, _, _, by omega, by go_num, S5⟩
          case measure => simp [intOf]; omega
        · obtain ⟨va5, vc5, rfl⟩ := X5.out.ai.form
          obtain ⟨c0, c1, c2⟩ := id X5.out.bx
          obtain ⟨b0, b1, b2⟩ := id S5.out.bx
          have f0 := S5.out.fz 0
          have f1 := S5.out.fz 1
          have f2 := S5.out.fz 2
          have S6 : Hid (BK r w B (.slice va5 m5 vc5) m5 o5 z5 (put3 wd B (.slice va5 m5 vc5) (.int .i64 o5) (.int .i64 z5))) := S5.out.put hr X5.out.ai X5.out.ne X5.out.m6
          go_wp2_with fail
          go_roundw
          case rel => exact ⟨k + 1, _, _, _, _, by omega, by go_num, S6⟩
          case measure => simp [intOf]; omega
    · have hkn : P = k := by omega
      subst hkn
      have jj : ¬ (P : Int) < (P : Int) := by omega
      obtain ⟨⟨u0, u1, u2, c0, c1, c2⟩, cf⟩ := S.out.rc
      have f0 := cf 0
      have f1 := cf 1
      have f2 := cf 2
      have lB := S.out.lt.1
      have nB : ¬ B = w.heap.size := by omega
      have nB' : ¬ w.heap.size = B := by omega
      go_wp2_with fail
      have rr : AI (put3 wr w.heap.size (.slice va m vc) (.int .i64 o) (.int .i64 z)) (w.heap.size + 1) (.slice va m vc) m := S.out.ai.out (put3_out _ _ _ _ _) (fun g e x => by have := (S.out.ai.lt g e).1; omega)
      have kk : KT r w (put3 wr w.heap.size (.slice va m vc) (.int .i64 o) (.int .i64 z)) := S.out.kt.below hr (put3_below (Nat.le_refl _) _ _ _)
      exact bodyPost_ret (v := Bk.sv o z (.slice va m vc)) (by simp [results, Try.results11, go_sem, c0, c1, c2]) rfl ⟨⟨_, m, o, z, rfl, rr, S.out.m6⟩, kk.rd, kk.tn⟩
end Go.Proofs.Ytjhoagbcfpbelaa.Xa
