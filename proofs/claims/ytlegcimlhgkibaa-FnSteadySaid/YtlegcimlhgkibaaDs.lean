/- Series and limits drawn of a code. -/
import Derived.Test.YtlegcimlhgkibaaDd
import Derived.Maps.AppendAt
import Derived.Deep.AppendLies
import Derived.Deep.RegionLaw
import Derived.Deep.RegionHeldLaw
import Derived.Deep.DeepCutAuto
import Derived.Deep.CutBlock
import Derived.OneCell
namespace Go.Proofs.Ytlegcimlhgkibaa.Dc
open Go.ChangeShapes Go.WideShapes Go.ChangeAt Go.RowKit
open Go.Proofs.Ytlegcimlhgkibaa.Lists Go.Proofs.Ytlegcimlhgkibaa.Al Go.Proofs.Ytlegcimlhgkibaa.Rd Go.Proofs.Ytlegcimlhgkibaa.Se

set_option maxHeartbeats 1000000 in
theorem size40 (r : Nat) (w : World) (h : Rd r w) : Calls Try.prog 9 #[.pointer (some ⟨r, 0, none⟩), .int .i64 3, .int .i64 40] w (Drawn r w fun u => 1 ≤ u ∧ u ≤ 40) := by
  have hh := h
  obtain ⟨a, n, cap, p, h1, h2, h3, h4, h5, h6, h7⟩ := hh
  have H : Hid (Rd r w) := h
  clear h h7
  obtain ⟨q, hq⟩ : ∃ q : Nat, q = n / 3 := ⟨_, rfl⟩
  have e1 : (n : Int).tdiv 3 = (q : Int) := by rw [Int.tdiv_eq_ediv_of_nonneg (by omega)]; omega
  have bq : q ≤ 400000 := by omega
  clear hq
  by_cases g : (40 : Int) < 1 + (q : Int)
  · go_enter Try.func9, Try.ntmps9
    go_wp2_with fail
    refine (below_all r _ H.out 40 (by omega) (by omega)).mono ?_
    rintro e w1 ⟨⟨u, ⟨hu1, hu2⟩, rfl⟩, k1, k2⟩
    have K : Hid (Rd r w1 ∧ Turn r w w1) := ⟨k1, k2⟩
    clear k1 k2
    go_wp2_with fail
    go_ret
    exact ⟨⟨1 + u, by omega, rfl⟩, K.out.1, K.out.2⟩
  · have C : Hid (Calls Try.prog 10 #[.pointer (some ⟨r, 0, none⟩), .int .i64 (1 + (q : Int))] w (Drawn r w fun u => 0 ≤ u ∧ u < 1 + (q : Int))) := (by
      have := below_all r w H.out (1 + q) (by omega) (by omega)
      rw [Int.natCast_add] at this
      exact this)
    go_enter Try.func9, Try.ntmps9
    go_wp2_with fail
    refine C.out.mono ?_
    rintro e w1 ⟨⟨u, ⟨hu1, hu2⟩, rfl⟩, k1, k2⟩
    have K : Hid (Rd r w1 ∧ Turn r w w1) := ⟨k1, k2⟩
    clear k1 k2
    go_wp2_with fail
    go_ret
    exact ⟨⟨1 + u, by omega, rfl⟩, K.out.1, K.out.2⟩

theorem pick3 (z : Int) (h0 : 0 ≤ z) (h1 : z < 3) : ∃ q, ∀ W : World, (W.alloc (Obj.cells #[.int .i64 0, .int .i64 100, .int .i64 101] 2)).cell? ⟨W.heap.size, z.toNat, none⟩ = some (.int .i64 q) := by
  have : z = 0 ∨ z = 1 ∨ z = 2 := by omega
  rcases this with rfl | rfl | rfl
  · exact ⟨0, fun W => by simp [go_sem]⟩
  · exact ⟨100, fun W => by simp [go_sem]⟩
  · exact ⟨101, fun W => by simp [go_sem]⟩
def ten (p : Nat) : List Int := [10, 20, 30, 40].take p
theorem ten_len (p : Nat) (h : p ≤ 4) : (ten p).length = p := by simp [ten]; omega
theorem ten_get (i : Nat) (h : i < 4) : ∃ x : Int, 10 ≤ x ∧ x ≤ 40 ∧ ∀ p, i < p → (ten p).getD i 0 = x := by
  have : i = 0 ∨ i = 1 ∨ i = 2 ∨ i = 3 := by omega
  rcases this with rfl | rfl | rfl | rfl
  · exact ⟨10, by omega, by omega, fun p hp => by simp [ten, List.getD_eq_getElem?_getD, hp]⟩
  · exact ⟨20, by omega, by omega, fun p hp => by simp [ten, List.getD_eq_getElem?_getD, hp]⟩
  · exact ⟨30, by omega, by omega, fun p hp => by simp [ten, List.getD_eq_getElem?_getD, hp]⟩
  · exact ⟨40, by omega, by omega, fun p hp => by simp [ten, List.getD_eq_getElem?_getD, hp]⟩
/-- the first p of the four -/
theorem row_ten {W : World} {B : Nat} (hb : B ≤ W.heap.size) (p : Nat) (hp : p ≤ 4) : (W.alloc (Obj.cells #[.int .i64 10, .int .i64 20, .int .i64 30, .int .i64 40] 2)).ownsRow B 2 1 (.slice (some ⟨W.heap.size, 0, none⟩) p 4) p (ints (ten p)) := by
  refine ⟨by simp [ten]; omega, .inr ⟨W.heap.size, 4, #[.int .i64 10, .int .i64 20, .int .i64 30, .int .i64 40], rfl, hb, heap_alloc_new W _, hp, by decide, by simp, ?_⟩⟩
  simp [ten, ints, List.map_take]
theorem row_off {w w' : World} {base n : Nat} {row : Option Nat} {v : Value} {xs : List Value} (h : w.ownsRow base 2 1 v n xs) (hg : w.grownBy w' row) (hne : ∀ k j, v.ownBlock = some k → row = some j → k ≠ j) : w'.ownsRow base 2 1 v n xs := by
  refine h.kept hg ?_
  cases e : v.ownBlock with
  | none => exact Or.inl rfl
  | some k => exact Or.inr fun x => hne k k e x.symm rfl
/-- what the draw keeps behind the series -/
structure DL (r : Nat) (W wx : World) (p : Nat) (vB : Value) (k : Nat) (Bl : List Int) : Prop where
  on : wx.ownsRow W.heap.size 2 1 (.slice (some ⟨W.heap.size, 0, none⟩) p 4) p (ints (ten p))
  lb : Bl.length = k
  ob : wx.ownsRow (W.heap.size + 1) 2 1 vB k (ints Bl)
  rd : Rd r wx
  tn : Turn r W wx
theorem DL.sz {r : Nat} {W wx : World} {p : Nat} {vB : Value} {k : Nat} {Bl : List Int} (h : DL r W wx p vB k Bl) : W.heap.size < wx.heap.size := (h.on.lt W.heap.size rfl).2
theorem DL.turn {r : Nat} {W wx w' : World} {p : Nat} {vB : Value} {k : Nat} {Bl : List Int} (h : DL r W wx p vB k Bl) (hr : r < W.heap.size) (t : Turn r wx w') (k' : Rd r w') : DL r W w' p vB k Bl :=
  ⟨row_turn h.on t hr, h.lb, row_turn h.ob t (by omega), k', h.tn.trans t⟩
theorem DL.alloc {r : Nat} {W wx : World} {p : Nat} {vB : Value} {k : Nat} {Bl : List Int} (h : DL r W wx p vB k Bl) (hr : r < W.heap.size) (o : Obj) : DL r W (wx.alloc o) p vB k Bl :=
  ⟨h.on.alloc _, h.lb, h.ob.alloc _, h.rd.kept ((Below.refl (r + 1) wx).alloc (by have := h.sz; omega) _) (by omega), h.tn.alloc (by have := h.sz; omega) _⟩
theorem DL.push {r : Nat} {W wx w' : World} {p : Nat} {vB vB' : Value} {k : Nat} {Bl : List Int} {x : Int} (h : DL r W wx p vB k Bl) (hr : r < W.heap.size) (hg : wx.grownBy w' vB.ownBlock) (ho : w'.ownsRow (W.heap.size + 1) 2 1 vB' (k + 1) (ints (Bl ++ [x]))) : DL r W w' p vB' (k + 1) (Bl ++ [x]) := by
  have bg : Below (W.heap.size + 1) wx w' := (Below.refl _ _).grown hg (by have := h.sz; omega) (fun b hb => (h.ob.lt b hb).1)
  refine ⟨row_off h.on hg (fun a b ha hb => ?_), by simp [h.lb], ho, h.rd.kept bg (by omega), turn_below h.tn (bg.mono (by omega)) hr⟩
  have := (h.ob.lt b hb).1
  simp [Value.ownBlock] at ha
  omega

set_option maxRecDepth 20000 in
set_option maxHeartbeats 4000000 in
theorem dlev_any (a : Option Addr) (n0 cap : Nat) (w : World) (hc : Go.Proofs.Ytlegcimlhgkibaa.Rd.Code w a n0 cap) (hn0 : n0 ≤ 1048576) : Calls Try.prog 5 #[.slice a n0 cap] w fun e w' => ∃ vS vA vB S A Bl, ∃ h : Int, e = .returned (.tuple #[vS, vA, vB, .int .i64 h]) ∧ Lists.Reads w' vS S ∧ Lists.Reads w' vA A ∧ Lists.Reads w' vB Bl ∧ S.length ≤ 501 ∧ A.length ≤ 5 ∧ Bl.length ≤ 5 ∧ Below w.heap.size w w' := by
  have O : Hid (Calls Try.prog 8 #[.slice a n0 cap] w fun e w' => e = .returned (.pointer (some ⟨w.heap.size, 0, none⟩)) ∧ w' = w.alloc (.cells #[.slice a n0 cap, .int .i64 0] 43)) := open_any _ a n0 cap rfl w
  have K0 : Hid (Rd w.heap.size (w.alloc (.cells #[.slice a n0 cap, .int .i64 0] 43))) := Rd.new hc hn0 (Below.refl _ _)
  have B0 : Hid (Below w.heap.size w (w.alloc (.cells #[.slice a n0 cap, .int .i64 0] 43))) := (Below.refl _ _).alloc (Nat.le_refl _) _
  obtain ⟨i0, hi, hz0, hz1, hz2⟩ := info_parts Lists.Try.info2
  clear hc
  go_enter Try.func5, Try.ntmps5
  go_wp2_with fail
  refine O.out.mono ?_
  rintro e w1 ⟨rfl, hw⟩
  rw [← hw] at K0 B0
  clear hw O
  obtain ⟨r, hr0⟩ : ∃ r, r = w.heap.size := ⟨_, rfl⟩
  have HR : Hid (r = w.heap.size) := hr0
  rw [← hr0] at K0 ⊢
  clear hr0
  have hr := K0.out.lt
  have R0 : Hid ((w1.alloc (Obj.cells #[] 2)).ownsRow w1.heap.size 2 1 (.slice (some ⟨w1.heap.size, 0, none⟩) 0 0) 0 (ints [])) := World.ownsRow_lit w1 #[] 0 (Nat.le_refl _) (Nat.zero_le _) rfl
  have K1 : Hid (Rd r (w1.alloc (Obj.cells #[] 2))) := K0.out.kept ((Below.refl (r + 1) w1).alloc (by omega) _) (by omega)
  have T1 : Hid (Turn r w1 (w1.alloc (Obj.cells #[] 2))) := (Turn.refl r w1).alloc hr _
  go_wp2_with fail
  refine (size40 r _ K1.out).mono ?_
  rintro e w2 ⟨⟨u, ⟨hu1, hu2⟩, rfl⟩, k2, t2⟩
  obtain ⟨n, hn⟩ : ∃ n : Nat, u = (n : Int) := ⟨u.toNat, by omega⟩
  subst hn
  have R2 : Hid (w2.ownsRow w1.heap.size 2 1 (.slice (some ⟨w1.heap.size, 0, none⟩) 0 0) 0 (ints [])) := row_turn R0.out t2 hr
  have K2 : Hid (Rd r w2) := k2
  have T2 : Hid (Turn r w1 w2) := T1.out.trans t2
  clear k2 t2 R0 K1 T1 K0
  go_wp2_with fail
  go_loopw [7, 9] (fun v i wr => ∃ (k : Nat) (L : List Int), k ≤ n ∧ i = .int .i64 k ∧ L.length = k ∧ Hid (wr.ownsRow w1.heap.size 2 1 v k (ints L)) ∧ Hid (Rd r wr) ∧ Hid (Turn r w1 wr)) (fun _ i _ => n - (intOf i).toNat)
  case atStart => exact ⟨0, [], Nat.zero_le _, rfl, rfl, R2, K2, T2⟩
  case round =>
    clear R2 K2 T2
    obtain ⟨k, L, hk, rfl, hL, R, K, TT⟩ := hrel
    obtain ⟨v, hv⟩ : ∃ v, v = u7 := ⟨_, rfl⟩
    subst hv
    obtain ⟨sa, sc, hv⟩ : ∃ a c, v = .slice a k c := by
      have := Lists.reads_row (L := L) (by rw [hL]; exact R.out)
      obtain ⟨a, c, e⟩ := this.form
      rw [hL] at e
      exact ⟨a, c, e⟩
    subst hv
    by_cases hlt : k < n
    · have i2 : (k : Int) < (n : Int) := by omega
      go_wp2_with fail
      refine (below_all r _ K.out 50 (by omega) (by omega)).mono ?_
      rintro e w3 ⟨⟨y, ⟨hy1, hy2⟩, rfl⟩, k3, k4⟩
      have R3 : Hid (w3.ownsRow w1.heap.size 2 1 (.slice sa k sc) k (ints L)) := row_turn R.out k4 hr
      have K3 : Hid (Rd r w3) := k3
      have T3 : Hid (Turn r w1 w3) := TT.out.trans k4
      have z3 := T3.out.size
      clear k3 k4 R K TT
      go_wp2_with (at_builtin; refine wpList_append_own_at _ rfl _ _ 24 rfl w1.heap.size 2 i0 (.int .i64 0) 1 8 Try.underlying24 hi hz0 hz1 hz2 rfl (by decide) _ _ _ rfl (R3.out.alloc _) ⟨w3.heap.size, 0, none⟩ 1 1 [.int .i64 y] rfl rfl (cell_one w3 _ 2) (one_one _) (by unfold maxLen; omega) (by omega) (by simp; omega) ?_)
      · intro v' w4 hown hgrow _ _
        have R4 : Hid (w4.ownsRow w1.heap.size 2 1 v' (k + 1) (ints (L ++ [y]))) := (by show World.ownsRow _ _ _ _ _ _ _; rw [ints_snoc]; exact hown)
        have BG : Below w1.heap.size w3 w4 := ((Below.refl w1.heap.size w3).alloc z3 _).grown hgrow (by simp; omega) (fun b hb => (R3.out.lt b hb).1)
        have K4 : Hid (Rd r w4) := K3.out.kept BG hr
        have T4 : Hid (Turn r w1 w4) := turn_below T3.out BG hr
        clear hown hgrow BG R3 K3 T3
        go_wp2_with fail
        go_roundw
        case rel => exact ⟨k + 1, L ++ [y], by omega, by go_num, by simp [hL], R4, K4, T4⟩
        case measure => simp [intOf]; omega
    · have hkn : k = n := by omega
      subst hkn
      have hl : L.length ≤ 501 := by omega
      have LS : Hid (LR r wr (.slice sa k sc) L) := (by
        have := row_lr (r := r) (L := L) (B := w1.heap.size) (by rw [hL]; exact R.out) hr
        exact this)
      have LK : Hid (L.length = k) := hL
      have BW : Hid (Below w.heap.size w wr) := (by have h1 := HR.out; exact B0.out.trans (TT.out.bel.mono (by omega)))
      have hrW : r < wr.heap.size := by have := TT.out.size; omega
      have zW : w.heap.size ≤ r := by have := HR.out; omega
      have K4 : Hid (Rd r (wr.alloc (Obj.cells #[.int .i64 10, .int .i64 20, .int .i64 30, .int .i64 40] 2))) := K.out.kept ((Below.refl (r + 1) wr).alloc (by omega) _) (by omega)
      obtain ⟨W, hW⟩ : ∃ q : World, q = wr := ⟨_, rfl⟩
      subst hW
      clear R hL
      go_wp2_with fail
      refine (below_all r _ K4.out 4 (by omega) (by omega)).mono ?_
      rintro e w5 ⟨⟨z, ⟨hz1', hz2'⟩, rfl⟩, k5, t5⟩
      obtain ⟨p, hp⟩ : ∃ p : Nat, 1 + z = (p : Int) := ⟨(1 + z).toNat, by omega⟩
      have p14 : 1 ≤ p ∧ p ≤ 4 := by omega
      have ON5 : w5.ownsRow W.heap.size 2 1 (.slice (some ⟨W.heap.size, 0, none⟩) p 4) p (ints (ten p)) := row_turn (row_ten (Nat.le_refl _) p (by omega)) t5 hrW
      have D5 : Hid (DL r W (w5.alloc (Obj.cells #[] 2)) p (.slice (some ⟨w5.heap.size, 0, none⟩) 0 0) 0 []) := (by
        have zz := t5.size
        simp at zz
        refine ⟨ON5.alloc _, rfl, World.ownsRow_lit w5 #[] 0 (by omega) (Nat.zero_le _) rfl, k5.kept ((Below.refl (r + 1) w5).alloc (by omega) _) (by omega), ?_⟩
        exact (((Turn.refl r W).alloc hrW _).trans t5).alloc (by omega) _)
      have q1 : (0 : Int) ≤ (p : Int) := by omega
      have q2 : (p : Int) ≤ 4 := by omega
      have q3 : ((p : Int)).toNat = p := by omega
      have q4 : p ≤ 4 := by omega
      clear k5 t5 ON5 K4
      go_wp2_with fail
      go_loopw [11, 12] (fun v i wr => ∃ (j : Nat) (Bl : List Int), j ≤ p ∧ i = .int .i64 j ∧ Hid (DL r W wr p v j Bl)) (fun _ i _ => p - (intOf i).toNat)
      case atStart => exact ⟨0, [], Nat.zero_le _, rfl, D5⟩
      case round =>
        clear D5
        obtain ⟨j, Bl, hj, rfl, D⟩ := hrel
        obtain ⟨v, hv⟩ : ∃ v, v = u11 := ⟨_, rfl⟩
        subst hv
        obtain ⟨ba, bc, hv⟩ : ∃ a c, v = .slice a j c := by
          have := Lists.reads_row (L := Bl) (by rw [D.out.lb]; exact D.out.ob)
          obtain ⟨a, c, e⟩ := this.form
          rw [D.out.lb] at e
          exact ⟨a, c, e⟩
        subst hv
        by_cases hjt : j < p
        · have i2 : (j : Int) < (p : Int) := by omega
          have i3 : (0 : Int) ≤ (j : Int) := by omega
          obtain ⟨x, x1, x2, hx⟩ := ten_get j (by omega)
          have HX : Hid (∀ w' : World, w'.ownsRow W.heap.size 2 1 (.slice (some ⟨W.heap.size, 0, none⟩) p 4) p (ints (ten p)) → w'.cell? ⟨W.heap.size, j, none⟩ = some (.int .i64 x)) := fun w' h => (by
            have h' : w'.ownsRow W.heap.size 2 1 (.slice (some ⟨W.heap.size, 0, none⟩) (ten p).length 4) (ten p).length (ints (ten p)) := by rw [ten_len p (by omega)]; exact h
            have := row_cell h' j (by rw [ten_len p (by omega)]; exact hjt)
            rw [hx p hjt] at this
            exact this)
          have c0 := HX.out wr D.out.on
          have c0d : wr.drew.cell? ⟨W.heap.size, j, none⟩ = some (.int .i64 x) := c0
          have DD : Hid (DL r W wr.drew p (.slice ba j bc) j Bl) := (D.out.turn hrW ((Turn.refl r wr).drewN 1) (D.out.rd.drewN 1))
          have sz0 := D.out.sz
          clear hx
          go_wp2_with fail
          go_region_law (first | (refine step_append_lies _ (by rfl) _ _ 24 (by rfl) (W.heap.size + 1) 2 i0 (.int .i64 0) 1 8 Try.underlying24 hi hz0 hz1 hz2 rfl (by decide) _ _ _ (by rfl) (D6.out.ob.alloc _) ⟨w6.heap.size, 0, none⟩ 1 1 [.int .i64 (x - y)] (by rfl) rfl (cell_one w6 _ 2) (one_one _) (by decide) (by unfold maxLen; omega) (by omega) (by have := D6.out.sz; simp; omega) (w6.heap.size + 1) (by simp) ?_; intro g7 c7 w7 hown hgrow hat hlt7; have D7 : Hid (DL r W w7 p (.slice (some ⟨g7, 0, none⟩) (j + 1) c7) (j + 1) (Bl ++ [x - y])) := (D6.out.alloc hrW _).push hrW hgrow (by rw [ints_snoc]; exact hown)) | (go_simp; go_at_call 10; refine (below_all r _ DD.out.rd 14 (by omega) (by omega)).mono ?_; rintro e w6 ⟨⟨y, ⟨hy1, hy2⟩, rfl⟩, k6, t6⟩; have D6 : Hid (DL r W w6 p (.slice ba j bc) j Bl) := DD.out.turn hrW t6 k6; have c6 := HX.out w6 D6.out.on; have sz6 := D6.out.sz; have J6 : IntKind.i64.wrap (x - y) = x - y := IntWalk.i64_in _ (by omega); clear k6 t6))
          all_goals
            clear hown hgrow hat hlt7
            go_wp2_with fail
            go_roundw
            case rel => exact ⟨j + 1, Bl ++ [x - y], by omega, by go_num, D7⟩
            case measure => simp [intOf]; omega
        · have hjp : j = p := by omega
          subst hjp
          have sz0 := D.out.sz
          go_wp2_with fail
          refine (below_all r _ D.out.rd 4 (by omega) (by omega)).mono ?_
          rintro e w8 ⟨⟨h8, ⟨h81, h82⟩, rfl⟩, k8, t8⟩
          have D8 : Hid (DL r W w8 j (.slice ba j bc) j Bl) := D.out.turn hrW t8 k8
          clear k8 t8 D
          go_wp2_with fail
          refine (below_all r _ D8.out.rd 24 (by omega) (by omega)).mono ?_
          rintro e w9 ⟨⟨u, ⟨hu1, hu2⟩, rfl⟩, k9, t9⟩
          have D9 : Hid (DL r W w9 j (.slice ba j bc) j Bl) := D8.out.turn hrW t9 k9
          have S9 : Hid (∀ w', Turn r W w' → Lists.Reads w' (.slice sa k sc) L ∧ Below w.heap.size w w') := fun w' t => (by
            have e1 := LK.out
            exact ⟨(LS.out.turn t).reads, BW.out.trans (t.bel.mono zW)⟩)
          have A9 : Hid (∀ w' : World, w'.ownsRow W.heap.size 2 1 (.slice (some ⟨W.heap.size, 0, none⟩) j 4) j (ints (ten j)) → Lists.Reads w' (.slice (some ⟨W.heap.size, 0, none⟩) j 4) (ten j)) := fun w' h => (by
            have e := ten_len j (by omega)
            have := Lists.reads_row (L := ten j) (w := w') (base := W.heap.size) (v := .slice (some ⟨W.heap.size, 0, none⟩) j 4) (by rw [e]; exact h)
            exact this)
          have Q9 : Hid (∀ (w' : World) vB B' m, w'.ownsRow B' 2 1 vB m (ints Bl) → m = Bl.length → Lists.Reads w' vB Bl) := fun w' vB B' m h hm => (by subst hm; exact Lists.reads_row h)
          have LT : Hid ((ten j).length = j) := ten_len j (by omega)
          have LB : Hid (Bl.length = j) := D9.out.lb
          have sz9 := D9.out.sz
          clear k9 t9 D8 LS
          by_cases u0 : u = 0
          · subst u0
            rcases row_cases (L := Bl) (by rw [LB.out]; exact D9.out.ob) with ⟨e0, _⟩ | ⟨g, cg, ev, gb, gs, gc, gm⟩
            · have := LB.out; rw [e0] at this; simp at this; omega
            rw [LB.out] at ev
            simp at ev
            obtain ⟨ev1, ev2⟩ := ev
            subst ev1 ev2
            obtain ⟨x, x1, x2, hx⟩ := ten_get 0 (by omega)
            have c0 : w9.cell? ⟨W.heap.size, 0, none⟩ = some (.int .i64 x) := (by
              have h' : w9.ownsRow W.heap.size 2 1 (.slice (some ⟨W.heap.size, 0, none⟩) (ten j).length 4) (ten j).length (ints (ten j)) := by rw [LT.out]; exact D9.out.on
              have := row_cell h' 0 (by rw [LT.out]; omega)
              rw [hx j (by omega)] at this
              exact this)
            have c1 : w9.cell? ⟨g, 0, none⟩ = some (.int .i64 (Bl.getD 0 0)) := (by
              have h' : w9.ownsRow (W.heap.size + 1) 2 1 (.slice (some ⟨g, 0, none⟩) Bl.length bc) Bl.length (ints Bl) := by rw [LB.out]; exact D9.out.ob
              exact row_cell h' 0 (by rw [LB.out]; omega))
            have f1 : w9.frozen? ⟨g, 0, none⟩ = false := D9.out.ob.frozenAt 0
            have RN : Hid (Lists.Reads (w9.setCell ⟨g, 0, none⟩ (.int .i64 (x + 1))) (.slice (some ⟨g, 0, none⟩) j bc) (Bl.set 0 (x + 1))) := (by
              have h1 := row_put D9.out.ob 0 (x + 1)
              have e : (Bl.set 0 (x + 1)).length = j := by rw [List.length_set]; exact LB.out
              rw [← e] at h1
              have := Lists.reads_row h1
              rw [e] at this
              exact this)
            have AN : Hid (Lists.Reads (w9.setCell ⟨g, 0, none⟩ (.int .i64 (x + 1))) (.slice (some ⟨W.heap.size, 0, none⟩) j 4) (ten j)) := A9.out _ (ownsRow_setCell_other D9.out.on (by simp [Value.ownBlock]; omega) _)
            have TN : Turn r W (w9.setCell ⟨g, 0, none⟩ (.int .i64 (x + 1))) := D9.out.tn.setCell (p := ⟨g, 0, none⟩) (by show W.heap.size ≤ g; omega) hrW _
            have SN := S9.out _ TN
            have SH : Hid (Lists.Reads (w9.setCell ⟨g, 0, none⟩ (.int .i64 (x + 1))) (.slice sa k sc) L ∧ Below w.heap.size w (w9.setCell ⟨g, 0, none⟩ (.int .i64 (x + 1)))) := SN
            have i1 : (0 : Int) < (j : Int) := by omega
            have J1 : IntKind.i64.wrap (x + 1) = x + 1 := IntWalk.i64_in _ (by omega)
            clear hx TN SN D9
            generalize Bl.getD 0 0 = y at *
            go_wp2_with fail
            exact bodyPost_ret (v := .tuple #[.slice sa k sc, .slice (some ⟨W.heap.size, 0, none⟩) j 4, .slice (some ⟨g, 0, none⟩) j bc, .int .i64 (1 + h8)]) (by simp [results, Try.results5, go_sem]) rfl ⟨_, _, _, L, ten j, Bl.set 0 (x + 1), _, rfl, SH.out.1, AN.out, RN.out, hl, by rw [LT.out]; omega, by rw [List.length_set, LB.out]; omega, SH.out.2⟩
          have e0 : (u == 0) = false := by simpa using u0
          by_cases u1 : u = 1
          · subst u1
            obtain ⟨x, x1, x2, hx⟩ := ten_get (j - 1) (by omega)
            have c0 : w9.cell? ⟨W.heap.size, j - 1, none⟩ = some (.int .i64 x) := (by
              have h' : w9.ownsRow W.heap.size 2 1 (.slice (some ⟨W.heap.size, 0, none⟩) (ten j).length 4) (ten j).length (ints (ten j)) := by rw [LT.out]; exact D9.out.on
              have := row_cell h' (j - 1) (by rw [LT.out]; omega)
              rw [hx j (by omega)] at this
              exact this)
            have i1 : (0 : Int) ≤ (j : Int) - 1 := by omega
            have i3 : (j : Int) - 1 < (j : Int) := by omega
            have i4 : ((j : Int) - 1).toNat = j - 1 := by omega
            have J1 : IntKind.i64.wrap ((j : Int) - 1) = (j : Int) - 1 := IntWalk.i64_in _ (by omega)
            have DA : Hid (DL r W (w9.alloc (Obj.cells #[.int .i64 x] 2)) j (.slice ba j bc) j Bl) := D9.out.alloc hrW _
            clear hx
            go_wp2_with (at_builtin; refine wpList_append_own_at _ rfl _ _ 24 rfl W.heap.size 2 i0 (.int .i64 0) 1 8 Try.underlying24 hi hz0 hz1 hz2 rfl (by decide) _ _ _ rfl DA.out.on ⟨w9.heap.size, 0, none⟩ 1 1 [.int .i64 x] rfl rfl (cell_one w9 _ 2) (one_one _) (by unfold maxLen; omega) (by omega) (by simp; omega) ?_)
            intro vA w10 hown hgrow _ hat
            have BG : Below W.heap.size (w9.alloc (Obj.cells #[.int .i64 x] 2)) w10 := (Below.refl _ _).grown hgrow (by simp; omega) (fun b hb => by simp [Value.ownBlock] at hb; omega)
            have OB : Hid (w10.ownsRow (W.heap.size + 1) 2 1 (.slice ba j bc) j (ints Bl)) := row_off DA.out.ob hgrow (fun a b ha hb => by
              have := (DA.out.ob.lt a ha).1
              simp [Value.ownBlock] at hb
              omega)
            have OA : Hid (w10.ownsRow W.heap.size 2 1 vA (j + 1) (ints (ten j ++ [x]))) := (by show World.ownsRow _ _ _ _ _ _ _; rw [ints_snoc]; exact hown)
            have TA : Hid (Turn r W w10) := turn_below DA.out.tn BG hrW
            have NE : Hid (∀ a b, vA.ownBlock = some a → (Value.slice ba j bc).ownBlock = some b → a ≠ b) := fun a b ha hb => (by
              have q1 := (D9.out.ob.lt b hb)
              rcases hat with h | h
              · rw [ha] at h; simp [Value.ownBlock] at h; omega
              · rw [ha] at h; simp at h; omega)
            have z10 : W.heap.size < w10.heap.size := (by have := TA.out.size; have := BG.size; simp at this; omega)
            obtain ⟨ga, ca, hvA, _, _⟩ := hown.form (by omega)
            subst hvA
            clear hown hgrow hat BG DA D9 c0
            go_wp2_with (at_builtin; refine wpList_append_own_at _ rfl _ _ 24 rfl (W.heap.size + 1) 2 i0 (.int .i64 0) 1 8 Try.underlying24 hi hz0 hz1 hz2 rfl (by decide) _ _ _ rfl (OB.out.alloc _) ⟨w10.heap.size, 0, none⟩ 1 1 [.int .i64 0] rfl rfl (cell_one w10 _ 2) (one_one _) (by unfold maxLen; omega) (by omega) (by simp; omega) ?_)
            intro vB w11 hown hgrow _ hat
            have BG : Below W.heap.size w10 w11 := ((Below.refl W.heap.size w10).alloc (by omega) _).grown hgrow (by simp; omega) (fun b hb => by have := (OB.out.lt b hb).1; omega)
            have AN : Hid (Lists.Reads w11 (.slice (some ⟨ga, 0, none⟩) (j + 1) ca) (ten j ++ [x])) := (by
              have h1 := row_off (OA.out.alloc _) hgrow (fun a b ha hb => NE.out a b ha hb)
              have e : (ten j ++ [x]).length = j + 1 := by rw [List.length_append, LT.out]; rfl
              rw [← e] at h1
              have := Lists.reads_row h1
              rw [e] at this
              exact this)
            have RN : Hid (Lists.Reads w11 vB (Bl ++ [0])) := (by
              have h1 : w11.ownsRow (W.heap.size + 1) 2 1 vB (j + 1) (ints (Bl ++ [0])) := by rw [ints_snoc]; exact hown
              have e : (Bl ++ [0]).length = j + 1 := by rw [List.length_append, LB.out]; rfl
              rw [← e] at h1
              exact Lists.reads_row h1)
            have SN : Hid (Lists.Reads w11 (.slice sa k sc) L ∧ Below w.heap.size w w11) := S9.out _ (turn_below TA.out BG hrW)
            obtain ⟨gb, cb, hvB, _, _⟩ := hown.form (by omega)
            subst hvB
            clear hown hgrow hat BG OA OB TA NE
            go_wp2_with fail
            exact bodyPost_ret (v := .tuple #[.slice sa k sc, .slice (some ⟨ga, 0, none⟩) (j + 1) ca, .slice (some ⟨gb, 0, none⟩) (j + 1) cb, .int .i64 (1 + h8)]) (by simp [results, Try.results5, go_sem]) rfl ⟨_, _, _, L, ten j ++ [x], Bl ++ [0], _, rfl, SN.out.1, AN.out, RN.out, hl, by rw [List.length_append, LT.out]; simp; omega, by rw [List.length_append, LB.out]; simp; omega, SN.out.2⟩
          have e1 : (u == 1) = false := by simpa using u1
          by_cases u2 : u = 2
          · subst u2
            have DA : Hid (DL r W (w9.alloc (Obj.cells #[.int .i64 0, .int .i64 100, .int .i64 101] 2)) j (.slice ba j bc) j Bl) := D9.out.alloc hrW _
            go_wp2_with fail
            refine (below_all r _ DA.out.rd 3 (by omega) (by omega)).mono ?_
            rintro e w10 ⟨⟨z, ⟨hz1', hz2'⟩, rfl⟩, k10, t10⟩
            obtain ⟨q, hq⟩ := pick3 z hz1' hz2'
            have c0 : w10.cell? ⟨w9.heap.size, z.toNat, none⟩ = some (.int .i64 q) := (t10.cell z.toNat (by simp) (by omega)).trans (hq w9)
            have DN := DA.out.turn hrW t10 k10
            have AN : Hid (Lists.Reads w10 (.slice (some ⟨W.heap.size, 0, none⟩) j 4) (ten j)) := A9.out _ DN.on
            have RN : Hid (Lists.Reads w10 (.slice ba j bc) Bl) := Q9.out _ _ _ _ DN.ob LB.out.symm
            have SN : Hid (Lists.Reads w10 (.slice sa k sc) L ∧ Below w.heap.size w w10) := S9.out _ DN.tn
            clear hq DN k10 t10 DA D9
            go_wp2_with fail
            exact bodyPost_ret (v := .tuple #[.slice sa k sc, .slice (some ⟨W.heap.size, 0, none⟩) j 4, .slice ba j bc, .int .i64 q]) (by simp [results, Try.results5, go_sem]) rfl ⟨_, _, _, L, ten j, Bl, _, rfl, SN.out.1, AN.out, RN.out, hl, by rw [LT.out]; omega, by rw [LB.out]; omega, SN.out.2⟩
          have e2 : (u == 2) = false := by simpa using u2
          by_cases u3 : u = 3
          · subst u3
            go_wp2_with fail
            refine (draw_any r _ D9.out.rd).mono ?_
            rintro e w10 ⟨vS, S, rfl, lr, ll, k10, t10⟩
            have DN := D9.out.turn hrW t10 k10
            have AN : Hid (Lists.Reads w10 (.slice (some ⟨W.heap.size, 0, none⟩) j 4) (ten j)) := A9.out _ DN.on
            have RN : Hid (Lists.Reads w10 (.slice ba j bc) Bl) := Q9.out _ _ _ _ DN.ob LB.out.symm
            have SN : Hid (Lists.Reads w10 (.slice sa k sc) L ∧ Below w.heap.size w w10) := S9.out _ DN.tn
            have LN : Hid (Lists.Reads w10 vS S ∧ S.length ≤ 501) := ⟨lr.reads, ll⟩
            obtain ⟨xa, xc, hvS⟩ := lr.reads.form
            subst hvS
            clear DN k10 t10 D9 lr ll
            go_wp2_with fail
            exact bodyPost_ret (v := .tuple #[.slice xa S.length xc, .slice (some ⟨W.heap.size, 0, none⟩) j 4, .slice ba j bc, .int .i64 (1 + h8)]) (by simp [results, Try.results5, go_sem]) rfl ⟨_, _, _, S, ten j, Bl, _, rfl, LN.out.1, AN.out, RN.out, LN.out.2, by rw [LT.out]; omega, by rw [LB.out]; omega, SN.out.2⟩
          have e3 : (u == 3) = false := by simpa using u3
          have AN : Hid (Lists.Reads w9 (.slice (some ⟨W.heap.size, 0, none⟩) j 4) (ten j)) := A9.out _ D9.out.on
          have RN : Hid (Lists.Reads w9 (.slice ba j bc) Bl) := Q9.out _ _ _ _ D9.out.ob LB.out.symm
          have SN : Hid (Lists.Reads w9 (.slice sa k sc) L ∧ Below w.heap.size w w9) := S9.out _ D9.out.tn
          by_cases u4 : u = 4
          · subst u4
            have EZ : Hid (∀ (a : Option Addr) (c : Nat), Lists.Reads w9 (.slice a 0 c) []) := fun a c => Or.inl ⟨rfl, _, _, rfl⟩
            rcases row_cases (L := Bl) (by rw [LB.out]; exact D9.out.ob) with ⟨e0, _⟩ | ⟨g, cg, ev, gb, gs, gc, gm⟩
            · have := LB.out; rw [e0] at this; simp at this; omega
            rw [LB.out] at ev
            simp at ev
            obtain ⟨ev1, ev2⟩ := ev
            subst ev1 ev2
            have g1 : (0 : Int) ≤ (bc : Int) := by omega
            clear D9
            go_wp2_with fail
            exact bodyPost_ret (v := .tuple #[.slice sa k sc, .slice (some ⟨W.heap.size, 0, none⟩) 0 4, .slice (some ⟨g, 0, none⟩) 0 bc, .int .i64 (1 + h8)]) (by simp [results, Try.results5, go_sem]) rfl ⟨_, _, _, L, [], [], _, rfl, SN.out.1, EZ.out _ _, EZ.out _ _, hl, by simp, by simp, SN.out.2⟩
          have e4 : (u == 4) = false := by simpa using u4
          clear D9
          go_wp2_with fail
          exact bodyPost_ret (v := .tuple #[.slice sa k sc, .slice (some ⟨W.heap.size, 0, none⟩) j 4, .slice ba j bc, .int .i64 (1 + h8)]) (by simp [results, Try.results5, go_sem]) rfl ⟨_, _, _, L, ten j, Bl, _, rfl, SN.out.1, AN.out, RN.out, hl, by rw [LT.out]; omega, by rw [LB.out]; omega, SN.out.2⟩
end Go.Proofs.Ytlegcimlhgkibaa.Dc
