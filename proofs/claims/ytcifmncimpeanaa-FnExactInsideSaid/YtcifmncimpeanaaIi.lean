/- Inside: the program. -/
import Derived.Test.YtcifmncimpeanaaIs
import Derived.OneCell
namespace Go.Proofs.Ytcifmncimpeanaa.In
open Go.ChangeShapes Go.WideShapes Go.ChangeAt Go.RowKit
open Go.Proofs.Ytcifmncimpeanaa.Al

def B2 (w : World) (r : Nat) (x y : Int) : Prop := w.heap[r]? = some (.cells #[.int .i64 x, .int .i64 y] 29 (0, 0))
theorem B2.lt {w : World} {r : Nat} {x y : Int} (b : B2 w r x y) : r < w.heap.size := lt_of_block b
theorem B2.cells {w : World} {r : Nat} {x y : Int} (b : B2 w r x y) : w.cell? ⟨r, 0, none⟩ = some (.int .i64 x) ∧ w.cell? ⟨r, 1, none⟩ = some (.int .i64 y) ∧ w.frozen? ⟨r, 0, none⟩ = false ∧ w.frozen? ⟨r, 1, none⟩ = false := by
  unfold B2 at b
  simp [World.cell?, World.frozen?, b]
theorem B2.s0 {w : World} {r : Nat} {x y : Int} (b : B2 w r x y) (z : Int) : B2 (w.setCell ⟨r, 0, none⟩ (.int .i64 z)) r z y := by
  have hlt := b.lt
  unfold B2 at b ⊢
  have h' : w.heap[r] = .cells #[.int .i64 x, .int .i64 y] 29 (0, 0) := by simpa [Array.getElem?_eq_getElem hlt] using b
  show (w.heap.modify r _)[r]? = _
  rw [Array.getElem?_eq_getElem (by simpa using hlt), Array.getElem_modify_self, h']
  rfl
theorem B2.s1 {w : World} {r : Nat} {x y : Int} (b : B2 w r x y) (z : Int) : B2 (w.setCell ⟨r, 1, none⟩ (.int .i64 z)) r x z := by
  have hlt := b.lt
  unfold B2 at b ⊢
  have h' : w.heap[r] = .cells #[.int .i64 x, .int .i64 y] 29 (0, 0) := by simpa [Array.getElem?_eq_getElem hlt] using b
  show (w.heap.modify r _)[r]? = _
  rw [Array.getElem?_eq_getElem (by simpa using hlt), Array.getElem_modify_self, h']
  rfl
theorem B2.on {w w' : World} {r B : Nat} {x y : Int} (b : B2 w r x y) (h : Below B w w') (hr : r < B) : B2 w' r x y := (h.block r hr).trans b
theorem B2.new (w : World) (x y : Int) : B2 (w.alloc (.cells #[.int .i64 x, .int .i64 y] 29)) w.heap.size x y := heap_alloc_new w _

set_option maxRecDepth 20000 in
set_option maxHeartbeats 4000000 in
theorem iins_any (L : Sp.Ls) (px py : Int) (v : Value) (w : World) (hL : Sp.Reads w v L) :
    Calls Try.prog 8 #[v, .agg #[.int .i64 px, .int .i64 py]] w fun e w' => e = .returned (.bool (ins L px py)) ∧ Below w.heap.size w w' := by
  have C1 : Hid (∀ w', Below w.heap.size w w' → Calls Try.prog 12 #[v] w' fun e w'' => e = .returned (.bool (oka L)) ∧ Below w'.heap.size w' w'') := fun w' hb => iarea_any L v w' (hL.on hb)
  have C2 : Hid (∀ w', Calls Try.prog 13 #[.agg #[.int .i64 px, .int .i64 py]] w' fun e w'' => e = .returned (.bool (okp px py)) ∧ Below w'.heap.size w' w'') := fun w' => ispot_any px py w'
  have hf := hL.fits
  obtain ⟨b, o, hcell, hvv⟩ := reads_at hL
  obtain ⟨a, cap, rfl⟩ := hL.form
  obtain ⟨wb, hwb⟩ : ∃ wb, wb = w.alloc (.cells #[.int .i64 px, .int .i64 py] 29) := ⟨_, rfl⟩
  have HW : Hid (wb = w.alloc (.cells #[.int .i64 px, .int .i64 py] 29)) := hwb
  have BW : Hid (Below w.heap.size w wb) := (by show Below _ _ _; rw [hwb]; exact (Below.refl _ _).alloc (Nat.le_refl _) _)
  have ZW : Hid (wb.heap.size = w.heap.size + 1) := (by show _ = _; rw [hwb]; simp)
  have KW : Hid (B2 wb w.heap.size px py) := (by show B2 _ _ _ _; rw [hwb]; exact B2.new w px py)
  clear hwb
  cases hA : oka L
  · have E : ins L px py = false := by unfold ins; rw [hA]; rfl
    rw [E]
    rw [hA] at C1
    clear hA E hL hcell hvv
    generalize L.length = n at *
    go_enter Try.func8, Try.ntmps8
    go_wp2_with fail
    rw [← HW.out]
    refine (C1.out _ BW.out).mono ?_
    rintro e w1 ⟨rfl, hb⟩
    have B1 : Hid (Below w.heap.size w w1) := BW.out.trans (hb.mono BW.out.size)
    clear hb
    go_wp2_with fail
    go_ret
    exact ⟨rfl, B1.out⟩
  rw [hA] at C1
  cases hP : okp px py
  · have E : ins L px py = false := by unfold ins; rw [hA, hP]; rfl
    rw [E]
    rw [hP] at C2
    clear hA hP E hL hcell hvv
    generalize L.length = n at *
    go_enter Try.func8, Try.ntmps8
    go_wp2_with fail
    rw [← HW.out]
    refine (C1.out _ BW.out).mono ?_
    rintro e w1 ⟨rfl, hb⟩
    have B1 : Hid (Below w.heap.size w w1) := BW.out.trans (hb.mono BW.out.size)
    obtain ⟨k0, k1, _, _⟩ := (KW.out.on hb (by rw [ZW.out]; omega)).cells
    clear hb
    go_wp2_with fail
    refine (C2.out _).mono ?_
    rintro e w2 ⟨rfl, hb⟩
    have B2 : Hid (Below w.heap.size w w2) := B1.out.trans (hb.mono B1.out.size)
    clear hb
    go_wp2_with fail
    go_ret
    exact ⟨rfl, B2.out⟩
  rw [hP] at C2
  have E : ins L px py = par (sd L px py) L.length := by unfold ins; rw [hA, hP]; rfl
  rw [E]
  clear E
  unfold oka at hA
  simp only [Bool.and_eq_true, inn_iff] at hA
  obtain ⟨⟨l1, l2⟩, hA⟩ := hA
  have HC : Hid (∀ w', Below w.heap.size w w' → ∀ i, i < L.length → Sp.Cs w' b o L i) := hcell
  obtain ⟨hb0, cap', hx⟩ := hvv (by omega)
  simp at hx
  obtain ⟨hx, hx2⟩ := hx
  subst hx hx2
  have HLI : Hid (∀ k, k < L.length → ∀ w', Calls Try.prog 14 #[.agg #[.int .i64 (Sp.c0 L (bk L.length k)), .int .i64 (Sp.c1 L (bk L.length k))], .agg #[.int .i64 (Sp.c0 L k), .int .i64 (Sp.c1 L k)], .agg #[.int .i64 px, .int .i64 py]] w' fun e w'' => e = .returned (.bool (lf (Sp.c0 L (bk L.length k)) (Sp.c1 L (bk L.length k)) (Sp.c0 L k) (Sp.c1 L k) px py)) ∧ Below w'.heap.size w' w'') := fun k hk w' => lies_any _ _ _ _ _ _ w' (okl_at hA _ (by unfold bk; split <;> omega)) (okl_at hA k hk) hP
  have HS : Hid (∀ k, k < L.length → prv L px py (k + 1) = xor (prv L px py k) (lf (Sp.c0 L (bk L.length k)) (Sp.c1 L (bk L.length k)) (Sp.c0 L k) (Sp.c1 L k) px py)) := fun k hk => prv_step L px py k hk
  have HE : Hid (prv L px py L.length = par (sd L px py) L.length) := prv_all L px py (by omega)
  rw [← HE.out]
  clear hL hcell hvv hA hP HE
  obtain ⟨n, hn⟩ : ∃ n, n = L.length := ⟨_, rfl⟩
  rw [← hn] at hf l1 l2 C1 HC HLI HS ⊢
  clear hn
  have HBK : Hid (∀ k, bk n (k + 1) = k) := fun k => (by show _ = _; unfold bk; rw [if_neg (by omega)]; rfl)
  have HBK0 : Hid (bk n 0 = n - 1) := rfl
  go_enter Try.func8, Try.ntmps8
  go_wp2_with fail
  rw [← HW.out]
  refine (C1.out _ BW.out).mono ?_
  rintro e w1 ⟨rfl, hb⟩
  have B1 : Hid (Below wb.heap.size wb w1) := hb
  obtain ⟨k0, k1, _, _⟩ := (KW.out.on hb (by rw [ZW.out]; omega)).cells
  clear hb
  go_wp2_with fail
  refine (C2.out _).mono ?_
  rintro e w2 ⟨rfl, hb⟩
  have Q2 : Hid (Below wb.heap.size wb w2) := B1.out.trans (hb.mono B1.out.size)
  clear hb k0 k1 C1 C2 B1 HW
  have i1 : (0 : Int) ≤ (n : Int) - 1 := by omega
  have i2 : (n : Int) - 1 < (n : Int) := by omega
  have i3 : ((n : Int) - 1).toNat = n - 1 := by omega
  have i4 : IntKind.i64.wrap ((n : Int) - 1) = (n : Int) - 1 := IntWalk.i64_in _ (by omega)
  have B3 : Below w.heap.size w w2 := BW.out.trans (Q2.out.mono (by have := ZW.out; omega))
  obtain ⟨q0, q1⟩ := HC.out w2 B3 (n - 1) (by omega)
  have zb2 := Q2.out.size
  have HZ2 : Hid (w.heap.size < w2.heap.size) := (by have := ZW.out; show _ < _; omega)
  have K3 : Hid (B2 (w2.alloc (.cells #[.int .i64 (Sp.c0 L (n - 1)), .int .i64 (Sp.c1 L (n - 1))] 29)) w2.heap.size (Sp.c0 L (bk n 0)) (Sp.c1 L (bk n 0))) := (by rw [HBK0.out]; exact B2.new w2 _ _)
  have Q3 : Hid (Below wb.heap.size wb (w2.alloc (.cells #[.int .i64 (Sp.c0 L (n - 1)), .int .i64 (Sp.c1 L (n - 1))] 29))) := Q2.out.alloc zb2 _
  clear B3 zb2
  have ZW2 : Hid (wb.heap.size ≤ w2.heap.size) := Q2.out.size
  generalize Sp.c0 L (n - 1) = x0 at *
  generalize Sp.c1 L (n - 1) = y0 at *
  go_wp2_with fail
  go_loopw [5, 25] (fun c i wr => ∃ k : Nat, k ≤ n ∧ i = .int .i64 k ∧ c = .bool (prv L px py k) ∧ Hid (Below wb.heap.size wb wr) ∧ Hid (B2 wr w2.heap.size (Sp.c0 L (bk n k)) (Sp.c1 L (bk n k)))) (fun _ i _ => n - (intOf i).toNat)
  case atStart => exact ⟨0, by omega, rfl, rfl, Q3, K3⟩
  case round =>
    clear Q2 Q3 K3 q0 q1 i1 i2 i3 i4
    obtain ⟨k, hk, rfl, rfl, BB, KA⟩ := hrel
    by_cases hlt : k < n
    · have i1 : (0 : Int) ≤ (k : Int) := by omega
      have i2 : (k : Int) < (n : Int) := by omega
      have B3 : Below w.heap.size w wr := BW.out.trans (BB.out.mono (by have := ZW.out; omega))
      have zr := BB.out.size
      have zw := ZW.out
      have z2 := HZ2.out
      have za := KA.out.lt
      obtain ⟨q0, q1⟩ := HC.out wr B3 k hlt
      obtain ⟨k0, k1, _, _⟩ := (KW.out.on BB.out (by omega)).cells
      obtain ⟨a0, a1, _, _⟩ := KA.out.cells
      have hb1 : b < wr.heap.size := by omega
      have hb2 : ¬ b = wr.heap.size := by omega
      have hp1 : w.heap.size < wr.heap.size := by omega
      have hp2 : ¬ w.heap.size = wr.heap.size := by omega
      have ha1 : w2.heap.size < wr.heap.size := za
      have ha2 : ¬ w2.heap.size = wr.heap.size := by omega
      have EK := HS.out k hlt
      have LI := HLI.out k hlt
      have KN : Hid (B2 (wr.alloc (.cells #[.int .i64 (Sp.c0 L k), .int .i64 (Sp.c1 L k)] 29)) wr.heap.size (Sp.c0 L k) (Sp.c1 L k)) := B2.new wr _ _
      have KA2 : Hid (B2 (wr.alloc (.cells #[.int .i64 (Sp.c0 L k), .int .i64 (Sp.c1 L k)] 29)) w2.heap.size (Sp.c0 L (bk n k)) (Sp.c1 L (bk n k))) := KA.out.on ((Below.refl wr.heap.size wr).alloc (Nat.le_refl _) _) za
      have BN : Hid (Below wb.heap.size wb (wr.alloc (.cells #[.int .i64 (Sp.c0 L k), .int .i64 (Sp.c1 L k)] 29))) := BB.out.alloc zr _
      have ZN : Hid ((wr.alloc (.cells #[.int .i64 (Sp.c0 L k), .int .i64 (Sp.c1 L k)] 29)).heap.size = wr.heap.size + 1) := (by show _ = _; simp)
      have EB := HBK.out k
      have ZA : Hid (w2.heap.size < wr.heap.size ∧ wb.heap.size ≤ w2.heap.size) := ⟨za, ZW2.out⟩
      clear B3 zr zw z2 za KA BB
      have LI : Hid (∀ w', Calls Try.prog 14 #[.agg #[.int .i64 (Sp.c0 L (bk n k)), .int .i64 (Sp.c1 L (bk n k))], .agg #[.int .i64 (Sp.c0 L k), .int .i64 (Sp.c1 L k)], .agg #[.int .i64 px, .int .i64 py]] w' fun e w'' => e = .returned (.bool (lf (Sp.c0 L (bk n k)) (Sp.c1 L (bk n k)) (Sp.c0 L k) (Sp.c1 L k) px py)) ∧ Below w'.heap.size w' w'') := LI
      have EK : Hid (prv L px py (k + 1) = xor (prv L px py k) (lf (Sp.c0 L (bk n k)) (Sp.c1 L (bk n k)) (Sp.c0 L k) (Sp.c1 L k) px py)) := EK
      have HX : Hid (bk n (k + 1) = k) := EB
      clear EB
      obtain ⟨x2, hx2⟩ : ∃ x2, x2 = Sp.c0 L k := ⟨_, rfl⟩
      obtain ⟨y2, hy2⟩ : ∃ y2, y2 = Sp.c1 L k := ⟨_, rfl⟩
      have HX2 : Hid (x2 = Sp.c0 L k ∧ y2 = Sp.c1 L k) := ⟨hx2, hy2⟩
      rw [← hx2] at q0 LI EK KN KA2 BN ZN
      rw [← hy2] at q1 LI EK KN KA2 BN ZN
      clear hx2 hy2
      obtain ⟨pk, hpk⟩ : ∃ pk, pk = prv L px py k := ⟨_, rfl⟩
      rw [← hpk] at EK ⊢
      clear hpk
      generalize Sp.c0 L (bk n k) = x1 at *
      generalize Sp.c1 L (bk n k) = y1 at *
      obtain ⟨bl, hbl⟩ : ∃ bl, bl = lf x1 y1 x2 y2 px py := ⟨_, rfl⟩
      rw [← hbl] at LI EK
      clear hbl
      cases bl
      · have EP : Hid (prv L px py (k + 1) = pk) := (by show _ = _; rw [EK.out]; cases pk <;> rfl)
        clear EK
        go_wp2_with fail
        refine (LI.out _).mono ?_
        rintro e w3 ⟨rfl, hb⟩
        rw [ZN.out] at hb
        have zc := ZA.out
        have KB3 := KN.out.on hb (by omega)
        have KA3 := KA2.out.on hb (by omega)
        have BE : Hid (Below wb.heap.size wb ((w3.setCell ⟨w2.heap.size, 0, none⟩ (.int .i64 x2)).setCell ⟨w2.heap.size, 1, none⟩ (.int .i64 y2))) := ((BN.out.trans (hb.mono (by omega))).setCell (p := ⟨w2.heap.size, 0, none⟩) zc.2 _).setCell (p := ⟨w2.heap.size, 1, none⟩) zc.2 _
        have KE : Hid (B2 ((w3.setCell ⟨w2.heap.size, 0, none⟩ (.int .i64 x2)).setCell ⟨w2.heap.size, 1, none⟩ (.int .i64 y2)) w2.heap.size x2 y2) := (KA3.s0 _).s1 _
        obtain ⟨d0, d1, _, _⟩ := KB3.cells
        obtain ⟨e0, e1, e2, e3⟩ := KA3.cells
        clear zc hb KB3 KA3 KN KA2 BN ZN LI q0 q1 k0 k1 a0 a1 hb1 hb2 hp1 hp2
        go_wp2_with fail
        go_roundw
        case rel => exact ⟨k + 1, by omega, by go_num, by rw [EP.out], BE, by rw [HX.out, ← HX2.out.1, ← HX2.out.2]; exact KE⟩
        case measure => simp [intOf]; omega
      · have EP : Hid (prv L px py (k + 1) = !pk) := (by show _ = _; rw [EK.out]; cases pk <;> rfl)
        clear EK
        go_wp2_with fail
        refine (LI.out _).mono ?_
        rintro e w3 ⟨rfl, hb⟩
        rw [ZN.out] at hb
        have zc := ZA.out
        have KB3 := KN.out.on hb (by omega)
        have KA3 := KA2.out.on hb (by omega)
        have BE : Hid (Below wb.heap.size wb ((w3.setCell ⟨w2.heap.size, 0, none⟩ (.int .i64 x2)).setCell ⟨w2.heap.size, 1, none⟩ (.int .i64 y2))) := ((BN.out.trans (hb.mono (by omega))).setCell (p := ⟨w2.heap.size, 0, none⟩) zc.2 _).setCell (p := ⟨w2.heap.size, 1, none⟩) zc.2 _
        have KE : Hid (B2 ((w3.setCell ⟨w2.heap.size, 0, none⟩ (.int .i64 x2)).setCell ⟨w2.heap.size, 1, none⟩ (.int .i64 y2)) w2.heap.size x2 y2) := (KA3.s0 _).s1 _
        obtain ⟨d0, d1, _, _⟩ := KB3.cells
        obtain ⟨e0, e1, e2, e3⟩ := KA3.cells
        clear zc hb KB3 KA3 KN KA2 BN ZN LI q0 q1 k0 k1 a0 a1 hb1 hb2 hp1 hp2
        go_wp2_with fail
        go_roundw
        case rel => exact ⟨k + 1, by omega, by go_num, by rw [EP.out], BE, by rw [HX.out, ← HX2.out.1, ← HX2.out.2]; exact KE⟩
        case measure => simp [intOf]; omega
    · have hkn : k = n := by omega
      subst hkn
      have BE : Hid (Below w.heap.size w wr) := BW.out.trans (BB.out.mono (by have := ZW.out; omega))
      go_wp2_with fail
      go_ret
      exact ⟨rfl, BE.out⟩
end Go.Proofs.Ytcifmncimpeanaa.In
