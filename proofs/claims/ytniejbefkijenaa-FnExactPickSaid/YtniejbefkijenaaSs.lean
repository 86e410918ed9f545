/- Store, the model. -/
import Derived.Test.YtniejbefkijenaaSi
import Derived.Test.YtniejbefkijenaaAs
namespace Go.Proofs.Ytniejbefkijenaa.Ky
open Go.ChangeShapes Go.WideShapes Go.ChangeAt Go.RowKit
open Al Eo

theorem take_filter_succ (P : En1 → Bool) (L : En.Ls) (k : Nat) (h : k < L.length) : (L.take (k + 1)).filter P = (L.take k).filter P ++ (if P (en L k) then [en L k] else []) := by
  rw [List.take_succ_eq_append_getElem h, List.filter_append, en_get L k h]
  congr 1
  cases hp : P L[k] <;> simp [hp]
theorem filter_len (P : En1 → Bool) (L : En.Ls) (k : Nat) : ((L.take k).filter P).length ≤ k := by
  have := List.length_filter_le P (L.take k)
  rw [List.length_take] at this
  omega
theorem lit_rowE (w : World) (base : Nat) (h : base ≤ w.heap.size) : En.Row (w.alloc (Obj.cells #[] 31)) base (.slice (some ⟨w.heap.size, 0, none⟩) 0 0) [] := ⟨[], World.ownsRow_lit w #[] 0 h (Nat.zero_le _) rfl, fun i hi => by simp at hi⟩

set_option maxRecDepth 20000 in
set_option maxHeartbeats 4000000 in
theorem sstore_any (w : World) (v : Value) (L : En.Ls) (p : ByteArray) (t s l z : Int) (h : En.Reads w v L) (hf : Ft L) (hp : p.size ≤ 1048576) (X : En.Ls) (hX : X = if okS L (p, t, s, l, z) then stL L (p, t, s, l, z) else []) :
    Calls Try.prog 8 #[v, .agg #[.string p, .int .i64 t, .int .i64 s, .int .i64 l, .int .i64 z]] w fun e w' => ∃ u0, e = .returned (.tuple #[u0, .bool (okS L (p, t, s, l, z))]) ∧ En.Row w' w.heap.size u0 X ∧ Below w.heap.size w w' := by
  obtain ⟨w0, hw0⟩ : ∃ w0, w0 = w.alloc (Obj.cells #[.string p, .int .i64 t, .int .i64 s, .int .i64 l, .int .i64 z] 31) := ⟨_, rfl⟩
  have HW0 : Hid (w0 = w.alloc (Obj.cells #[.string p, .int .i64 t, .int .i64 s, .int .i64 l, .int .i64 z] 31)) := hw0
  have B0 : Hid (Below w.heap.size w w0) := (by show Below _ _ _; rw [hw0]; exact (Below.refl _ _).alloc (Nat.le_refl _) _)
  have Z0 : Hid (w0.heap.size = w.heap.size + 1) := (by show _ = _; rw [hw0]; simp)
  have KB : Hid (∀ w', Below w0.heap.size w0 w' → w'.cell? ⟨w.heap.size, 0, none⟩ = some (.string p) ∧ w'.cell? ⟨w.heap.size, 1, none⟩ = some (.int .i64 t) ∧ w'.cell? ⟨w.heap.size, 2, none⟩ = some (.int .i64 s) ∧ w'.cell? ⟨w.heap.size, 3, none⟩ = some (.int .i64 l) ∧ w'.cell? ⟨w.heap.size, 4, none⟩ = some (.int .i64 z)) := fun w' hb => (by
    have lt : w.heap.size < w0.heap.size := by have := Z0.out; omega
    refine ⟨(hb.cell (p := ⟨w.heap.size, 0, none⟩) lt).trans (by rw [hw0]; simp [go_sem]), (hb.cell (p := ⟨w.heap.size, 1, none⟩) lt).trans (by rw [hw0]; simp [go_sem]), (hb.cell (p := ⟨w.heap.size, 2, none⟩) lt).trans (by rw [hw0]; simp [go_sem]), (hb.cell (p := ⟨w.heap.size, 3, none⟩) lt).trans (by rw [hw0]; simp [go_sem]), (hb.cell (p := ⟨w.heap.size, 4, none⟩) lt).trans (by rw [hw0]; simp [go_sem])⟩)
  have BK : Hid (∀ w', Below w0.heap.size w0 w' → Below w.heap.size w w') := fun w' hb => B0.out.trans (hb.mono B0.out.size)
  have C1 : Hid (Calls Try.prog 26 #[v] w0 fun e w' => e = .returned (.bool (okA L)) ∧ Below w0.heap.size w0 w') := sarch_any w0 v L (h.on B0.out) hf
  have C2 : Hid (∀ w, Calls Try.prog 27 #[.agg #[.string p, .int .i64 t, .int .i64 s, .int .i64 l, .int .i64 z]] w fun e w' => e = .returned (.bool (eok p t s l z)) ∧ Below w.heap.size w w') := fun w => sentry_any p t s l z w hp
  obtain ⟨E, hE⟩ : ∃ E : En1, E = (p, t, s, l, z) := ⟨_, rfl⟩
  have HOK : Hid (okS L E = ((okA L && eok p t s l z) && decide ((stL L E).length ≤ 300))) := (by show _ = _; rw [hE]; rfl)
  have HE : Hid (E = (p, t, s, l, z)) := hE
  rw [← hE] at hX ⊢
  obtain ⟨bb, hbb⟩ : ∃ bb, bb = okS L E := ⟨_, rfl⟩
  have HB : Hid (bb = okS L E) := hbb
  rw [← hbb] at hX ⊢
  have HX : Hid (X = if bb then stL L E else []) := hX
  obtain ⟨a, cap, ev⟩ := h.form
  have HC : Hid (∀ (w' : World) (i : Nat), Below w.heap.size w w' → i < L.length → ∃ b o, a = some ⟨b, o, none⟩ ∧ En.Cs w' b o L i) := fun w' i hb hi => (by
    rcases h with ⟨rfl, _⟩ | ⟨b, o, c, e, _, _, x, y⟩
    · simp at hi
    · rw [e] at ev; simp at ev; exact ⟨b, o, ev.1.symm, (y i hi).below hb x⟩)
  clear hX hbb hE hw0 h hf
  obtain ⟨qa, hqa⟩ : ∃ q, q = okA L := ⟨_, rfl⟩
  obtain ⟨qe, hqe⟩ : ∃ q, q = eok p t s l z := ⟨_, rfl⟩
  have HQA : Hid (qa = okA L) := hqa
  have HQE : Hid (qe = eok p t s l z) := hqe
  rw [← hqa] at C1 HOK
  rw [← hqe] at C2 HOK
  clear hqa hqe
  subst ev
  cases qa
  · have EB : Hid (bb = false) := (by show _ = _; rw [HB.out, HOK.out]; rfl)
    have EX : Hid (X = []) := (by show _ = _; rw [HX.out, EB.out]; rfl)
    clear HOK HX HB HC
    generalize List.length L = n at *
    go_enter Try.func8, Try.ntmps8
    go_wp2_with fail
    rw [← HW0.out]
    refine C1.out.mono ?_
    rintro e w1 ⟨rfl, hb⟩
    have B1 : Hid (Below w.heap.size w w1) := BK.out w1 hb
    have RX : Hid (En.Row (w1.alloc (Obj.cells #[] 31)) w.heap.size (.slice (some ⟨w1.heap.size, 0, none⟩) 0 0) []) := lit_rowE w1 _ B1.out.size
    have BE : Hid (Below w.heap.size w (w1.alloc (Obj.cells #[] 31))) := B1.out.alloc B1.out.size _
    clear hb
    go_wp2_with fail
    go_ret2
    exact ⟨_, by rw [EB.out]; rfl, by rw [EX.out]; exact RX.out, BE.out⟩
  · cases qe
    · have EB : Hid (bb = false) := (by show _ = _; rw [HB.out, HOK.out]; rfl)
      have EX : Hid (X = []) := (by show _ = _; rw [HX.out, EB.out]; rfl)
      clear HOK HX HB HC
      generalize List.length L = n at *
      go_enter Try.func8, Try.ntmps8
      go_wp2_with fail
      rw [← HW0.out]
      refine C1.out.mono ?_
      rintro e w1 ⟨rfl, hb⟩
      have B1 : Hid (Below w0.heap.size w0 w1) := hb
      obtain ⟨k0, k1, k2, k3, k4⟩ := KB.out w1 hb
      clear hb
      go_wp2_with fail
      refine (C2.out _).mono ?_
      rintro e w2 ⟨rfl, hb⟩
      have B2 : Hid (Below w.heap.size w w2) := BK.out w2 (B1.out.trans (hb.mono B1.out.size))
      have RX : Hid (En.Row (w2.alloc (Obj.cells #[] 31)) w.heap.size (.slice (some ⟨w2.heap.size, 0, none⟩) 0 0) []) := lit_rowE w2 _ B2.out.size
      have BE : Hid (Below w.heap.size w (w2.alloc (Obj.cells #[] 31))) := B2.out.alloc B2.out.size _
      clear hb
      go_wp2_with fail
      go_ret2
      exact ⟨_, by rw [EB.out]; rfl, by rw [EX.out]; exact RX.out, BE.out⟩
    · have l3 : L.length ≤ 300 := okA_len HQA.out.symm
      obtain ⟨n, hn⟩ : ∃ n, n = List.length L := ⟨_, rfl⟩
      have HN : Hid (n = List.length L) := hn
      rw [← hn] at l3 C1 HC ⊢
      clear hn
      go_enter Try.func8, Try.ntmps8
      go_wp2_with fail
      rw [← HW0.out]
      refine C1.out.mono ?_
      rintro e w1 ⟨rfl, hb⟩
      have B1 : Hid (Below w0.heap.size w0 w1) := hb
      obtain ⟨k0, k1, k2, k3, k4⟩ := KB.out w1 hb
      clear hb
      go_wp2_with fail
      refine (C2.out _).mono ?_
      rintro e w2 ⟨rfl, hb⟩
      have B2 : Hid (Below w0.heap.size w0 w2) := B1.out.trans (hb.mono B1.out.size)
      clear hb k0 k1 k2 k3 k4
      have R00 : Hid (En.Row (w2.alloc (Obj.cells #[] 31)) w0.heap.size (.slice (some ⟨w2.heap.size, 0, none⟩) 0 0) ((L.take 0).filter (fun x => decide (ky x E < 0)))) := lit_rowE w2 _ B2.out.size
      have B00 : Hid (Below w0.heap.size w0 (w2.alloc (Obj.cells #[] 31))) := B2.out.alloc B2.out.size _
      go_wp2_with fail
      go_loopw [6, 7] (fun u i wr => ∃ k : Nat, k ≤ n ∧ i = .int .i64 k ∧ Hid (En.Row wr w0.heap.size u ((L.take k).filter (fun x => decide (ky x E < 0)))) ∧ Hid (Below w0.heap.size w0 wr)) (fun _ i _ => n - (intOf i).toNat)
      case atStart => exact ⟨0, Nat.zero_le _, rfl, R00, B00⟩
      case round =>
        obtain ⟨k, hk, rfl, RR, BB⟩ := hrel
        obtain ⟨u, hu⟩ : ∃ u, u = u6 := ⟨_, rfl⟩
        subst hu
        by_cases hlt : k < n
        · have i0 : (0 : Int) ≤ (k : Int) := by omega
          have i1 : (k : Int) < (n : Int) := by omega
          obtain ⟨b, o, rfl, _⟩ := HC.out wr k (BK.out wr BB.out) hlt
          have HS : Hid (∀ w', Below w0.heap.size w0 w' → (En.Cs w' b o L k) ∧ (w'.cell? ⟨w.heap.size, 0, none⟩ = some (.string p) ∧ w'.cell? ⟨w.heap.size, 1, none⟩ = some (.int .i64 t) ∧ w'.cell? ⟨w.heap.size, 2, none⟩ = some (.int .i64 s) ∧ w'.cell? ⟨w.heap.size, 3, none⟩ = some (.int .i64 l) ∧ w'.cell? ⟨w.heap.size, 4, none⟩ = some (.int .i64 z))) := fun w' hb => ⟨(by obtain ⟨b2, o2, e2, c⟩ := HC.out w' k (BK.out w' hb) hlt; simp at e2; obtain ⟨rfl, rfl⟩ := e2; exact c), KB.out w' hb⟩
          obtain ⟨qb, hqb⟩ : ∃ q, q = (fun x => decide (ky x E < 0)) (en L k) := ⟨_, rfl⟩
          have HQB : Hid (qb = (fun x => decide (ky x E < 0)) (en L k)) := hqb
          have CA : Hid (∀ w : World, Calls Try.prog 28 #[.agg #[.string (En.c0 L k), .int .i64 (En.c1 L k), .int .i64 (En.c2 L k), .int .i64 (En.c3 L k), .int .i64 (En.c4 L k)], .agg #[.string p, .int .i64 t, .int .i64 s, .int .i64 l, .int .i64 z]] w fun e w' => e = .returned (.bool qb) ∧ Below w.heap.size w w') := fun w => (by rw [hqb, HE.out]; exact sahead_any _ _ _ _ _ _ _ _ _ _ w)
          have NX0 : ((L.take (k + 1)).filter (fun x => decide (ky x E < 0))) = ((L.take k).filter (fun x => decide (ky x E < 0))) ++ (if qb then [en L k] else []) := (by rw [take_filter_succ (fun x => decide (ky x E < 0)) L k (by rw [← HN.out]; exact hlt), hqb])
          have NT : Hid (qb = true → ((L.take (k + 1)).filter (fun x => decide (ky x E < 0))) = ((L.take k).filter (fun x => decide (ky x E < 0))) ++ [en L k]) := fun hq => by rw [NX0, hq]; rfl
          have NF : Hid (qb = false → ((L.take (k + 1)).filter (fun x => decide (ky x E < 0))) = ((L.take k).filter (fun x => decide (ky x E < 0)))) := fun hq => by rw [NX0, hq]; simp
          clear NX0
          have LN : Hid (List.length ((L.take k).filter (fun x => decide (ky x E < 0))) + 1 ≤ 1000) := (by show _ ≤ _; have := filter_len (fun x => decide (ky x E < 0)) L k; omega)
          have EN : Hid (en L k = (En.c0 L k, En.c1 L k, En.c2 L k, En.c3 L k, En.c4 L k)) := rfl
          unfold En.Cs at HS
          clear hqb
          generalize En.c0 L k = x0 at *
          generalize En.c1 L k = x1 at *
          generalize En.c2 L k = x2 at *
          generalize En.c3 L k = x3 at *
          generalize En.c4 L k = x4 at *
          obtain ⟨⟨q0, q1, q2, q3, q4⟩, r0, r1, r2, r3, r4⟩ := HS.out wr BB.out
          have RRd : Hid (En.Row wr.drew w0.heap.size u ((L.take k).filter (fun x => decide (ky x E < 0)))) := RR.out
          go_wp2_with fail
          go_region_held3 (fun w' => (w'.cell? ⟨b, o + k * 5, none⟩ = some (.string x0) ∧ w'.cell? ⟨b, o + k * 5 + 1, none⟩ = some (.int .i64 x1) ∧ w'.cell? ⟨b, o + k * 5 + 2, none⟩ = some (.int .i64 x2) ∧ w'.cell? ⟨b, o + k * 5 + 3, none⟩ = some (.int .i64 x3) ∧ w'.cell? ⟨b, o + k * 5 + 4, none⟩ = some (.int .i64 x4)) ∧ w'.cell? ⟨w.heap.size, 0, none⟩ = some (.string p) ∧ w'.cell? ⟨w.heap.size, 1, none⟩ = some (.int .i64 t) ∧ w'.cell? ⟨w.heap.size, 2, none⟩ = some (.int .i64 s) ∧ w'.cell? ⟨w.heap.size, 3, none⟩ = some (.int .i64 l) ∧ w'.cell? ⟨w.heap.size, 4, none⟩ = some (.int .i64 z)) (go_keep)
            (first
            | (go_at_call 28; refine (CA.out _).mono ?_; rintro e w1 ⟨rfl, hb⟩; have B1 : Hid (Below w0.heap.size w0 w1) := BB.out.drew.trans (hb.mono BB.out.drew.size); have R1 : Hid (En.Row w1 w0.heap.size u ((L.take k).filter (fun x => decide (ky x E < 0)))) := RRd.out.on hb; obtain ⟨⟨s0, s1, s2, s3, s4⟩, t0, t1, t2, t3, t4⟩ := HS.out w1 B1.out; clear hb))
          cases qb
          · have R2 : Hid (En.Row w1 w0.heap.size u ((L.take (k + 1)).filter (fun x => decide (ky x E < 0)))) := (by show En.Row _ _ _ _; rw [NF.out (by trivial)]; exact R1.out)
            go_wp2_with fail
            go_roundw
            case rel => exact ⟨k + 1, by omega, by go_num, R2, B1⟩
            case measure => simp [intOf]; omega
          · have z1 : w0.heap.size ≤ w1.heap.size := B1.out.size
            have RV : Hid (En.Reads (w1.alloc (Obj.cells #[.string x0, .int .i64 x1, .int .i64 x2, .int .i64 x3, .int .i64 x4] 31)) (.slice (some ⟨w1.heap.size, 0, none⟩) 1 1) [(x0, x1, x2, x3, x4)]) := reads_one w1.heap.size x0 x1 x2 x3 x4 (by simp) (by simp [go_sem]) (by simp [go_sem]) (by simp [go_sem]) (by simp [go_sem]) (by simp [go_sem])
            have RA : Hid (En.Row (w1.alloc (Obj.cells #[.string x0, .int .i64 x1, .int .i64 x2, .int .i64 x3, .int .i64 x4] 31)) w0.heap.size u ((L.take k).filter (fun x => decide (ky x E < 0)))) := R1.out.on ((Below.refl _ _).alloc (Nat.le_refl _) _)
            go_wp2_with (at_builtin; refine En.wp_app rfl _ _ rfl (w1.alloc (Obj.cells #[.string x0, .int .i64 x1, .int .i64 x2, .int .i64 x3, .int .i64 x4] 31)) w0.heap.size u ((L.take k).filter (fun x => decide (ky x E < 0))) [(x0, x1, x2, x3, x4)] rfl RA.out (.slice (some ⟨w1.heap.size, 0, none⟩) 1 1) rfl RV.out LN.out (by simp; omega) ?_)
            · intro v' w5 hown hgrow
              have R5 : Hid (En.Row w5 w0.heap.size v' ((L.take (k + 1)).filter (fun x => decide (ky x E < 0)))) := (by show En.Row _ _ _ _; rw [NT.out (by trivial), EN.out]; exact hown)
              have B5 : Hid (Below w0.heap.size w0 w5) := (B1.out.alloc B1.out.size _).grown hgrow (by simp; have := B1.out.size; omega) (fun c hc => (RA.out.lt c hc).1)
              clear hown hgrow
              go_wp2_with fail
              go_roundw
              case rel => exact ⟨k + 1, by omega, by go_num, R5, B5⟩
              case measure => simp [intOf]; omega
        · have e : k = n := by omega
          have j1 : ¬ (k : Int) < (n : Int) := by omega
          have RF : Hid (En.Row wr w0.heap.size u (L.filter (fun x => decide (ky x E < 0)))) := (by show En.Row _ _ _ _; have := RR.out; rw [e, HN.out, List.take_length] at this; exact this)
          have LF : Hid (List.length (L.filter (fun x => decide (ky x E < 0))) + 1 ≤ 1000) := (by show _ ≤ _; have := List.length_filter_le (fun x => decide (ky x E < 0)) L; rw [← HN.out] at this; omega)
          clear RR e
          obtain ⟨k0, k1, k2, k3, k4⟩ := KB.out wr BB.out
          have z1 : w0.heap.size ≤ wr.heap.size := BB.out.size
          have RV : Hid (En.Reads (wr.alloc (Obj.cells #[.string p, .int .i64 t, .int .i64 s, .int .i64 l, .int .i64 z] 31)) (.slice (some ⟨wr.heap.size, 0, none⟩) 1 1) [(p, t, s, l, z)]) := reads_one wr.heap.size p t s l z (by simp) (by simp [go_sem]) (by simp [go_sem]) (by simp [go_sem]) (by simp [go_sem]) (by simp [go_sem])
          have RA : Hid (En.Row (wr.alloc (Obj.cells #[.string p, .int .i64 t, .int .i64 s, .int .i64 l, .int .i64 z] 31)) w0.heap.size u (L.filter (fun x => decide (ky x E < 0)))) := RF.out.on ((Below.refl _ _).alloc (Nat.le_refl _) _)
          go_wp2_with (at_builtin; refine En.wp_app rfl _ _ rfl (wr.alloc (Obj.cells #[.string p, .int .i64 t, .int .i64 s, .int .i64 l, .int .i64 z] 31)) w0.heap.size u (L.filter (fun x => decide (ky x E < 0))) [(p, t, s, l, z)] rfl RA.out (.slice (some ⟨wr.heap.size, 0, none⟩) 1 1) rfl RV.out LF.out (by simp; omega) ?_)
          intro vM wM hown hgrow
          obtain ⟨M, hM⟩ : ∃ M : En.Ls, M = L.filter (fun x => decide (ky x E < 0)) ++ [E] := ⟨_, rfl⟩
          have HMM : Hid (M = L.filter (fun x => decide (ky x E < 0)) ++ [E]) := hM
          have ML : Hid (List.length M ≤ 301) := (by show _ ≤ _; rw [hM, List.length_append]; have := List.length_filter_le (fun x => decide (ky x E < 0)) L; rw [← HN.out] at this; simp only [List.length_cons, List.length_nil]; omega)
          have R0 : Hid (En.Row wM w0.heap.size vM (M ++ (L.take 0).filter (fun x => decide (ky E x < 0)))) := (by show En.Row _ _ _ _; rw [hM, (by rw [HE.out] : [E] = [(p, t, s, l, z)])]; simpa using hown)
          have B0M : Hid (Below w0.heap.size w0 wM) := (BB.out.alloc BB.out.size _).grown hgrow (by simp; have := BB.out.size; omega) (fun c hc => (RA.out.lt c hc).1)
          clear hown hgrow hM k0 k1 k2 k3 k4
          go_wp2_with fail
          go_loopw [6, 8] (fun u i wr => ∃ k : Nat, k ≤ n ∧ i = .int .i64 k ∧ Hid (En.Row wr w0.heap.size u (M ++ (L.take k).filter (fun x => decide (ky E x < 0)))) ∧ Hid (Below w0.heap.size w0 wr)) (fun _ i _ => n - (intOf i).toNat)
          case atStart => exact ⟨0, Nat.zero_le _, rfl, R0, B0M⟩
          case round =>
            obtain ⟨k, hk, rfl, RR, BB⟩ := hrel
            obtain ⟨u, hu⟩ : ∃ u, u = u6 := ⟨_, rfl⟩
            subst hu
            by_cases hlt : k < n
            · have i0 : (0 : Int) ≤ (k : Int) := by omega
              have i1 : (k : Int) < (n : Int) := by omega
              obtain ⟨b, o, rfl, _⟩ := HC.out wr k (BK.out wr BB.out) hlt
              have HS : Hid (∀ w', Below w0.heap.size w0 w' → (En.Cs w' b o L k) ∧ (w'.cell? ⟨w.heap.size, 0, none⟩ = some (.string p) ∧ w'.cell? ⟨w.heap.size, 1, none⟩ = some (.int .i64 t) ∧ w'.cell? ⟨w.heap.size, 2, none⟩ = some (.int .i64 s) ∧ w'.cell? ⟨w.heap.size, 3, none⟩ = some (.int .i64 l) ∧ w'.cell? ⟨w.heap.size, 4, none⟩ = some (.int .i64 z))) := fun w' hb => ⟨(by obtain ⟨b2, o2, e2, c⟩ := HC.out w' k (BK.out w' hb) hlt; simp at e2; obtain ⟨rfl, rfl⟩ := e2; exact c), KB.out w' hb⟩
              obtain ⟨qb, hqb⟩ : ∃ q, q = (fun x => decide (ky E x < 0)) (en L k) := ⟨_, rfl⟩
              have HQB : Hid (qb = (fun x => decide (ky E x < 0)) (en L k)) := hqb
              have CA : Hid (∀ w : World, Calls Try.prog 28 #[.agg #[.string p, .int .i64 t, .int .i64 s, .int .i64 l, .int .i64 z], .agg #[.string (En.c0 L k), .int .i64 (En.c1 L k), .int .i64 (En.c2 L k), .int .i64 (En.c3 L k), .int .i64 (En.c4 L k)]] w fun e w' => e = .returned (.bool qb) ∧ Below w.heap.size w w') := fun w => (by rw [hqb, HE.out]; exact sahead_any _ _ _ _ _ _ _ _ _ _ w)
              have NX0 : (M ++ (L.take (k + 1)).filter (fun x => decide (ky E x < 0))) = (M ++ (L.take k).filter (fun x => decide (ky E x < 0))) ++ (if qb then [en L k] else []) := (by rw [take_filter_succ (fun x => decide (ky E x < 0)) L k (by rw [← HN.out]; exact hlt), hqb, List.append_assoc])
              have NT : Hid (qb = true → (M ++ (L.take (k + 1)).filter (fun x => decide (ky E x < 0))) = (M ++ (L.take k).filter (fun x => decide (ky E x < 0))) ++ [en L k]) := fun hq => by rw [NX0, hq]; rfl
              have NF : Hid (qb = false → (M ++ (L.take (k + 1)).filter (fun x => decide (ky E x < 0))) = (M ++ (L.take k).filter (fun x => decide (ky E x < 0)))) := fun hq => by rw [NX0, hq]; simp
              clear NX0
              have LN : Hid (List.length (M ++ (L.take k).filter (fun x => decide (ky E x < 0))) + 1 ≤ 1000) := (by show _ ≤ _; have := filter_len (fun x => decide (ky E x < 0)) L k; have := ML.out; rw [List.length_append]; omega)
              have EN : Hid (en L k = (En.c0 L k, En.c1 L k, En.c2 L k, En.c3 L k, En.c4 L k)) := rfl
              unfold En.Cs at HS
              clear hqb
              generalize En.c0 L k = x0 at *
              generalize En.c1 L k = x1 at *
              generalize En.c2 L k = x2 at *
              generalize En.c3 L k = x3 at *
              generalize En.c4 L k = x4 at *
              obtain ⟨⟨q0, q1, q2, q3, q4⟩, r0, r1, r2, r3, r4⟩ := HS.out wr BB.out
              have RRd : Hid (En.Row wr.drew w0.heap.size u (M ++ (L.take k).filter (fun x => decide (ky E x < 0)))) := RR.out
              go_wp2_with fail
              go_region_held3 (fun w' => (w'.cell? ⟨b, o + k * 5, none⟩ = some (.string x0) ∧ w'.cell? ⟨b, o + k * 5 + 1, none⟩ = some (.int .i64 x1) ∧ w'.cell? ⟨b, o + k * 5 + 2, none⟩ = some (.int .i64 x2) ∧ w'.cell? ⟨b, o + k * 5 + 3, none⟩ = some (.int .i64 x3) ∧ w'.cell? ⟨b, o + k * 5 + 4, none⟩ = some (.int .i64 x4)) ∧ w'.cell? ⟨w.heap.size, 0, none⟩ = some (.string p) ∧ w'.cell? ⟨w.heap.size, 1, none⟩ = some (.int .i64 t) ∧ w'.cell? ⟨w.heap.size, 2, none⟩ = some (.int .i64 s) ∧ w'.cell? ⟨w.heap.size, 3, none⟩ = some (.int .i64 l) ∧ w'.cell? ⟨w.heap.size, 4, none⟩ = some (.int .i64 z)) (go_keep)
                (first
                | (go_at_call 28; refine (CA.out _).mono ?_; rintro e w1 ⟨rfl, hb⟩; have B1 : Hid (Below w0.heap.size w0 w1) := BB.out.drew.trans (hb.mono BB.out.drew.size); have R1 : Hid (En.Row w1 w0.heap.size u (M ++ (L.take k).filter (fun x => decide (ky E x < 0)))) := RRd.out.on hb; obtain ⟨⟨s0, s1, s2, s3, s4⟩, t0, t1, t2, t3, t4⟩ := HS.out w1 B1.out; clear hb))
              cases qb
              · have R2 : Hid (En.Row w1 w0.heap.size u (M ++ (L.take (k + 1)).filter (fun x => decide (ky E x < 0)))) := (by show En.Row _ _ _ _; rw [NF.out (by trivial)]; exact R1.out)
                go_wp2_with fail
                go_roundw
                case rel => exact ⟨k + 1, by omega, by go_num, R2, B1⟩
                case measure => simp [intOf]; omega
              · have z1 : w0.heap.size ≤ w1.heap.size := B1.out.size
                have RV : Hid (En.Reads (w1.alloc (Obj.cells #[.string x0, .int .i64 x1, .int .i64 x2, .int .i64 x3, .int .i64 x4] 31)) (.slice (some ⟨w1.heap.size, 0, none⟩) 1 1) [(x0, x1, x2, x3, x4)]) := reads_one w1.heap.size x0 x1 x2 x3 x4 (by simp) (by simp [go_sem]) (by simp [go_sem]) (by simp [go_sem]) (by simp [go_sem]) (by simp [go_sem])
                have RA : Hid (En.Row (w1.alloc (Obj.cells #[.string x0, .int .i64 x1, .int .i64 x2, .int .i64 x3, .int .i64 x4] 31)) w0.heap.size u (M ++ (L.take k).filter (fun x => decide (ky E x < 0)))) := R1.out.on ((Below.refl _ _).alloc (Nat.le_refl _) _)
                go_wp2_with (at_builtin; refine En.wp_app rfl _ _ rfl (w1.alloc (Obj.cells #[.string x0, .int .i64 x1, .int .i64 x2, .int .i64 x3, .int .i64 x4] 31)) w0.heap.size u (M ++ (L.take k).filter (fun x => decide (ky E x < 0))) [(x0, x1, x2, x3, x4)] rfl RA.out (.slice (some ⟨w1.heap.size, 0, none⟩) 1 1) rfl RV.out LN.out (by simp; omega) ?_)
                · intro v' w5 hown hgrow
                  have R5 : Hid (En.Row w5 w0.heap.size v' (M ++ (L.take (k + 1)).filter (fun x => decide (ky E x < 0)))) := (by show En.Row _ _ _ _; rw [NT.out (by trivial), EN.out]; exact (by simpa [List.append_assoc] using hown))
                  have B5 : Hid (Below w0.heap.size w0 w5) := (B1.out.alloc B1.out.size _).grown hgrow (by simp; have := B1.out.size; omega) (fun c hc => (RA.out.lt c hc).1)
                  clear hown hgrow
                  go_wp2_with fail
                  go_roundw
                  case rel => exact ⟨k + 1, by omega, by go_num, R5, B5⟩
                  case measure => simp [intOf]; omega
            · have e : k = n := by omega
              have j1 : ¬ (k : Int) < (n : Int) := by omega
              have RE : Hid (En.Row wr w0.heap.size u (stL L E)) := (by
                show En.Row _ _ _ _
                have := RR.out
                rw [e, HN.out, List.take_length] at this
                unfold stL
                rw [← HMM.out]
                exact this)
              obtain ⟨va, vc, ev⟩ := RE.out.form
              have HBB := HB.out
              have HOK2 : Hid (bb = decide ((stL L E).length ≤ 300)) := (by show _ = _; rw [HB.out, HOK.out]; rfl)
              have BE : Hid (Below w.heap.size w wr) := BK.out wr BB.out
              subst ev
              clear RR HBB e
              by_cases h3 : (stL L E).length ≤ 300
              · have EB : Hid (bb = true) := (by show _ = _; rw [HOK2.out]; exact decide_eq_true h3)
                have EX : Hid (X = stL L E) := (by show _ = _; rw [HX.out, EB.out]; rfl)
                have RX : Hid (En.Row wr w.heap.size (.slice va (List.length (stL L E)) vc) X) := (by show En.Row _ _ _ _; rw [EX.out]; exact row_mono RE.out (by have := Z0.out; omega))
                have h3' : ¬ (300 : Int) < (List.length (stL L E) : Int) := by omega
                generalize List.length (stL L E) = m at *
                go_wp2_with fail
                go_ret2
                exact ⟨_, by rw [EB.out]; rfl, RX.out, BE.out⟩
              · have EB : Hid (bb = false) := (by show _ = _; rw [HOK2.out]; exact decide_eq_false h3)
                have EX : Hid (X = []) := (by show _ = _; rw [HX.out, EB.out]; rfl)
                have h3' : (300 : Int) < (List.length (stL L E) : Int) := by omega
                have RX : Hid (En.Row (wr.alloc (Obj.cells #[] 31)) w.heap.size (.slice (some ⟨wr.heap.size, 0, none⟩) 0 0) X) := (by show En.Row _ _ _ _; rw [EX.out]; exact lit_rowE wr _ BE.out.size)
                have BE2 : Hid (Below w.heap.size w (wr.alloc (Obj.cells #[] 31))) := BE.out.alloc BE.out.size _
                generalize List.length (stL L E) = m at *
                go_wp2_with fail
                go_ret2
                exact ⟨_, by rw [EB.out]; rfl, RX.out, BE2.out⟩
end Go.Proofs.Ytniejbefkijenaa.Ky
