/- Store, the program. -/
import Derived.Test.YtniejbefkijenaaSp
namespace Go.Proofs.Ytniejbefkijenaa.Ky
open Go.ChangeShapes Go.WideShapes Go.ChangeAt Go.RowKit
open Al Eo

theorem row_mono {w : World} {base base' : Nat} {v : Value} {L : En.Ls} (h : En.Row w base v L) (hb : base' ≤ base) : En.Row w base' v L := by
  obtain ⟨xs, ⟨h0, h1⟩, h2⟩ := h
  refine ⟨xs, ⟨h0, ?_⟩, h2⟩
  rcases h1 with x | ⟨g, cap, cur, a, b, c⟩
  · exact Or.inl x
  · exact Or.inr ⟨g, cap, cur, a, Nat.le_trans hb b, c⟩
set_option maxRecDepth 20000 in
set_option maxHeartbeats 2000000 in
theorem istore_any (w : World) (v : Value) (L : En.Ls) (p : ByteArray) (t s l z : Int) (h : En.Reads w v L) (hf : Ft L) (hp : p.size ≤ 1048576) (X : En.Ls) (hX : X = if okS L (p, t, s, l, z) then stL L (p, t, s, l, z) else []) :
    Calls Try.prog 11 #[v, .agg #[.string p, .int .i64 t, .int .i64 s, .int .i64 l, .int .i64 z]] w fun e w' => ∃ u0, e = .returned (.tuple #[u0, .bool (okS L (p, t, s, l, z))]) ∧ En.Row w' w.heap.size u0 X ∧ Below w.heap.size w w' := by
  obtain ⟨w0, hw0⟩ : ∃ w0, w0 = w.alloc (Obj.cells #[.string p, .int .i64 t, .int .i64 s, .int .i64 l, .int .i64 z] 31) := ⟨_, rfl⟩
  have HW0 : Hid (w0 = w.alloc (Obj.cells #[.string p, .int .i64 t, .int .i64 s, .int .i64 l, .int .i64 z] 31)) := hw0
  have B0 : Hid (Below w.heap.size w w0) := (by show Below _ _ _; rw [hw0]; exact (Below.refl _ _).alloc (Nat.le_refl _) _)
  have Z0 : Hid (w0.heap.size = w.heap.size + 1) := (by show _ = _; rw [hw0]; simp)
  have KB : Hid (∀ w', Below w0.heap.size w0 w' → w'.cell? ⟨w.heap.size, 0, none⟩ = some (.string p) ∧ w'.cell? ⟨w.heap.size, 1, none⟩ = some (.int .i64 t) ∧ w'.cell? ⟨w.heap.size, 2, none⟩ = some (.int .i64 s) ∧ w'.cell? ⟨w.heap.size, 3, none⟩ = some (.int .i64 l) ∧ w'.cell? ⟨w.heap.size, 4, none⟩ = some (.int .i64 z)) := fun w' hb => (by
    have lt : w.heap.size < w0.heap.size := by have := Z0.out; omega
    refine ⟨(hb.cell (p := ⟨w.heap.size, 0, none⟩) lt).trans (by rw [hw0]; simp [go_sem]), (hb.cell (p := ⟨w.heap.size, 1, none⟩) lt).trans (by rw [hw0]; simp [go_sem]), (hb.cell (p := ⟨w.heap.size, 2, none⟩) lt).trans (by rw [hw0]; simp [go_sem]), (hb.cell (p := ⟨w.heap.size, 3, none⟩) lt).trans (by rw [hw0]; simp [go_sem]), (hb.cell (p := ⟨w.heap.size, 4, none⟩) lt).trans (by rw [hw0]; simp [go_sem])⟩)
  have BK : Hid (∀ w', Below w0.heap.size w0 w' → Below w.heap.size w w') := fun w' hb => B0.out.trans (hb.mono B0.out.size)
  have C1 : Hid (Calls Try.prog 29 #[v] w0 fun e w' => e = .returned (.bool (okA L)) ∧ Below w0.heap.size w0 w') := iarch_any w0 v L (h.on B0.out) hf
  have C2 : Hid (∀ w, Calls Try.prog 30 #[.agg #[.string p, .int .i64 t, .int .i64 s, .int .i64 l, .int .i64 z]] w fun e w' => e = .returned (.bool (eok p t s l z)) ∧ Below w.heap.size w w') := fun w => ientry_any p t s l z w hp
  have C3 : Hid (okA L = true → ∀ w', Below w0.heap.size w0 w' → Calls Try.prog 31 #[v, .agg #[.string p, .int .i64 t, .int .i64 s, .int .i64 l, .int .i64 z], .func (.func 32) #[] #[]] w' fun e w'' => ∃ q : Nat, e = .returned (.tuple #[.int .i64 q, .bool (thr L (p, t, s, l, z) q)]) ∧ Ps L (p, t, s, l, z) q ∧ Below w'.heap.size w' w'') := fun hk w' hb => search_any w' v L p t s l z (h.on (BK.out w' hb)) (okA_len hk) (by unfold okA at hk; simp only [Bool.and_eq_true] at hk; exact hk.2)
  have HRI : Hid (okA L = true → riss L L.length = true) := fun hk => by unfold okA at hk; simp only [Bool.and_eq_true] at hk; exact hk.2
  have HRD : Hid (∀ w', Below w0.heap.size w0 w' → En.Reads w' v L) := fun w' hb => h.on (BK.out w' hb)
  obtain ⟨E, hE⟩ : ∃ E : En1, E = (p, t, s, l, z) := ⟨_, rfl⟩
  have HOK : Hid (okS L E = ((okA L && eok p t s l z) && decide ((stL L E).length ≤ 300))) := (by show _ = _; rw [hE]; rfl)
  have HE : Hid (E = (p, t, s, l, z)) := hE
  rw [← hE] at hX C3 ⊢
  obtain ⟨bb, hbb⟩ : ∃ bb, bb = okS L E := ⟨_, rfl⟩
  have HB : Hid (bb = okS L E) := hbb
  rw [← hbb] at hX ⊢
  have HX : Hid (X = if bb then stL L E else []) := hX
  obtain ⟨a, cap, ev⟩ := h.form
  have HCP : Hid (L.length ≤ 300 → List.length L ≤ cap ∨ L = []) := fun _ => by
    rcases h with ⟨e, _⟩ | ⟨b, o, c, e, h1, _⟩
    · exact Or.inr e
    · rw [e] at ev; simp at ev; rw [← ev.2]; exact Or.inl h1
  clear hX hbb hE hw0 h hf
  obtain ⟨qa, hqa⟩ : ∃ q, q = okA L := ⟨_, rfl⟩
  obtain ⟨qe, hqe⟩ : ∃ q, q = eok p t s l z := ⟨_, rfl⟩
  have HQA : Hid (qa = okA L) := hqa
  have HQE : Hid (qe = eok p t s l z) := hqe
  rw [← hqa] at C1 C3 HRI HOK
  rw [← hqe] at C2 HOK
  clear hqa hqe
  subst ev
  cases qa
  · have EB : Hid (bb = false) := (by show _ = _; rw [HB.out, HOK.out]; rfl)
    have EX : Hid (X = []) := (by show _ = _; rw [HX.out, EB.out]; rfl)
    clear C3 HRI HOK HX HB HCP
    generalize List.length L = n at *
    go_enter Try.func11, Try.ntmps11
    go_wp2_with fail
    rw [← HW0.out]
    refine C1.out.mono ?_
    rintro e w1 ⟨rfl, hb⟩
    have B1 : Hid (Below w.heap.size w w1) := BK.out w1 hb
    go_wp2_with fail
    go_ret2
    exact ⟨_, by rw [EB.out]; rfl, by rw [EX.out]; exact nil_rowE _ _, B1.out⟩
  · obtain ⟨k0_0, k0_1, k0_2, k0_3, k0_4⟩ := KB.out w0 (Below.refl _ _)
    cases qe
    · have EB : Hid (bb = false) := (by show _ = _; rw [HB.out, HOK.out]; rfl)
      have EX : Hid (X = []) := (by show _ = _; rw [HX.out, EB.out]; rfl)
      clear C3 HRI HOK HX HB HCP k0_0 k0_1 k0_2 k0_3 k0_4
      generalize List.length L = n at *
      go_enter Try.func11, Try.ntmps11
      go_wp2_with fail
      rw [← HW0.out]
      refine C1.out.mono ?_
      rintro e w1 ⟨rfl, hb⟩
      have B1 : Hid (Below w0.heap.size w0 w1) := hb
      obtain ⟨k0, k1, k2, k3, k4⟩ := KB.out w1 hb
      clear hb
      go_wp2_with fail
      refine (C2.out _).mono ?_
      rintro e w2 ⟨rfl, hb⟩
      have B2 : Hid (Below w.heap.size w w2) := BK.out w2 (B1.out.trans (hb.mono B1.out.size))
      clear hb
      go_wp2_with fail
      go_ret2
      exact ⟨_, by rw [EB.out]; rfl, by rw [EX.out]; exact nil_rowE _ _, B2.out⟩
    · have HR := HRI.out rfl
      have l3 : L.length ≤ 300 := okA_len HQA.out.symm
      have C3' : Hid (∀ w', Below w0.heap.size w0 w' → Calls Try.prog 31 #[.slice a (List.length L) cap, .agg #[.string p, .int .i64 t, .int .i64 s, .int .i64 l, .int .i64 z], .func (.func 32) #[] #[]] w' fun e w'' => ∃ q : Nat, e = .returned (.tuple #[.int .i64 q, .bool (thr L E q)]) ∧ Ps L E q ∧ Below w'.heap.size w' w'') := C3.out rfl
      have HOK2 : Hid (bb = decide ((stL L E).length ≤ 300)) := (by show _ = _; rw [HB.out, HOK.out]; rfl)
      have HSL : Hid (∀ q, Ps L E q → (stL L E).length = if thr L E q then L.length else L.length + 1) := fun q hq => st_len HR hq
      have HSE : Hid (∀ q, Ps L E q → stL L E = L.take q ++ [E] ++ L.drop (bh L E q)) := fun q hq => st_eq HR hq
      have HCP2 := HCP.out l3
      have HTK : Hid (∀ w', Below w0.heap.size w0 w' → ∀ q, q ≤ L.length → En.Reads w' (.slice a q cap) (L.take q)) := fun w' hb q hq => reads_take (HRD.out w' hb) q hq
      have HDR : Hid (∀ w', Below w0.heap.size w0 w' → ∀ q, q ≤ L.length → En.Reads w' (.slice (if cap = q then a else a.map (fun x : Addr => x.add (q * 5))) (L.length - q) (cap - q)) (L.drop q)) := fun w' hb q hq => reads_drop (HRD.out w' hb) q hq
      have HQL : Hid (∀ q, q ≤ L.length → q ≤ cap) := fun q hq => by
        rcases HCP2 with x | x
        · omega
        · rw [x] at hq; simp at hq; omega
      clear C3 HRI HOK HCP HCP2 HR
      obtain ⟨n, hn⟩ : ∃ n, n = List.length L := ⟨_, rfl⟩
      have HN : Hid (n = List.length L) := hn
      rw [← hn] at l3 C1 C3' HSL HTK HDR HQL HRD ⊢
      clear hn k0_0 k0_1 k0_2 k0_3 k0_4
      go_enter Try.func11, Try.ntmps11
      go_wp2_with fail
      rw [← HW0.out]
      refine C1.out.mono ?_
      rintro e w1 ⟨rfl, hb⟩
      have B1 : Hid (Below w0.heap.size w0 w1) := hb
      obtain ⟨k0, k1, k2, k3, k4⟩ := KB.out w1 hb
      clear hb
      go_wp2_with fail
      refine (C2.out _).mono ?_
      rintro e w2 ⟨rfl, hb⟩
      have B2 : Hid (Below w0.heap.size w0 w2) := B1.out.trans (hb.mono B1.out.size)
      clear hb k0 k1 k2 k3 k4
      obtain ⟨k0, k1, k2, k3, k4⟩ := KB.out w2 B2.out
      go_wp2_with fail
      refine (C3'.out w2 B2.out).mono ?_
      rintro e w3 ⟨q, rfl, hps, hb⟩
      have B3 : Hid (Below w0.heap.size w0 w3) := B2.out.trans (hb.mono B2.out.size)
      clear hb k0 k1 k2 k3 k4
      obtain ⟨k0, k1, k2, k3, k4⟩ := KB.out w3 B3.out
      have hbh := bh_le hps
      have SL := HSL.out q hps
      have SE : Hid (stL L E = L.take q ++ [E] ++ L.drop (bh L E q)) := HSE.out q hps
      have hle := hps.le
      rw [← HN.out] at hle hbh
      have hq63 : q < 9223372036854775807 := by omega
      have ew : IntKind.i64.wrap ((q : Int) + 1) = (q : Int) + 1 := IntWalk.i64_in _ (by omega)
      unfold bh at hbh SE
      clear C1 C2 C3' HSL HSE hps
      obtain ⟨th, hth⟩ : ∃ th, th = thr L E q := ⟨_, rfl⟩
      rw [← hth] at hbh SL SE ⊢
      clear hth
      cases th
      · by_cases h300 : n = 300
        · have EB : Hid (bb = false) := (by show _ = _; rw [HOK2.out, SL]; apply decide_eq_false; simp; omega)
          have EX : Hid (X = []) := (by show _ = _; rw [HX.out, EB.out]; rfl)
          have e3 : ((n : Int) == 300) = true := by simp; omega
          have BE : Hid (Below w.heap.size w w3) := BK.out w3 B3.out
          clear h300 SL
          go_wp2_with fail
          go_ret2
          exact ⟨_, by rw [EB.out]; rfl, by rw [EX.out]; exact nil_rowE _ _, BE.out⟩
        · have EB : Hid (bb = true) := (by show _ = _; rw [HOK2.out, SL]; apply decide_eq_true; simp; omega)
          have e3 : ((n : Int) == 300) = false := by simp; omega
          clear h300 SL
          have EX : Hid (X = L.take q ++ [E] ++ L.drop (q)) := (by show _ = _; rw [HX.out, EB.out, if_pos rfl, SE.out]; rfl)
          have HS0 : ∀ w, (Instr.slice 27 (.slice a n cap) none (some (.int .i64 (q : Int))) none).run Try.prog w = .ok (.slice a q cap) w := slice_h a n cap q (HQL.out q (by omega))
          have HS2' : ∀ w, (Instr.slice 27 (.slice a n cap) (some (.int .i64 ((q : Nat) : Int))) none none).run Try.prog w = .ok (.slice (if cap = q then a else a.map (fun x : Addr => x.add ((q) * 5))) (n - (q)) (cap - (q))) w := slice_l a n cap (q) (by have := hbh.2; simp at this; omega)
          have eb : ((q : Nat) : Int) = ((q : Nat) : Int) := by simp
          rw [eb] at HS2'
          have RT : Hid (∀ w', Below w0.heap.size w0 w' → En.Reads w' (.slice a q cap) (L.take q)) := fun w' hb => HTK.out w' hb q hle
          have RDR : Hid (∀ w', Below w0.heap.size w0 w' → En.Reads w' (.slice (if cap = q then a else a.map (fun x : Addr => x.add ((q) * 5))) (n - (q)) (cap - (q))) (L.drop (q))) := fun w' hb => HDR.out w' hb (q) (by have := hbh.2; simp at this; omega)
          have LN : Hid ((L.take q).length + 1 + (L.drop (q)).length ≤ 1000) := (by show _ ≤ _; rw [List.length_take, List.length_drop, ← HN.out]; omega)
          generalize (if cap = q then a else a.map (fun x : Addr => x.add ((q) * 5))) = A2 at *
          generalize n - (q) = m2 at *
          generalize cap - (q) = c2 at *
          have CC : Hid (Calls Try.prog 33 #[.slice (some ⟨w3.heap.size + 1, 0, none⟩) 3 3] ((w3.alloc (Obj.cells #[.string p, .int .i64 t, .int .i64 s, .int .i64 l, .int .i64 z] 31)).alloc (Obj.cells #[.slice a q cap, .slice (some ⟨w3.heap.size, 0, none⟩) 1 1, .slice A2 m2 c2] 27)).drew fun e w' => ∃ v, e = .returned v ∧ En.Row w' w.heap.size v X ∧ Below w0.heap.size w0 w') := (by
            have b4 : Below w0.heap.size w0 (w3.alloc (Obj.cells #[.string p, .int .i64 t, .int .i64 s, .int .i64 l, .int .i64 z] 31)) := B3.out.alloc B3.out.size _
            have b5 : Below w0.heap.size w0 ((w3.alloc (Obj.cells #[.string p, .int .i64 t, .int .i64 s, .int .i64 l, .int .i64 z] 31)).alloc (Obj.cells #[.slice a q cap, .slice (some ⟨w3.heap.size, 0, none⟩) 1 1, .slice A2 m2 c2] 27)).drew := (b4.alloc b4.size _).drew
            have zz : ((w3.alloc (Obj.cells #[.string p, .int .i64 t, .int .i64 s, .int .i64 l, .int .i64 z] 31)).alloc (Obj.cells #[.slice a q cap, .slice (some ⟨w3.heap.size, 0, none⟩) 1 1, .slice A2 m2 c2] 27)).drew.heap.size = w3.heap.size + 2 := by simp
            refine (En.concat_any (L.take q) [E] (L.drop (q)) (.slice a q cap) (.slice (some ⟨w3.heap.size, 0, none⟩) 1 1) (.slice A2 m2 c2) (w3.heap.size + 1) _ (RT.out _ b5) (by rw [HE.out]; exact reads_one w3.heap.size p t s l z (by rw [zz]; omega) (by simp [go_sem]) (by simp [go_sem]) (by simp [go_sem]) (by simp [go_sem]) (by simp [go_sem])) (RDR.out _ b5) (by simp; omega) (by have := LN.out; simpa using this) (by rw [zz]; omega) (by simp [go_sem]) (by simp [go_sem]) (by simp [go_sem])).mono ?_
            rintro e w4 ⟨u, rfl, hr, hb⟩
            refine ⟨u, rfl, ?_, b5.trans (hb.mono b5.size)⟩
            rw [EX.out]
            exact row_mono hr (by rw [zz]; have := B3.out.size; have := Z0.out; omega))
          go_wp2_with fail
          go_region_held3 (fun w' => w'.cell? ⟨w.heap.size, 0, none⟩ = some (.string p) ∧ w'.cell? ⟨w.heap.size, 1, none⟩ = some (.int .i64 t) ∧ w'.cell? ⟨w.heap.size, 2, none⟩ = some (.int .i64 s) ∧ w'.cell? ⟨w.heap.size, 3, none⟩ = some (.int .i64 l) ∧ w'.cell? ⟨w.heap.size, 4, none⟩ = some (.int .i64 z)) (go_keep)
            (first
            | (go_at_call 33; refine CC.out.mono ?_; rintro e w4 ⟨u, rfl, hr, hb⟩; have B4 : Hid (Below w0.heap.size w0 w4) := hb; have R4 : Hid (En.Row w4 w.heap.size u X) := hr; obtain ⟨kk0, kk1, kk2, kk3, kk4⟩ := KB.out w4 hb; clear hb hr))
          go_wp2_with fail
          go_ret2
          exact ⟨_, by rw [EB.out]; rfl, R4.out, BK.out _ B4.out⟩
      · have EB : Hid (bb = true) := (by show _ = _; rw [HOK2.out, SL]; apply decide_eq_true; simp; omega)
        clear SL
        have EX : Hid (X = L.take q ++ [E] ++ L.drop (q + 1)) := (by show _ = _; rw [HX.out, EB.out, if_pos rfl, SE.out]; rfl)
        have HS0 : ∀ w, (Instr.slice 27 (.slice a n cap) none (some (.int .i64 (q : Int))) none).run Try.prog w = .ok (.slice a q cap) w := slice_h a n cap q (HQL.out q (by omega))
        have HS2' : ∀ w, (Instr.slice 27 (.slice a n cap) (some (.int .i64 ((q + 1 : Nat) : Int))) none none).run Try.prog w = .ok (.slice (if cap = q + 1 then a else a.map (fun x : Addr => x.add ((q + 1) * 5))) (n - (q + 1)) (cap - (q + 1))) w := slice_l a n cap (q + 1) (by have := hbh.2; simp at this; omega)
        have eb : ((q + 1 : Nat) : Int) = ((q : Int) + 1) := by simp
        rw [eb] at HS2'
        have RT : Hid (∀ w', Below w0.heap.size w0 w' → En.Reads w' (.slice a q cap) (L.take q)) := fun w' hb => HTK.out w' hb q hle
        have RDR : Hid (∀ w', Below w0.heap.size w0 w' → En.Reads w' (.slice (if cap = q + 1 then a else a.map (fun x : Addr => x.add ((q + 1) * 5))) (n - (q + 1)) (cap - (q + 1))) (L.drop (q + 1))) := fun w' hb => HDR.out w' hb (q + 1) (by have := hbh.2; simp at this; omega)
        have LN : Hid ((L.take q).length + 1 + (L.drop (q + 1)).length ≤ 1000) := (by show _ ≤ _; rw [List.length_take, List.length_drop, ← HN.out]; omega)
        generalize (if cap = q + 1 then a else a.map (fun x : Addr => x.add ((q + 1) * 5))) = A2 at *
        generalize n - (q + 1) = m2 at *
        generalize cap - (q + 1) = c2 at *
        have CC : Hid (Calls Try.prog 33 #[.slice (some ⟨w3.heap.size + 1, 0, none⟩) 3 3] ((w3.alloc (Obj.cells #[.string p, .int .i64 t, .int .i64 s, .int .i64 l, .int .i64 z] 31)).alloc (Obj.cells #[.slice a q cap, .slice (some ⟨w3.heap.size, 0, none⟩) 1 1, .slice A2 m2 c2] 27)).drew fun e w' => ∃ v, e = .returned v ∧ En.Row w' w.heap.size v X ∧ Below w0.heap.size w0 w') := (by
          have b4 : Below w0.heap.size w0 (w3.alloc (Obj.cells #[.string p, .int .i64 t, .int .i64 s, .int .i64 l, .int .i64 z] 31)) := B3.out.alloc B3.out.size _
          have b5 : Below w0.heap.size w0 ((w3.alloc (Obj.cells #[.string p, .int .i64 t, .int .i64 s, .int .i64 l, .int .i64 z] 31)).alloc (Obj.cells #[.slice a q cap, .slice (some ⟨w3.heap.size, 0, none⟩) 1 1, .slice A2 m2 c2] 27)).drew := (b4.alloc b4.size _).drew
          have zz : ((w3.alloc (Obj.cells #[.string p, .int .i64 t, .int .i64 s, .int .i64 l, .int .i64 z] 31)).alloc (Obj.cells #[.slice a q cap, .slice (some ⟨w3.heap.size, 0, none⟩) 1 1, .slice A2 m2 c2] 27)).drew.heap.size = w3.heap.size + 2 := by simp
          refine (En.concat_any (L.take q) [E] (L.drop (q + 1)) (.slice a q cap) (.slice (some ⟨w3.heap.size, 0, none⟩) 1 1) (.slice A2 m2 c2) (w3.heap.size + 1) _ (RT.out _ b5) (by rw [HE.out]; exact reads_one w3.heap.size p t s l z (by rw [zz]; omega) (by simp [go_sem]) (by simp [go_sem]) (by simp [go_sem]) (by simp [go_sem]) (by simp [go_sem])) (RDR.out _ b5) (by simp; omega) (by have := LN.out; simpa using this) (by rw [zz]; omega) (by simp [go_sem]) (by simp [go_sem]) (by simp [go_sem])).mono ?_
          rintro e w4 ⟨u, rfl, hr, hb⟩
          refine ⟨u, rfl, ?_, b5.trans (hb.mono b5.size)⟩
          rw [EX.out]
          exact row_mono hr (by rw [zz]; have := B3.out.size; have := Z0.out; omega))
        go_wp2_with fail
        go_region_held3 (fun w' => w'.cell? ⟨w.heap.size, 0, none⟩ = some (.string p) ∧ w'.cell? ⟨w.heap.size, 1, none⟩ = some (.int .i64 t) ∧ w'.cell? ⟨w.heap.size, 2, none⟩ = some (.int .i64 s) ∧ w'.cell? ⟨w.heap.size, 3, none⟩ = some (.int .i64 l) ∧ w'.cell? ⟨w.heap.size, 4, none⟩ = some (.int .i64 z)) (go_keep)
          (first
          | (go_at_call 33; refine CC.out.mono ?_; rintro e w4 ⟨u, rfl, hr, hb⟩; have B4 : Hid (Below w0.heap.size w0 w4) := hb; have R4 : Hid (En.Row w4 w.heap.size u X) := hr; obtain ⟨kk0, kk1, kk2, kk3, kk4⟩ := KB.out w4 hb; clear hb hr))
        go_wp2_with fail
        go_ret2
        exact ⟨_, by rw [EB.out]; rfl, R4.out, BK.out _ B4.out⟩
end Go.Proofs.Ytniejbefkijenaa.Ky
