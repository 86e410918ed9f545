/- A suite copied: the model. -/
import Derived.Test.YtfhpomfdkpfooaaCp
import Derived.Deep.RegionHeld3
import Derived.Deep.Cut
import Derived.Deep.DeepCutAuto
import Derived.Deep.DeepMust
import Derived.Deep.DrawnRows
namespace Go.Proofs.Ytfhpomfdkpfooaa.Cp
open Go.ChangeShapes Go.WideShapes Go.ChangeAt Go.RowKit
open Go.Proofs.Ytfhpomfdkpfooaa.Lists Go.Proofs.Ytfhpomfdkpfooaa.Tm Go.Proofs.Ytfhpomfdkpfooaa.Ru

theorem cell_four (w : World) (v0 v1 v2 v3 : Value) (t : TypeId) : ∀ j u, [v0, v1, v2, v3][j]? = some u → (w.alloc (Obj.cells #[v0, v1, v2, v3] t)).cell? ((⟨w.heap.size, 0, none⟩ : Addr).add j) = some u := by
  intro j u hj
  rw [add_eq, Nat.zero_add]
  match j with
  | 0 => simp at hj; subst hj; simp [go_sem]
  | 1 => simp at hj; subst hj; simp [go_sem]
  | 2 => simp at hj; subst hj; simp [go_sem]
  | 3 => simp at hj; subst hj; simp [go_sem]
  | _ + 4 => simp at hj
theorem good_snoc {w : World} {B : Nat} {xs : List Value} {R : Tk.Ls} {k : Nat} {u : Value} (h : Tk.Good w B xs R k) (hx : xs.length = k * 4) (hu : w.ownsRow B 2 1 u (Tk.cl R k).length (ints (Tk.cl R k))) : Tk.Good w B (xs ++ [u, .int .i64 (Tk.cz R k 1), .int .i64 (Tk.cz R k 2), .int .i64 (Tk.cz R k 3)]) R (k + 1) := by
  intro i hi
  by_cases e : i = k
  · subst e
    refine ⟨?_, ?_, ?_, u, ?_, hu⟩
    · rw [List.getElem?_append_right (by omega), hx, show i * 4 + 1 - i * 4 = 1 by omega]; rfl
    · rw [List.getElem?_append_right (by omega), hx, show i * 4 + 2 - i * 4 = 2 by omega]; rfl
    · rw [List.getElem?_append_right (by omega), hx, show i * 4 + 3 - i * 4 = 3 by omega]; rfl
    · rw [List.getElem?_append_right (by omega), hx, show i * 4 - i * 4 = 0 by omega]; rfl
  · obtain ⟨h1, h2, h3, x, hx', hr⟩ := h i (by omega)
    exact ⟨by rw [List.getElem?_append_left (by omega)]; exact h1, by rw [List.getElem?_append_left (by omega)]; exact h2, by rw [List.getElem?_append_left (by omega)]; exact h3, x, by rw [List.getElem?_append_left (by omega)]; exact hx', hr⟩
theorem good_kb {S : Nat → Prop} {w w' : World} {B : Nat} {xs : List Value} {R : Tk.Ls} {k : Nat} (h : Tk.Good w B xs R k) (hb : KB S w w') (hn : ∀ {v : Value} {m : Nat} {ys : List Value} (b : Nat), w.ownsRow B 2 1 v m ys → v.ownBlock = some b → ¬ S b) : Tk.Good w' B xs R k := fun i hi => by
  obtain ⟨h1, h2, h3, x, hx, hr⟩ := h i hi
  exact ⟨h1, h2, h3, x, hx, row_kb hr hb (fun b hb => hn b hr hb)⟩
theorem kb_of {S : Nat → Prop} {w w' : World} {B : Nat} (h : Below B w w') (hs : ∀ b, B ≤ b → S b) : KB S w w' := ⟨h.os, h.tape, h.output, h.size, fun k hk hn => h.block k (by rcases Nat.lt_or_ge k B with x | x; exact x; exact absurd (hs k x) hn)⟩
theorem one_four (u : Value) (hu : u.oneCell' = true) (a b c : Int) : ∀ x ∈ [u, Value.int .i64 a, Value.int .i64 b, Value.int .i64 c], x.oneCell' = true := by
  intro x hx
  simp at hx
  rcases hx with rfl | rfl | rfl | rfl
  · exact hu
  · rfl
  · rfl
  · rfl

set_option maxHeartbeats 4000000 in
set_option maxRecDepth 20000 in
theorem scopy_any (R : Tk.Ls) (X : List Int) (vr vx : Value) (w : World) (hR : Tk.Reads w vr R) (hX : Lists.Reads w vx X) (l0 : 0 < X.length) (lR : R.length ≤ 60) (lR' : ∀ i, i < R.length → (Tk.cl R i).length ≤ 1048576) (lX : X.length ≤ 1048576) :
    Calls Try.prog 34 #[Su.pv vr vx] w fun e w' => ∃ r x, e = .returned (Su.pv r x) ∧ Tk.Row w' w.heap.size r R ∧ w'.ownsRow w.heap.size 2 1 x X.length (ints X) ∧ Below w.heap.size w w' := by
  obtain ⟨i0, hi, hz0, hz1, hz2⟩ := info_parts Lists.Try.info2
  obtain ⟨t0, ht, tz0, tz1, tz2⟩ := info_parts Try.infoT
  obtain ⟨br, or, hcr, hvr⟩ := rows_at hR
  obtain ⟨sr, cr, er⟩ := hR.form
  rcases hX with ⟨e, _⟩ | ⟨gx, ox, cx, rfl, hx1, hx2, hgx, KX⟩
  · rw [e] at l0; exact absurd l0 (by simp)
  subst er
  have HCR : Hid (∀ i, i < R.length → Tk.Cs w br or R i) := hcr
  have HVR : Hid (0 < R.length → br < w.heap.size ∧ sr = some ⟨br, or, none⟩) := fun hi => by
    obtain ⟨h1, c, h2⟩ := hvr hi
    simp at h2
    exact ⟨h1, h2.1⟩
  have HLR : Hid (∀ i, i < R.length → (Tk.cl R i).length ≤ 1048576) := lR'
  obtain ⟨n, hn⟩ : ∃ n, n = R.length := ⟨_, rfl⟩
  have HN : Hid (n = R.length) := hn
  rw [← hn] at lR HCR HVR HLR ⊢
  clear hcr hvr lR' hR
  obtain ⟨m, hm⟩ : ∃ m, m = X.length := ⟨_, rfl⟩
  have HM : Hid (X.length = m) := hm.symm
  rw [← hm] at lX l0 ⊢
  obtain ⟨w0, hw0⟩ : ∃ w0, w0 = ((w.alloc (Obj.cells #[.slice sr n cr, .slice (some ⟨gx, ox, none⟩) m cx] 27)).alloc (Obj.cells #[.slice none 0 0, .slice none 0 0] 27)).alloc (.cells #[] 2) := ⟨_, rfl⟩
  have HW0 : Hid (w0 = ((w.alloc (Obj.cells #[.slice sr n cr, .slice (some ⟨gx, ox, none⟩) m cx] 27)).alloc (Obj.cells #[.slice none 0 0, .slice none 0 0] 27)).alloc (.cells #[] 2)) := hw0
  have B0 : Hid (Below w.heap.size w w0) := (by show Below _ _ _; rw [hw0]; exact (((Below.refl _ _).alloc (Nat.le_refl _) _).alloc (by simp) _).alloc (by simp; omega) _)
  have Z0 : Hid (w0.heap.size = w.heap.size + 3) := (by show _ = _; rw [hw0]; simp)
  have X0 : Hid (Su.Box w0 w.heap.size (.slice sr n cr) (.slice (some ⟨gx, ox, none⟩) m cx)) := (by show Su.Box _ _ _ _; rw [hw0]; unfold Su.Box; simp [go_sem])
  have Y0 : Hid (Su.Box w0 (w.heap.size + 1) (.slice none 0 0) (.slice none 0 0)) := (by show Su.Box _ _ _ _; rw [hw0]; unfold Su.Box; simp [go_sem])
  have G0 : Hid (Su.Free w0 (w.heap.size + 1)) := (by show Su.Free _ _; rw [hw0]; unfold Su.Free; simp [go_sem])
  have ER : Hid (w0.ownsRow (w.heap.size + 2) 2 1 (.slice (some ⟨w.heap.size + 2, 0, none⟩) 0 0) 0 []) := (by show World.ownsRow _ _ _ _ _ _ _; rw [hw0]; exact (by simpa using empty_row (W := (w.alloc (Obj.cells #[.slice sr n cr, .slice (some ⟨gx, ox, none⟩) m cx] 27)).alloc (Obj.cells #[.slice none 0 0, .slice none 0 0] 27)) 2 1))
  have HKX : Hid (∀ j u, (ints X)[j]? = some u → w0.cell? ((⟨gx, ox, none⟩ : Addr).add j) = some u) := ints_at' rfl fun i hi => (B0.out.cell (p := ⟨gx, ox + i, none⟩) hgx).trans (KX i hi)
  clear hw0 KX hm hn
  obtain ⟨x0, x1⟩ := X0.out
  go_enter Try.func34, Try.ntmps34
  go_wp2_with (at_builtin; rw [← HW0.out]; refine wpList_append_own_at _ rfl _ _ 25 rfl (w.heap.size + 2) 2 i0 (.int .i64 0) 1 8 Try.underlying25 hi hz0 hz1 hz2 rfl (by decide) _ _ _ rfl ER.out ⟨gx, ox, none⟩ m cx (ints X) rfl (by rw [List.length_map, HM.out]; omega) HKX.out (one_cell X) (by unfold maxLen; omega) (by omega) (by have := Z0.out; omega) ?_)
  intro v' w2 hown hgrow hnil hat
  obtain ⟨g', c', rfl, q1, q2, q3, q4⟩ := row_some hown hnil
  have z0 := Z0.out
  have hb2 : Below (w.heap.size + 2) w0 w2 := (Below.refl _ _).grown hgrow (by omega) (fun k hk => by simp [Value.ownBlock] at hk; omega)
  have BW2 : Below w.heap.size w w2 := B0.out.trans (hb2.mono (by omega))
  have X2 := X0.out.on hb2 (by omega)
  have Y2 := Y0.out.on hb2 (by omega)
  have G2 := G0.out.on hb2 (by omega)
  have z2 := hb2.size
  obtain ⟨w3, hw3⟩ : ∃ y, y = w2.alloc (Obj.cells #[.slice none 0 0, .slice (some ⟨g', 0, none⟩) m c'] 27) := ⟨_, rfl⟩
  have HW3 : Hid (w3 = w2.alloc (Obj.cells #[.slice none 0 0, .slice (some ⟨g', 0, none⟩) m c'] 27)) := hw3
  have hb3 : Below w2.heap.size w2 w3 := by rw [hw3]; exact (Below.refl _ _).alloc (Nat.le_refl _) _
  obtain ⟨ob, hob⟩ : ∃ ob, ob = w2.heap.size := ⟨_, rfl⟩
  have HOB : Hid (ob = w2.heap.size) := hob
  have Z3 : Hid (w3.heap.size = ob + 1) := (by show _ = _; rw [hw3, hob]; simp)
  have O3 : Hid (Su.Box w3 ob (.slice none 0 0) (.slice (some ⟨g', 0, none⟩) m c')) := (by show Su.Box _ _ _ _; rw [hw3, hob]; unfold Su.Box; simp [go_sem])
  have F3 : Hid (Su.Free w3 ob) := (by show Su.Free _ _; rw [hw3, hob]; unfold Su.Free; simp [go_sem])
  have X3 : Hid (Su.Box w3 w.heap.size (.slice sr n cr) (.slice (some ⟨gx, ox, none⟩) m cx)) := X2.on hb3 (by omega)
  have Y3 : Hid (Su.Box w3 (w.heap.size + 1) (.slice none 0 0) (.slice none 0 0)) := Y2.on hb3 (by omega)
  have G3 : Hid (Su.Free w3 (w.heap.size + 1)) := G2.on hb3 (by omega)
  have L3 : Hid (w3.ownsRow (w.heap.size + 2) 2 1 (.slice (some ⟨g', 0, none⟩) m c') m (ints X)) := Tk.row_below hown hb3
  have B3 : Hid (Below w.heap.size w w3) := BW2.trans (hb3.mono BW2.size)
  have LO : Hid (w.heap.size + 1 < ob ∧ g' < ob ∧ ∀ j, j < ob + 1 → j < w3.heap.size) := ⟨by omega, by omega, fun j hj => by rw [Z3.out]; exact hj⟩
  clear hown hgrow hnil hat hb2 BW2 X2 Y2 G2 hw3 hb3 hob z0 z2 q1 q2 q3 q4 x0 x1 HKX ER
  go_upto_region 2 with fail
  rw [← HW3.out, ← HOB.out]
  clear HW3 HW0
  obtain ⟨x0, x1⟩ := X3.out
  go_wp2_with fail
  clear x0 x1
  go_loopw [4] (fun i wr => ∃ k : Nat, k ≤ n ∧ i = .int .i64 k ∧ Hid (∃ a c xs, Su.Box wr ob (.slice a k c) (.slice (some ⟨g', 0, none⟩) m c') ∧ Su.Free wr ob ∧ wr.ownsRow (ob + 1) 50 4 (.slice a k c) k xs ∧ Tk.Good wr (ob + 1) xs R k) ∧ Hid (KB (fun b => b = ob ∨ ob + 1 ≤ b) w3 wr)) (fun i _ => n - (intOf i).toNat)
  case atStart => exact ⟨0, Nat.zero_le _, rfl, ⟨none, 0, [], O3.out, F3.out, ⟨rfl, .inl ⟨rfl, rfl⟩⟩, fun i hi => absurd hi (by omega)⟩, KB.refl _ _⟩
  case round =>
    obtain ⟨wo, hwo⟩ : ∃ x : World, x = wr := ⟨_, rfl⟩
    subst hwo
    obtain ⟨k, hk, rfl, HX, KW⟩ := hrel
    have BW : Hid (Below w.heap.size w wo) := B3.out.trans ((KW.out.below (B := ob) (by have := Z3.out; omega) (fun b hb => by omega)).mono (by have := LO.out.1; omega))
    have XW : Hid (Su.Box wo w.heap.size (.slice sr n cr) (.slice (some ⟨gx, ox, none⟩) m cx)) := (by
      have lo := LO.out.1
      obtain ⟨a0, a1⟩ := X3.out
      exact ⟨(Ru.cell_kb KW.out (by have := Z3.out; omega) (by omega)).trans a0, (Ru.cell_kb KW.out (by have := Z3.out; omega) (by omega)).trans a1⟩)
    have SZ : Hid (ob + 1 ≤ wo.heap.size) := (by have := KW.out.size; have := Z3.out; show _ ≤ _; omega)
    obtain ⟨x0, x1⟩ := XW.out
    by_cases hlt : k < n
    · have hkl : k < R.length := by rw [← HN.out]; exact hlt
      obtain ⟨hbr, hx⟩ := HVR.out (by omega)
      subst hx
      obtain ⟨q1, q2, q3, u, q0, ru⟩ : Tk.Cs wo br or R k := by
        have := HCR.out k hlt
        obtain ⟨h1, h2, h3, u, hu, hr⟩ := this
        exact ⟨(BW.out.cell (p := ⟨br, or + k * 4 + 1, none⟩) hbr).trans h1, (BW.out.cell (p := ⟨br, or + k * 4 + 2, none⟩) hbr).trans h2, (BW.out.cell (p := ⟨br, or + k * 4 + 3, none⟩) hbr).trans h3, u, (BW.out.cell (p := ⟨br, or + k * 4, none⟩) hbr).trans hu, hr.on BW.out⟩
      obtain ⟨a, c, xs, ox1, ox2, orow, ogood⟩ := HX.out
      obtain ⟨tb, htb⟩ : ∃ tb, tb = wo.heap.size := ⟨_, rfl⟩
      have HTB : Hid (tb = wo.heap.size) := htb
      obtain ⟨wA, hwA⟩ : ∃ y, y = wo.alloc (Obj.cells #[u, .int .i64 (Tk.cz R k 1), .int .i64 (Tk.cz R k 2), .int .i64 (Tk.cz R k 3)] 50) := ⟨_, rfl⟩
      have HWA : Hid (wA = wo.alloc (Obj.cells #[u, .int .i64 (Tk.cz R k 1), .int .i64 (Tk.cz R k 2), .int .i64 (Tk.cz R k 3)] 50)) := hwA
      have bA : Below tb wo wA := by rw [hwA, htb]; exact (Below.refl _ _).alloc (Nat.le_refl _) _
      have TA : Hid (Tk1.Box wA tb u (.int .i64 (Tk.cz R k 1)) (.int .i64 (Tk.cz R k 2)) (.int .i64 (Tk.cz R k 3)) ∧ wA.frozen? ⟨tb, 0, none⟩ = false) := (by show _ ∧ _; rw [hwA, htb]; unfold Tk1.Box; simp [go_sem])
      have ZA : Hid (wA.heap.size = tb + 1) := (by show _ = _; rw [hwA, htb]; simp)
      have ST : Hid (ob + 1 ≤ tb) := (by rw [htb]; exact SZ.out)
      have KA : Hid (KB (fun b => b = ob ∨ ob + 1 ≤ b) wo wA) := kb_of bA (fun b hb => .inr (by have := ST.out; omega))
      have OA : Hid (Su.Box wA ob (.slice a k c) (.slice (some ⟨g', 0, none⟩) m c') ∧ Su.Free wA ob) := ⟨ox1.on bA (by have := ST.out; omega), ox2.on bA (by have := ST.out; omega)⟩
      have RA : Hid (wA.ownsRow (ob + 1) 50 4 (.slice a k c) k xs) := (by rw [htb] at bA; exact Tk.row_below orow bA)
      have GA : Hid (Tk.Good wA (ob + 1) xs R k) := (by rw [htb] at bA; exact ogood.on bA)
      have LB : Hid (∀ {e : TypeId} {q : Nat} {v : Value} {j : Nat} {ys : List Value} (b : Nat), wo.ownsRow (ob + 1) e q v j ys → v.ownBlock = some b → b < tb) := fun b hr hb => by rw [htb]; exact (hr.lt b hb).2
      have LR : Hid (∀ b, (Value.slice a k c).ownBlock = some b → b < tb) := fun b hb => by rw [htb]; exact (orow.lt b hb).2
      have GB : Hid (∀ i, i < k → ∃ x, xs[i * 4]? = some x ∧ ∀ b, x.ownBlock = some b → b < tb) := fun i hi => by
        obtain ⟨_, _, _, x, hx, hr⟩ := ogood i hi
        exact ⟨x, hx, fun b hb => by rw [htb]; exact (hr.lt b hb).2⟩
      have RUA : Hid (Lists.Reads wA u (Tk.cl R k)) := (by rw [htb] at bA; exact ru.on bA)
      have lk := HLR.out k hlt
      have i1 : (0 : Int) ≤ (k : Int) := by omega
      have i2 : (k : Int) < (n : Int) := by omega
      have HLX : Hid (xs.length = k * 4) := orow.1
      obtain ⟨ua, uc, hue⟩ := ru.form
      subst hue
      clear hwA bA ox1 ox2 orow ogood ru htb
      obtain ⟨l, hl⟩ : ∃ l, l = (Tk.cl R k).length := ⟨_, rfl⟩
      have HLL : Hid (l = (Tk.cl R k).length) := hl
      rw [← hl] at HWA TA RUA q0 lk
      clear hl
      go_upto_region 6 with fail
      rw [← HWA.out, ← HTB.out]
      clear HWA x0 x1 q0 q1 q2 q3
      go_cut [] (fun wx => ∃ (va : Option Addr) (vc : Nat) (w4 : World), wx = w4.setCell ⟨tb, 0, none⟩ (.slice va l vc) ∧ w4.ownsRow (tb + 1) 2 1 (.slice va l vc) l (ints (Tk.cl R k)) ∧ Below (tb + 1) wA w4)
      case first =>
        have za := ZA.out
        obtain ⟨⟨s0, s1, s2, s3⟩, f0⟩ := TA.out
        obtain ⟨wB, hwB⟩ : ∃ y, y = wA.alloc (.cells #[] 2) := ⟨_, rfl⟩
        have HWB : Hid (wB = wA.alloc (.cells #[] 2)) := hwB
        have bB : Below (tb + 1) wA wB := by rw [hwB]; exact (Below.refl _ _).alloc (by omega) _
        have EB : Hid (wB.ownsRow (tb + 1) 2 1 (.slice (some ⟨wA.heap.size, 0, none⟩) 0 0) 0 []) := (by show World.ownsRow _ _ _ _ _ _ _; rw [hwB, ← za]; exact empty_row 2 1)
        have BB : Hid (Below (tb + 1) wA wB) := bB
        have SB : Hid (wB.cell? ⟨tb, 0, none⟩ = some (.slice ua l uc) ∧ wB.frozen? ⟨tb, 0, none⟩ = false) := ⟨(bB.cell (p := ⟨tb, 0, none⟩) (Nat.lt_succ_self _)).trans s0, (bB.frozen (p := ⟨tb, 0, none⟩) (Nat.lt_succ_self _)).trans f0⟩
        have ZB : Hid (tb + 1 ≤ wB.heap.size) := (by show _ ≤ _; rw [hwB]; simp; omega)
        have ZAE : Hid (wA.heap.size = tb + 1) := za
        have tlt : tb < wA.heap.size := by rw [ZAE.out]; exact Nat.lt_succ_self _
        have tne : ¬ tb = wA.heap.size := by omega
        have tne2 : ¬ wA.heap.size = tb := by omega
        clear hwB bB za
        rcases RUA.out with ⟨hnil, a', cap', hu'⟩ | ⟨gu, ou, cu, hu', h1, h2, hgu, KU⟩
        · have l00 : l = 0 := by rw [HLL.out, hnil]; rfl
          subst l00
          have HNL : Hid (Tk.cl R k = []) := hnil
          clear hu' hnil s1 s2 s3
          rcases ua with _ | ua
          all_goals
            go_wp2
            go_meet
            exact ⟨some ⟨wA.heap.size, 0, none⟩, 0, wB, by rw [HWB.out]; simp [go_sem, tlt], by rw [HNL.out]; exact EB.out, BB.out⟩
        · rw [← HLL.out] at hu' h1 KU
          simp at hu'
          obtain ⟨rfl, rfl⟩ := hu'
          have HKU : Hid (∀ j u, (ints (Tk.cl R k))[j]? = some u → wB.cell? ((⟨gu, ou, none⟩ : Addr).add j) = some u) := ints_at' HLL.out.symm fun i hi => (BB.out.cell (p := ⟨gu, ou + i, none⟩) (by rw [← ZAE.out]; exact hgu)).trans (KU i hi)
          clear s1 s2 s3 h1 h2 hgu KU
          go_wp2_with (at_builtin; rw [← HWB.out]; refine wpList_append_own_at _ rfl _ _ 25 rfl (tb + 1) 2 i0 (.int .i64 0) 1 8 Try.underlying25 hi hz0 hz1 hz2 rfl (by decide) _ _ _ rfl EB.out ⟨gu, ou, none⟩ l uc (ints (Tk.cl R k)) rfl (by rw [List.length_map, HLL.out]; omega) HKU.out (one_cell _) (by unfold maxLen; omega) (by omega) ZB.out ?_)
          intro v' w4 hown hgrow hnil hat
          obtain ⟨gv, cv, rfl, p1, p2, p3, p4⟩ := row_some hown hnil
          have B4 : Below (tb + 1) wA w4 := BB.out.trans ((Below.refl _ _).grown hgrow ZB.out (fun b hb => by simp [Value.ownBlock] at hb; have := ZAE.out; omega))
          have O4 : Hid (w4.ownsRow (tb + 1) 2 1 (.slice (some ⟨gv, 0, none⟩) l cv) l (ints (Tk.cl R k))) := hown
          have B4' : Hid (Below (tb + 1) wA w4) := B4
          have y0 := (B4.cell (p := ⟨tb, 0, none⟩) (Nat.lt_succ_self _)).trans s0
          have y1 := (B4.frozen (p := ⟨tb, 0, none⟩) (Nat.lt_succ_self _)).trans f0
          clear hown hgrow hnil hat B4 p1 p2 p3 p4 s0 f0
          go_wp2_with fail
          go_meet
          exact ⟨_, _, w4, rfl, O4.out, B4'.out⟩
      case rest =>
        obtain ⟨wC, hwC⟩ : ∃ x : World, x = wc := ⟨_, rfl⟩
        subst hwC
        obtain ⟨va, vc, w4, hw4, o4, b4⟩ := hcut
        have st := ST.out
        have TC : Hid (Tk1.Box wC tb (.slice va l vc) (.int .i64 (Tk.cz R k 1)) (.int .i64 (Tk.cz R k 2)) (.int .i64 (Tk.cz R k 3))) := (by
          obtain ⟨⟨s0, s1, s2, s3⟩, f0⟩ := TA.out
          have y0 := (b4.cell (p := ⟨tb, 0, none⟩) (Nat.lt_succ_self _)).trans s0
          have y1 := (b4.cell (p := ⟨tb, 1, none⟩) (Nat.lt_succ_self _)).trans s1
          have y2 := (b4.cell (p := ⟨tb, 2, none⟩) (Nat.lt_succ_self _)).trans s2
          have y3 := (b4.cell (p := ⟨tb, 3, none⟩) (Nat.lt_succ_self _)).trans s3
          show Tk1.Box _ _ _ _ _ _
          rw [hw4]
          unfold Tk1.Box
          simp [go_sem, y0, y1, y2, y3])
        have K4 : KB (fun b => b = tb ∨ tb + 1 ≤ b) wA wC := (kb_of b4 (fun b hb => .inr hb)).trans (by rw [hw4]; exact KB.of_set (S := fun b => b = tb ∨ tb + 1 ≤ b) w4 tb _ _ (.inl rfl))
        have KC : Hid (KB (fun b => b = ob ∨ ob + 1 ≤ b) w3 wC) := (KW.out.trans KA.out).trans (K4.mono (fun b hb => .inr (by omega)))
        have NC : Hid (wC.ownsRow (ob + 1) 2 1 (.slice va l vc) l (ints (Tk.cl R k))) := (by
          refine Tk1.own_down (B := tb + 1) ?_ (by omega)
          rw [hw4]
          exact row_kb o4 (KB.of_set (S := fun b => b = tb) w4 tb _ _ rfl) (fun b hb e => by have := (o4.lt b hb).1; omega))
        have OC : Hid (Su.Box wC ob (.slice a k c) (.slice (some ⟨g', 0, none⟩) m c') ∧ Su.Free wC ob) := (by
          obtain ⟨⟨a0, a1⟩, a2⟩ := OA.out
          have za := ZA.out
          have KBk := K4.block ob (by omega) (by omega)
          exact ⟨⟨(World.cell?_of_block (a := ⟨ob, 0, none⟩) KBk).trans a0, (World.cell?_of_block (a := ⟨ob, 1, none⟩) KBk).trans a1⟩, (World.frozen?_of_block (a := ⟨ob, 0, none⟩) KBk).trans a2.1, (World.frozen?_of_block (a := ⟨ob, 1, none⟩) KBk).trans a2.2⟩)
        have RC : Hid (wC.ownsRow (ob + 1) 50 4 (.slice a k c) k xs) := row_kb RA.out K4 (fun b hb hc => by have := LR.out b hb; omega)
        have GC : Hid (Tk.Good wC (ob + 1) xs R k) := fun i hi => by
          obtain ⟨h1, h2, h3, x, hx, hr⟩ := GA.out i hi
          obtain ⟨x', hx', hlt'⟩ := GB.out i hi
          rw [hx] at hx'
          simp at hx'
          subst hx'
          exact ⟨h1, h2, h3, x, hx, row_kb hr K4 (fun b hb hc => by have := hlt' b hb; omega)⟩
        have ZC : Hid (ob + 1 ≤ wC.heap.size ∧ tb < wC.heap.size ∧ ob < wC.heap.size) := (by have := K4.size; have := ZA.out; exact ⟨by omega, by omega, by omega⟩)
        clear hw4 o4 b4 K4 st TA OA RA GA RUA
        obtain ⟨wD, hwD⟩ : ∃ y, y = wC.alloc (Obj.cells #[.slice va l vc, .int .i64 (Tk.cz R k 1), .int .i64 (Tk.cz R k 2), .int .i64 (Tk.cz R k 3)] 50) := ⟨_, rfl⟩
        have HWD : Hid (wD = wC.alloc (Obj.cells #[.slice va l vc, .int .i64 (Tk.cz R k 1), .int .i64 (Tk.cz R k 2), .int .i64 (Tk.cz R k 3)] 50)) := hwD
        have bD : Hid (Below wC.heap.size wC wD) := (by show Below _ _ _; rw [hwD]; exact (Below.refl _ _).alloc (Nat.le_refl _) _)
        have ND : Hid (∀ j x, [Value.slice va l vc, .int .i64 (Tk.cz R k 1), .int .i64 (Tk.cz R k 2), .int .i64 (Tk.cz R k 3)][j]? = some x → wD.cell? ((⟨wC.heap.size, 0, none⟩ : Addr).add j) = some x) := (by rw [hwD]; exact cell_four wC _ _ _ _ 50)
        have RD : Hid (wD.ownsRow (ob + 1) 50 4 (.slice a k c) k xs) := Tk.row_below RC.out bD.out
        have ZD : Hid (ob + 1 ≤ wD.heap.size) := Nat.le_trans ZC.out.1 bD.out.size
        clear hwD
        obtain ⟨y0, y1, y2, y3⟩ := TC.out
        obtain ⟨⟨z0, z1⟩, _, _⟩ := OC.out
        go_wp2_with (at_builtin; rw [← HWD.out]; refine wpList_append_own _ rfl _ _ 24 rfl (ob + 1) 50 t0 (.agg #[.slice none 0 0, .int .i64 0, .int .i64 0, .int .i64 0]) 4 48 Try.underlying24 ht tz0 tz1 tz2 rfl (by decide) _ _ _ rfl RD.out ⟨wC.heap.size, 0, none⟩ 1 1 [.slice va l vc, .int .i64 (Tk.cz R k 1), .int .i64 (Tk.cz R k 2), .int .i64 (Tk.cz R k 3)] rfl rfl ND.out (one_four _ rfl _ _ _) (by unfold maxLen; omega) (by omega) ZD.out ?_)
        intro v5 w5 hown hgrow hnil5
        obtain ⟨g5, c5, rfl, p1, p2, p3, p4⟩ := row_some hown (by first | exact hnil5 | (intro e; have := hnil5.1 e; simp at this))
        have K5 : KB (fun b => (Value.slice a k c).ownBlock = some b) wD w5 := KB.of_grown hgrow (fun _ e => e)
        have NR : ∀ b, (Value.slice a k c).ownBlock = some b → ob + 1 ≤ b := fun b hb => (RD.out.lt b hb).1
        have O5 : Hid (w5.ownsRow (ob + 1) 50 4 (.slice (some ⟨g5, 0, none⟩) (k + 1) c5) (k + 1) (xs ++ [.slice va l vc, .int .i64 (Tk.cz R k 1), .int .i64 (Tk.cz R k 2), .int .i64 (Tk.cz R k 3)])) := hown
        have KD : Hid (KB (fun b => b = ob ∨ ob + 1 ≤ b) w3 w5) := (KC.out.trans (KB.of_below bD.out)).trans (K5.mono (fun b hb => .inr (NR b hb)))
        have zd := bD.out.size
        have zc := ZC.out
        have kob := K5.block ob (by omega) (fun hb => by have := NR ob hb; omega)
        have B5 : Hid (Su.Box w5 ob (.slice a k c) (.slice (some ⟨g', 0, none⟩) m c') ∧ Su.Free w5 ob) := (by
          obtain ⟨b1, b2⟩ := OC.out
          have d1 := b1.on bD.out (by omega)
          have d2 := b2.on bD.out (by omega)
          exact ⟨⟨(World.cell?_of_block (a := ⟨ob, 0, none⟩) kob).trans d1.1, (World.cell?_of_block (a := ⟨ob, 1, none⟩) kob).trans d1.2⟩, (World.frozen?_of_block (a := ⟨ob, 0, none⟩) kob).trans d2.1, (World.frozen?_of_block (a := ⟨ob, 1, none⟩) kob).trans d2.2⟩)
        have G5 : Hid (Tk.Good w5 (ob + 1) (xs ++ [.slice va l vc, .int .i64 (Tk.cz R k 1), .int .i64 (Tk.cz R k 2), .int .i64 (Tk.cz R k 3)]) R (k + 1)) := (by
          refine good_snoc (good_kb (GC.out.on bD.out) K5 (fun b hr hb hc => type_ne hr RD.out (by decide) b hb hc)) HLX.out ?_
          rw [← HLL.out]
          have n1 := Tk.row_below NC.out bD.out
          exact row_kb n1 K5 (fun b hb hc => type_ne n1 RD.out (by decide) b hb hc))
        obtain ⟨w6, hw6⟩ : ∃ y, y = w5.setCell ⟨ob, 0, none⟩ (.slice (some ⟨g5, 0, none⟩) (k + 1) c5) := ⟨_, rfl⟩
        have HW6 : Hid (w6 = w5.setCell ⟨ob, 0, none⟩ (.slice (some ⟨g5, 0, none⟩) (k + 1) c5)) := hw6
        have K6 : KB (fun b => b = ob) w5 w6 := by rw [hw6]; exact KB.of_set (S := fun b => b = ob) w5 ob _ _ rfl
        have KE : Hid (KB (fun b => b = ob ∨ ob + 1 ≤ b) w3 w6) := KD.out.trans (K6.mono (fun b hb => .inl hb))
        have E6 : Hid (∃ a c xs, Su.Box w6 ob (.slice a (k + 1) c) (.slice (some ⟨g', 0, none⟩) m c') ∧ Su.Free w6 ob ∧ w6.ownsRow (ob + 1) 50 4 (.slice a (k + 1) c) (k + 1) xs ∧ Tk.Good w6 (ob + 1) xs R (k + 1)) := (by
          refine ⟨some ⟨g5, 0, none⟩, c5, _, ?_, ?_, row_kb O5.out K6 (fun b hb hc => by have := (O5.out.lt b hb).1; omega), good_kb G5.out K6 (fun b hr hb hc => by have := (hr.lt b hb).1; omega)⟩
          · rw [hw6]; exact B5.out.1.set0
          · rw [hw6]; exact B5.out.2.own)
        obtain ⟨⟨u0, u1⟩, v0, v1⟩ := B5.out
        clear hown hgrow hnil5 K5 NR kob hw6 K6 p1 p2 p3 p4 zd zc y0 y1 y2 y3 z0 z1 HWD
        go_wp2_with fail
        rw [← HW6.out]
        go_roundw
        case rel => exact ⟨k + 1, by omega, by go_num, E6, KE⟩
        case measure => simp [intOf]; omega
    · have hkn : k = n := by omega
      subst hkn
      obtain ⟨a, c, xs, ox1, ox2, orow, ogood⟩ := HX.out
      have lo := LO.out
      have z3 := Z3.out
      have NB : ∀ b, b < ob → wo.heap[b]? = w3.heap[b]? := fun b hb => KW.out.block b (by omega) (by omega)
      have YW : Hid (Su.Box wo (w.heap.size + 1) (.slice none 0 0) (.slice none 0 0) ∧ Su.Free wo (w.heap.size + 1)) := (by
        obtain ⟨a0, a1⟩ := Y3.out
        obtain ⟨b0, b1⟩ := G3.out
        have e := NB (w.heap.size + 1) lo.1
        exact ⟨⟨(World.cell?_of_block (a := ⟨w.heap.size + 1, 0, none⟩) e).trans a0, (World.cell?_of_block (a := ⟨w.heap.size + 1, 1, none⟩) e).trans a1⟩, (World.frozen?_of_block (a := ⟨w.heap.size + 1, 0, none⟩) e).trans b0, (World.frozen?_of_block (a := ⟨w.heap.size + 1, 1, none⟩) e).trans b1⟩)
      have LW : Hid (wo.ownsRow (w.heap.size + 2) 2 1 (.slice (some ⟨g', 0, none⟩) m c') m (ints X)) := row_kb L3.out KW.out (fun b hb hc => by simp [Value.ownBlock] at hb; omega)
      have RW : Hid (wo.ownsRow (ob + 1) 50 4 (.slice a k c) k xs ∧ Tk.Good wo (ob + 1) xs R k) := ⟨orow, ogood⟩
      have LOH : Hid (w.heap.size + 1 < ob) := lo.1
      obtain ⟨⟨s0, s1⟩, t0', t1'⟩ := YW.out
      obtain ⟨o0, o1⟩ := ox1
      clear ox2 orow ogood lo z3 NB
      go_wp2_with fail
      refine bodyPost_ret (v := .agg #[.slice a k c, .slice (some ⟨g', 0, none⟩) m c']) (by simp [results, Try.results34, go_sem, s0, s1]) rfl ⟨_, _, rfl, ?_, ?_, ?_⟩
      · have K9 : KB (fun b => b < ob) wo ((wo.setCell ⟨w.heap.size + 1, 0, none⟩ (.slice a k c)).setCell ⟨w.heap.size + 1, 1, none⟩ (.slice (some ⟨g', 0, none⟩) m c')) := (KB.of_set (S := fun b => b < ob) wo (w.heap.size + 1) _ _ LOH.out).trans (KB.of_set (S := fun b => b < ob) _ (w.heap.size + 1) _ _ LOH.out)
        refine Su.row_down (B := ob + 1) ⟨xs, ?_, ?_⟩ (by have := LOH.out; omega)
        · have := row_kb RW.out.1 K9 (fun b hb hc => by have := (RW.out.1.lt b hb).1; omega)
          rw [← HN.out]
          exact this
        · have := good_kb RW.out.2 K9 (fun b hr hb hc => by have := (hr.lt b hb).1; omega)
          rw [← HN.out]
          exact this
      · have K9 : KB (fun b => b = w.heap.size + 1) wo ((wo.setCell ⟨w.heap.size + 1, 0, none⟩ (.slice a k c)).setCell ⟨w.heap.size + 1, 1, none⟩ (.slice (some ⟨g', 0, none⟩) m c')) := (KB.of_set (S := fun b => b = w.heap.size + 1) wo (w.heap.size + 1) _ _ rfl).trans (KB.of_set (S := fun b => b = w.heap.size + 1) _ (w.heap.size + 1) _ _ rfl)
        have := row_kb LW.out K9 (fun b hb hc => by have := (LW.out.lt b hb).1; omega)
        exact Tk1.own_down this (by omega)
      · exact (BW.out.setCell (p := ⟨w.heap.size + 1, 0, none⟩) (Nat.le_succ _) _).setCell (p := ⟨w.heap.size + 1, 1, none⟩) (Nat.le_succ _) _
end Go.Proofs.Ytfhpomfdkpfooaa.Cp
