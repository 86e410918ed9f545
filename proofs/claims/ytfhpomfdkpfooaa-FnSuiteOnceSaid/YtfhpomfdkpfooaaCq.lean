/- A suite copied: the program. -/
import Derived.Test.YtfhpomfdkpfooaaCp
import Derived.Deep.RegionHeld3
import Derived.Deep.RegionWith
import Derived.Deep.Cut
import Derived.Deep.DeepCutAuto
import Derived.Deep.DeepMust
import Derived.Deep.DrawnRows
namespace Go.Proofs.Ytfhpomfdkpfooaa.Cp
open Go.ChangeShapes Go.WideShapes Go.ChangeAt Go.RowKit
open Go.Proofs.Ytfhpomfdkpfooaa.Lists Go.Proofs.Ytfhpomfdkpfooaa.Tm Go.Proofs.Ytfhpomfdkpfooaa.Ru

/-- Tasks of which the first k have lists of their own. -/
def Half (w w0 : World) (B : Nat) (v : Value) (xs : List Value) (R : Tk.Ls) (k : Nat) : Prop := w.ownsRow B 50 4 v R.length xs ∧ Tk.Good w B xs R k ∧ Shr w0 xs R k ∧ Rise xs k
theorem bk_set0 (xs : List Value) (k : Nat) (u : Value) (hk : k * 4 < xs.length) (i : Nat) : bk (xs.set (k * 4) u) i = if i = k then u.ownBlock else bk xs i := by
  unfold bk
  by_cases e : i = k
  · subst e; rw [List.getElem?_set_self hk, if_pos rfl]; rfl
  · rw [List.getElem?_set_ne (by omega), if_neg e]
theorem Half.step {w w1 w0 : World} {B g c : Nat} {xs : List Value} {R : Tk.Ls} {k : Nat} {u : Value} (h : Half w w0 B (.slice (some ⟨g, 0, none⟩) R.length c) xs R k) (hk : k < R.length) (hb : Below w.heap.size w w1) (hB : B ≤ w.heap.size) (hu : w1.ownsRow w.heap.size 2 1 u (Tk.cl R k).length (ints (Tk.cl R k))) : Half (w1.setCell ⟨g, k * 4, none⟩ u) w0 B (.slice (some ⟨g, 0, none⟩) R.length c) (xs.set (k * 4) u) R (k + 1) := by
  obtain ⟨h1, h2, h3, h4⟩ := h
  have lx : xs.length = R.length * 4 := h1.1
  have h1' := Tk.row_below h1 hb
  have keep : ∀ {x : Value} {m : Nat} {ys : List Value}, w1.ownsRow B 2 1 x m ys → (w1.setCell ⟨g, k * 4, none⟩ u).ownsRow B 2 1 x m ys := fun {x m ys} hx => row_kb (S := fun b => b = g) hx (KB.of_set (S := fun b => b = g) w1 g _ _ rfl) (fun b hb e => by subst e; exact type_ne hx h1' (by decide) b hb rfl)
  refine ⟨(h1'.stored (k * 4) u).1, fun i hi => ?_, fun i hlo hi => ?_, fun i j a hij hj ha => ?_⟩
  · by_cases e : i = k
    · subst e
      obtain ⟨y1, y2, y3, _⟩ := h3 i (Nat.le_refl _) hk
      exact ⟨by rw [List.getElem?_set_ne (by omega)]; exact y1, by rw [List.getElem?_set_ne (by omega)]; exact y2, by rw [List.getElem?_set_ne (by omega)]; exact y3, u, List.getElem?_set_self (by omega), keep (Tk1.own_down hu hB)⟩
    · obtain ⟨y1, y2, y3, x, hx, hr⟩ := h2 i (by omega)
      exact ⟨by rw [List.getElem?_set_ne (by omega)]; exact y1, by rw [List.getElem?_set_ne (by omega)]; exact y2, by rw [List.getElem?_set_ne (by omega)]; exact y3, x, by rw [List.getElem?_set_ne (by omega)]; exact hx, keep (Tk1.row_on hr hb)⟩
  · obtain ⟨y1, y2, y3, x, hx, hr⟩ := h3 i (by omega) hi
    exact ⟨by rw [List.getElem?_set_ne (by omega)]; exact y1, by rw [List.getElem?_set_ne (by omega)]; exact y2, by rw [List.getElem?_set_ne (by omega)]; exact y3, x, by rw [List.getElem?_set_ne (by omega)]; exact hx, hr⟩
  · rw [bk_set0 _ _ _ (by omega)] at ha ⊢
    rw [if_neg (by omega)] at ha
    by_cases e : j = k
    · subst e
      rw [if_pos rfl]
      intro hc
      obtain ⟨_, _, _, x, hx, hr⟩ := h2 i (by omega)
      unfold bk at ha
      rw [hx] at ha
      have := (hr.lt a ha).2
      have := (hu.lt a hc).1
      omega
    · rw [if_neg e]
      exact h4 i j a hij (by omega) ha

set_option maxHeartbeats 2000000 in
set_option maxRecDepth 20000 in
theorem icopy_any (R : Tk.Ls) (X : List Int) (vr vx : Value) (w : World) (hR : Tk.Reads w vr R) (hX : Lists.Reads w vx X) (l0 : 0 < R.length) (lR : R.length ≤ 1048576) (lR' : ∀ i, i < R.length → (Tk.cl R i).length ≤ 1048576) (lX : X.length ≤ 1048576) :
    Calls Try.prog 36 #[Su.pv vr vx] w fun e w' => ∃ r x xs, e = .returned (Su.pv r x) ∧ SO w' w.heap.size r x xs R X ∧ Below w.heap.size w w' := by
  obtain ⟨w0, hw0⟩ : ∃ w0, w0 = (w.alloc (Obj.cells #[vr, vx] 27)).alloc (Obj.cells #[.slice none 0 0, .slice none 0 0] 27) := ⟨_, rfl⟩
  have HW0 : Hid (w0 = (w.alloc (Obj.cells #[vr, vx] 27)).alloc (Obj.cells #[.slice none 0 0, .slice none 0 0] 27)) := hw0
  have B0 : Hid (Below w.heap.size w w0) := (by show Below _ _ _; rw [hw0]; exact ((Below.refl _ _).alloc (Nat.le_refl _) _).alloc (by simp) _)
  have Z0 : Hid (w0.heap.size = w.heap.size + 2) := (by show _ = _; rw [hw0]; simp)
  have X0 : Hid (Su.Box w0 w.heap.size vr vx) := (by show Su.Box _ _ _ _; rw [hw0]; unfold Su.Box; simp [go_sem])
  have F0 : Hid (Su.Free w0 w.heap.size) := (by show Su.Free _ _; rw [hw0]; unfold Su.Free; simp [go_sem])
  have Y0 : Hid (Su.Box w0 (w.heap.size + 1) (.slice none 0 0) (.slice none 0 0)) := (by show Su.Box _ _ _ _; rw [hw0]; unfold Su.Box; simp [go_sem])
  have G0 : Hid (Su.Free w0 (w.heap.size + 1)) := (by show Su.Free _ _; rw [hw0]; unfold Su.Free; simp [go_sem])
  have C1 : Hid (Calls Try.prog 52 #[vr] w0 fun e w' => ∃ g c xs, e = .returned (.slice (some ⟨g, 0, none⟩) R.length c) ∧ w'.ownsRow w0.heap.size 50 4 (.slice (some ⟨g, 0, none⟩) R.length c) R.length xs ∧ Shr w xs R 0 ∧ Below w0.heap.size w0 w') := cloneT_any w w0 B0.out vr R hR l0 lR
  have C2 : Hid (∀ (w' : World) u k, k < R.length → Lists.Reads w' u (Tk.cl R k) → Calls Try.prog 53 #[u] w' fun e w'' => ∃ v', e = .returned v' ∧ w''.ownsRow w'.heap.size 2 1 v' (Tk.cl R k).length (ints (Tk.cl R k)) ∧ Below w'.heap.size w' w'') := fun w' u k hk h => clone_any w' u (Tk.cl R k) h (lR' k hk)
  have C3 : Hid (∀ w', Below w.heap.size w w' → Calls Try.prog 53 #[vx] w' fun e w'' => ∃ v', e = .returned v' ∧ w''.ownsRow w'.heap.size 2 1 v' X.length (ints X) ∧ Below w'.heap.size w' w'') := fun w' hb => clone_any w' vx X (hX.on hb) lX
  obtain ⟨ar, cr, er⟩ := hR.form
  obtain ⟨ax, cx, ex⟩ := hX.form
  subst er ex
  obtain ⟨n, hn⟩ : ∃ n, n = R.length := ⟨_, rfl⟩
  have HN : Hid (n = R.length) := hn
  rw [← hn] at HW0 X0 C1 l0 lR ⊢
  clear hR hX hw0 hn lR'
  obtain ⟨x0, x1⟩ := X0.out
  obtain ⟨f0, f1⟩ := F0.out
  go_enter Try.func36, Try.ntmps36
  go_wp2_with fail
  rw [← HW0.out]
  refine C1.out.mono ?_
  rintro e w1 ⟨g, c, xs0, rfl, o1, sh, hb⟩
  have gg := (o1.lt g rfl)
  have z0 := Z0.out
  have z1 := hb.size
  have A1 := X0.out.on hb (by omega)
  have A2 := F0.out.on hb (by omega)
  have A3 := Y0.out.on hb (by omega)
  have A4 := G0.out.on hb (by omega)
  obtain ⟨w2, hw2⟩ : ∃ y, y = w1.setCell ⟨w.heap.size, 0, none⟩ (.slice (some ⟨g, 0, none⟩) n c) := ⟨_, rfl⟩
  have HW2 : Hid (w2 = w1.setCell ⟨w.heap.size, 0, none⟩ (.slice (some ⟨g, 0, none⟩) n c)) := hw2
  have KB2 : KB (fun b => b = w.heap.size) w1 w2 := by rw [hw2]; exact KB.of_set w1 w.heap.size _ _ rfl
  have BX2 : Hid (Su.Box w2 w.heap.size (.slice (some ⟨g, 0, none⟩) n c) (.slice ax X.length cx)) := (by show Su.Box _ _ _ _; rw [hw2]; exact A1.set0)
  have BF2 : Hid (Su.Free w2 w.heap.size) := (by show Su.Free _ _; rw [hw2]; exact A2.own)
  have BY2 : Hid (Su.Box w2 (w.heap.size + 1) (.slice none 0 0) (.slice none 0 0)) := (by show Su.Box _ _ _ _; rw [hw2]; exact A3.off (by omega))
  have BG2 : Hid (Su.Free w2 (w.heap.size + 1)) := (by show Su.Free _ _; rw [hw2]; exact A4.off (by omega))
  have BW2 : Hid (Below w.heap.size w w2) := (by show Below _ _ _; rw [hw2]; exact (B0.out.trans (hb.mono B0.out.size)).setCell (p := ⟨w.heap.size, 0, none⟩) (Nat.le_refl _) _)
  have SZ2 : Hid (w2.heap.size = w1.heap.size) := (by show _ = _; rw [hw2]; simp)
  have HH2 : Hid (Half w2 w (w.heap.size + 2) (.slice (some ⟨g, 0, none⟩) R.length c) xs0 R 0) := (by
    refine ⟨?_, fun i hi => absurd hi (by omega), sh, fun i j a _ hj => absurd hj (by omega)⟩
    have := row_kb o1 KB2 (fun b hb e => by simp [Value.ownBlock] at hb; omega)
    rw [z0, HN.out] at this
    exact this)
  have GG : Hid (w.heap.size + 2 ≤ g) := (by show _ ≤ _; omega)
  have LZ : Hid (w.heap.size + 2 ≤ w2.heap.size) := (by show _ ≤ _; rw [SZ2.out]; omega)
  have xa := A1.1
  have xf := A2.1
  clear hw2 o1 sh hb KB2 A1 A2 A3 A4 z0 z1 x0 x1 HW0 gg
  go_wp2_with fail
  rw [← HW2.out]
  clear xa xf f0 f1 HW2
  obtain ⟨x0, x1⟩ := BX2.out
  go_wp2_with fail
  clear x0 x1
  go_loopw [11] (fun i wr => ∃ k : Nat, k ≤ n ∧ i = .int .i64 k ∧ Hid (∃ xs, Half wr w (w.heap.size + 2) (.slice (some ⟨g, 0, none⟩) R.length c) xs R k) ∧ Hid (Su.Box wr w.heap.size (.slice (some ⟨g, 0, none⟩) n c) (.slice ax X.length cx) ∧ Su.Free wr w.heap.size ∧ Su.Box wr (w.heap.size + 1) (.slice none 0 0) (.slice none 0 0) ∧ Su.Free wr (w.heap.size + 1)) ∧ Hid (Below w.heap.size w wr ∧ w.heap.size + 2 ≤ wr.heap.size)) (fun i _ => n - (intOf i).toNat)
  case atStart => exact ⟨0, Nat.zero_le _, rfl, ⟨xs0, HH2.out⟩, ⟨BX2.out, BF2.out, BY2.out, BG2.out⟩, ⟨BW2.out, LZ.out⟩⟩
  case round =>
    obtain ⟨wo, hwo⟩ : ∃ x : World, x = wr := ⟨_, rfl⟩
    subst hwo
    obtain ⟨k, hk, rfl, HX, BX, BW⟩ := hrel
    by_cases hlt : k < n
    · have hkl : k < R.length := by rw [← HN.out]; exact hlt
      obtain ⟨xs, hh⟩ := HX.out
      have HH : Hid (Half wo w (w.heap.size + 2) (.slice (some ⟨g, 0, none⟩) R.length c) xs R k) := hh
      obtain ⟨_, _, _, u, hu, hr⟩ := hh.2.2.1 k (Nat.le_refl _) hkl
      have lx : xs.length = R.length * 4 := hh.1.1
      have q0 : wo.cell? ⟨g, k * 4, none⟩ = some u := by rw [hh.1.cellAt (k * 4) (by omega)]; exact hu
      have q1 : wo.frozen? ⟨g, k * 4, none⟩ = false := hh.1.frozenAt _
      have hgl : g < wo.heap.size := (hh.1.lt g rfl).2
      have CC : Hid (Calls Try.prog 53 #[u] wo.drew fun e w'' => ∃ va vc, e = .returned (.slice va (Tk.cl R k).length vc) ∧ w''.ownsRow wo.heap.size 2 1 (.slice va (Tk.cl R k).length vc) (Tk.cl R k).length (ints (Tk.cl R k)) ∧ Below wo.heap.size wo w'') := (C2.out wo.drew u k hkl ((hr.on BW.out.1).on (Below.refl _ _).drew)).mono (by rintro e w'' ⟨v', rfl, h1, h2⟩; obtain ⟨va, vc, rfl⟩ := (Lists.reads_row h1).form; exact ⟨va, vc, rfl, h1, (Below.refl _ _).drew.trans h2⟩)
      obtain ⟨ua, uc, hue⟩ := hr.form
      subst hue
      obtain ⟨⟨x0, x1⟩, ⟨y0, y1⟩, _, _⟩ := BX.out
      have i1 : (0 : Int) ≤ (k : Int) := by omega
      have i2 : (k : Int) < (n : Int) := by omega
      have ng : ¬ w.heap.size = g := by have := GG.out; omega
      have ng2 : ¬ g = w.heap.size := by omega
      clear hh hr hu lx
      have HLK : Hid (∃ lk, lk = (Tk.cl R k).length) := ⟨_, rfl⟩
      obtain ⟨lk, hlk⟩ := HLK.out
      have HK : Hid (lk = (Tk.cl R k).length) := hlk
      rw [← hlk] at CC q0
      clear hlk HLK
      go_upto_region 5 with fail
      go_region_with (go_at_call 53; refine CC.out.mono ?_; rintro e w1_ ⟨va, vc, rfl, o1, hb1⟩; have z1 := hb1.size; have t0 := (hb1.cell (p := ⟨w.heap.size, 0, none⟩) (by have := BW.out.2; show w.heap.size < _; omega)).trans x0; have t1 := (hb1.cell (p := ⟨g, k * 4, none⟩) hgl).trans q0; have t2 := (hb1.frozen (p := ⟨g, k * 4, none⟩) hgl).trans q1)
      all_goals
        have H6 : Hid (Half (w1_.setCell ⟨g, k * 4, none⟩ (.slice va lk vc)) w (w.heap.size + 2) (.slice (some ⟨g, 0, none⟩) R.length c) (xs.set (k * 4) (.slice va lk vc)) R (k + 1)) := HH.out.step hkl hb1 BW.out.2 (by rw [← HK.out]; exact o1)
        have X6 : Hid (Su.Box (w1_.setCell ⟨g, k * 4, none⟩ (.slice va lk vc)) w.heap.size (.slice (some ⟨g, 0, none⟩) n c) (.slice ax X.length cx) ∧ Su.Free (w1_.setCell ⟨g, k * 4, none⟩ (.slice va lk vc)) w.heap.size ∧ Su.Box (w1_.setCell ⟨g, k * 4, none⟩ (.slice va lk vc)) (w.heap.size + 1) (.slice none 0 0) (.slice none 0 0) ∧ Su.Free (w1_.setCell ⟨g, k * 4, none⟩ (.slice va lk vc)) (w.heap.size + 1)) := (by
          have a := BX.out
          have b := BW.out.2
          have c := GG.out
          exact ⟨(a.1.on hb1 (by omega)).off (by omega), (a.2.1.on hb1 (by omega)).off (by omega), (a.2.2.1.on hb1 (by omega)).off (by omega), (a.2.2.2.on hb1 (by omega)).off (by omega)⟩)
        have B6 : Hid (Below w.heap.size w (w1_.setCell ⟨g, k * 4, none⟩ (.slice va lk vc)) ∧ w.heap.size + 2 ≤ (w1_.setCell ⟨g, k * 4, none⟩ (.slice va lk vc)).heap.size) := ⟨(BW.out.1.trans (hb1.mono BW.out.1.size)).setCell (p := ⟨g, k * 4, none⟩) (by have := GG.out; show _ ≤ g; omega) _, by have := BW.out.2; simp; omega⟩
        go_wp2_with fail
        go_roundw
        case rel => exact ⟨k + 1, by omega, by go_num, ⟨_, H6.out⟩, X6, B6⟩
        case measure => simp [intOf]; omega
    · have hkn : k = n := by omega
      subst hkn
      obtain ⟨xs, hh⟩ := HX.out
      have HH : Hid (Own wo (w.heap.size + 2) (.slice (some ⟨g, 0, none⟩) R.length c) xs R) := (by
        have a := hh.2.1
        have b := hh.2.2.2
        rw [HN.out] at a b
        exact ⟨hh.1, a, b⟩)
      have CC : Hid (Calls Try.prog 53 #[.slice ax X.length cx] wo fun e w'' => ∃ va vc, e = .returned (.slice va X.length vc) ∧ w''.ownsRow wo.heap.size 2 1 (.slice va X.length vc) X.length (ints X) ∧ Below wo.heap.size wo w'') := (C3.out wo BW.out.1).mono (by rintro e w'' ⟨v', rfl, h1, h2⟩; obtain ⟨va, vc, rfl⟩ := (Lists.reads_row h1).form; exact ⟨va, vc, rfl, h1, h2⟩)
      obtain ⟨⟨x0, x1⟩, ⟨y0, y1⟩, _, _⟩ := BX.out
      clear hh
      go_wp2_with fail
      refine CC.out.mono ?_
      rintro e w3 ⟨va, vc, rfl, o3, hb3⟩
      have O3 : Hid (w3.ownsRow wo.heap.size 2 1 (.slice va X.length vc) X.length (ints X)) := o3
      have H3 : Hid (Own w3 (w.heap.size + 2) (.slice (some ⟨g, 0, none⟩) R.length c) xs R) := HH.out.on hb3
      have B3 : Hid (Below w.heap.size w w3 ∧ w.heap.size + 2 ≤ w3.heap.size) := ⟨BW.out.1.trans (hb3.mono BW.out.1.size), Nat.le_trans BW.out.2 hb3.size⟩
      have AP : Hid (∀ i a, i < R.length → bk xs i = some a → (Value.slice va X.length vc).ownBlock ≠ some a) := fun i a hi ha hc => by
        have h1 := (HH.out.bs a (.inr ⟨i, hi, ha⟩)).2
        have h2 := (o3.lt a hc).1
        omega
      have BX3 : Hid (Su.Box w3 w.heap.size (.slice (some ⟨g, 0, none⟩) k c) (.slice ax X.length cx) ∧ Su.Free w3 w.heap.size ∧ Su.Box w3 (w.heap.size + 1) (.slice none 0 0) (.slice none 0 0) ∧ Su.Free w3 (w.heap.size + 1)) := (by
        have a := BX.out
        have b := BW.out.2
        exact ⟨a.1.on hb3 (by omega), a.2.1.on hb3 (by omega), a.2.2.1.on hb3 (by omega), a.2.2.2.on hb3 (by omega)⟩)
      have WZ : Hid (w.heap.size ≤ wo.heap.size) := BW.out.1.size
      clear x0 x1 y0 y1 o3 hb3
      obtain ⟨⟨x0, x1⟩, ⟨y0, y1⟩, ⟨s0, s1⟩, t0, t1⟩ := BX3.out
      go_wp2_with fail
      refine bodyPost_ret (v := .agg #[.slice (some ⟨g, 0, none⟩) k c, .slice va X.length vc]) (by simp [results, Try.results36, go_sem, s0, s1]) rfl ⟨_, _, xs, rfl, ?_, ?_⟩
      · have K3 : KB (fun b => b < w.heap.size + 2) w3 (((w3.setCell ⟨w.heap.size, 1, none⟩ (.slice va X.length vc)).setCell ⟨w.heap.size + 1, 0, none⟩ (.slice (some ⟨g, 0, none⟩) k c)).setCell ⟨w.heap.size + 1, 1, none⟩ (.slice va X.length vc)) := ((KB.of_set (S := fun b => b < w.heap.size + 2) w3 w.heap.size _ _ (by show _ < _; omega)).trans (KB.of_set (S := fun b => b < w.heap.size + 2) _ (w.heap.size + 1) _ _ (by show _ < _; omega))).trans (KB.of_set (S := fun b => b < w.heap.size + 2) _ (w.heap.size + 1) _ _ (by show _ < _; omega))
        have O4 := H3.out.kb K3 (fun b hb hc => by have := (H3.out.bs b hb).1; omega)
        have L4 := row_kb O3.out K3 (fun b hb hc => by have := (O3.out.lt b hb).1; have := BW.out.2; omega)
        have O5 := O4.down (B' := w.heap.size) (by omega)
        rw [← HN.out] at O5
        exact ⟨O5, Tk1.own_down L4 WZ.out, AP.out⟩
      · exact ((B3.out.1.setCell (p := ⟨w.heap.size, 1, none⟩) (Nat.le_refl _) _).setCell (p := ⟨w.heap.size + 1, 0, none⟩) (Nat.le_succ _) _).setCell (p := ⟨w.heap.size + 1, 1, none⟩) (Nat.le_succ _) _
end Go.Proofs.Ytfhpomfdkpfooaa.Cp
