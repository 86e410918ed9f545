/- An archive drawn of a code, spoilt now and then. -/
import Derived.Test.YtfnkcoppdelmjaaAr
namespace Go.Proofs.Ytfnkcoppdelmjaa.Ed
open Go.ChangeShapes Go.WideShapes Go.ChangeAt Go.RowKit
open Go.Proofs.Ytfnkcoppdelmjaa.Rd Go.Proofs.Ytfnkcoppdelmjaa.Eo Go.Proofs.Ytfnkcoppdelmjaa.Ky
/-- what a list of entries drawn is like -/
structure DA (r : Nat) (W wx : World) (v : Value) (L : En.Ls) : Prop where
  row : En.Row wx W.heap.size v L
  ft : Ft L
  le : L.length ≤ 301
  rd : Rd r wx
  tn : Turn r W wx
  lt : r < W.heap.size
theorem DA.turn {r : Nat} {W wx w' : World} {v : Value} {L : En.Ls} (h : DA r W wx v L) (t : Turn r wx w') (k : Rd r w') : DA r W w' v L := ⟨rowE_turn h.row t h.lt, h.ft, h.le, k, h.tn.trans t, h.lt⟩
theorem DA.alloc {r : Nat} {W wx : World} {v : Value} {L : En.Ls} (h : DA r W wx v L) (o : Obj) : DA r W (wx.alloc o) v L :=
  ⟨h.row.on ((Below.refl _ _).alloc (Nat.le_refl _) o), h.ft, h.le, h.rd.kept ((Below.refl (r + 1) wx).alloc (by have := h.rd.lt; omega) _) (by omega), h.tn.alloc h.lt _, h.lt⟩
theorem set_get (L : En.Ls) (e : En1) (i : Nat) (hi : i < L.length) : (L.set 0 e).getD i (⟨#[]⟩, 0, 0, 0, 0) = if i = 0 then e else L.getD i (⟨#[]⟩, 0, 0, 0, 0) := by
  by_cases h : i = 0
  · subst h; simp [List.getD_eq_getElem?_getD, hi]
  · simp [List.getD_eq_getElem?_getD, h, List.getElem?_set_ne (Ne.symm h)]
theorem DA.word {r g c : Nat} {W wx : World} {L : En.Ls} (h : DA r W wx (.slice (some ⟨g, 0, none⟩) L.length c) L) (hn : 0 < L.length) (p : ByteArray) (hp : p.size ≤ 1048576) : DA r W (wx.setCell ⟨g, 0, none⟩ (.string p)) (.slice (some ⟨g, 0, none⟩) L.length c) (L.set 0 (p, En.c1 L 0, En.c2 L 0, En.c3 L 0, En.c4 L 0)) := by
  have hg := (h.row.lt g rfl).1
  have hl := h.lt
  obtain ⟨xs, ho, hG⟩ := h.row
  refine ⟨⟨xs.set 0 (.string p), by rw [List.length_set]; exact (ho.stored 0 _).1, ?_⟩, ?_, by rw [List.length_set]; exact h.le, h.rd.kept ((Below.refl (r + 1) wx).setCell (p := ⟨g, 0, none⟩) (by show r + 1 ≤ g; omega) _) (by omega), h.tn.setCell (p := ⟨g, 0, none⟩) hg hl _, hl⟩
  · intro i hi
    rw [List.length_set] at hi
    obtain ⟨h0, h1, h2, h3, h4⟩ := hG i hi
    have x0 : 0 < xs.length := by have := ho.1; omega
    unfold En.c0 En.c1 En.c2 En.c3 En.c4
    rw [set_get L _ i hi]
    by_cases e : i = 0
    · subst e
      simp only [if_true]
      refine ⟨by simp [x0], ?_, ?_, ?_, ?_⟩
      · rw [List.getElem?_set_ne (by omega)]; exact h1
      · rw [List.getElem?_set_ne (by omega)]; exact h2
      · rw [List.getElem?_set_ne (by omega)]; exact h3
      · rw [List.getElem?_set_ne (by omega)]; exact h4
    · rw [if_neg e]
      refine ⟨?_, ?_, ?_, ?_, ?_⟩
      · rw [List.getElem?_set_ne (by omega)]; exact h0
      · rw [List.getElem?_set_ne (by omega)]; exact h1
      · rw [List.getElem?_set_ne (by omega)]; exact h2
      · rw [List.getElem?_set_ne (by omega)]; exact h3
      · rw [List.getElem?_set_ne (by omega)]; exact h4
  · intro i hi
    rw [List.length_set] at hi
    unfold En.c0
    rw [set_get L _ i hi]
    by_cases e : i = 0
    · rw [if_pos e]; exact hp
    · rw [if_neg e]; exact h.ft i hi
theorem DA.size {r g c : Nat} {W wx : World} {L : En.Ls} (h : DA r W wx (.slice (some ⟨g, 0, none⟩) L.length c) L) (hn : 0 < L.length) (z : Int) : DA r W (wx.setCell ⟨g, 4, none⟩ (.int .i64 z)) (.slice (some ⟨g, 0, none⟩) L.length c) (L.set 0 (En.c0 L 0, En.c1 L 0, En.c2 L 0, En.c3 L 0, z)) := by
  have hg := (h.row.lt g rfl).1
  have hl := h.lt
  obtain ⟨xs, ho, hG⟩ := h.row
  refine ⟨⟨xs.set 4 (.int .i64 z), by rw [List.length_set]; exact (ho.stored 4 _).1, ?_⟩, ?_, by rw [List.length_set]; exact h.le, h.rd.kept ((Below.refl (r + 1) wx).setCell (p := ⟨g, 4, none⟩) (by show r + 1 ≤ g; omega) _) (by omega), h.tn.setCell (p := ⟨g, 4, none⟩) hg hl _, hl⟩
  · intro i hi
    rw [List.length_set] at hi
    obtain ⟨h0, h1, h2, h3, h4⟩ := hG i hi
    have x0 : 4 < xs.length := by have := ho.1; omega
    unfold En.c0 En.c1 En.c2 En.c3 En.c4
    rw [set_get L _ i hi]
    by_cases e : i = 0
    · subst e
      simp only [if_true]
      refine ⟨?_, ?_, ?_, ?_, by simp [x0]⟩
      · rw [List.getElem?_set_ne (by omega)]; exact h0
      · rw [List.getElem?_set_ne (by omega)]; exact h1
      · rw [List.getElem?_set_ne (by omega)]; exact h2
      · rw [List.getElem?_set_ne (by omega)]; exact h3
    · rw [if_neg e]
      refine ⟨?_, ?_, ?_, ?_, ?_⟩
      · rw [List.getElem?_set_ne (by omega)]; exact h0
      · rw [List.getElem?_set_ne (by omega)]; exact h1
      · rw [List.getElem?_set_ne (by omega)]; exact h2
      · rw [List.getElem?_set_ne (by omega)]; exact h3
      · rw [List.getElem?_set_ne (by omega)]; exact h4
  · intro i hi
    rw [List.length_set] at hi
    unfold En.c0
    rw [set_get L _ i hi]
    by_cases e : i = 0
    · subst e; rw [if_pos rfl]; exact h.ft 0 hn
    · rw [if_neg e]; exact h.ft i hi
theorem DA.push {r : Nat} {W wx w' : World} {v v' : Value} {L : En.Ls} {x : En1} (h : DA r W wx v L) (hx : x.1.size ≤ 1048576) (hl : L.length ≤ 300) (ho : En.Row w' W.heap.size v' (L ++ [x])) (hg : wx.grownBy w' v.ownBlock) : DA r W w' v' (L ++ [x]) := by
  have hr := h.lt
  have bg : Below W.heap.size wx w' := (Below.refl _ _).grown hg h.tn.size (fun b hb => (h.row.lt b hb).1)
  refine ⟨ho, ?_, by simp; omega, h.rd.kept bg hr, turn_below h.tn bg hr, hr⟩
  intro i hi
  simp at hi
  by_cases e : i < L.length
  · have := h.ft i e
    unfold En.c0 at this ⊢
    simpa [List.getD_eq_getElem?_getD, List.getElem?_append_left e] using this
  · have e : i = L.length := by omega
    subst e
    unfold En.c0
    simpa [List.getD_eq_getElem?_getD] using hx
theorem word4 (z : Int) (h0 : 0 ≤ z) (h1 : z < 4) : ∃ q : ByteArray, q.size ≤ 1048576 ∧ ([.string ⟨#[]⟩, .string ⟨#[84]⟩, .string ⟨#[97, 98, 99, 100, 101]⟩, .string ⟨#[122, 122, 122, 122]⟩] : List Value)[z.toNat]? = some (.string q) := by
  have : z = 0 ∨ z = 1 ∨ z = 2 ∨ z = 3 := by omega
  rcases this with rfl | rfl | rfl | rfl
  · exact ⟨⟨#[]⟩, by decide, rfl⟩
  · exact ⟨⟨#[84]⟩, by decide, rfl⟩
  · exact ⟨⟨#[97, 98, 99, 100, 101]⟩, by decide, rfl⟩
  · exact ⟨⟨#[122, 122, 122, 122]⟩, by decide, rfl⟩
theorem size3 (z : Int) (h0 : 0 ≤ z) (h1 : z < 3) : ∃ q : Int, ([.int .i64 (-1), .int .i64 1000000000, .int .i64 1000000001] : List Value)[z.toNat]? = some (.int .i64 q) := by
  have : z = 0 ∨ z = 1 ∨ z = 2 := by omega
  rcases this with rfl | rfl | rfl
  · exact ⟨-1, rfl⟩
  · exact ⟨1000000000, rfl⟩
  · exact ⟨1000000001, rfl⟩
theorem turn_cell {r i : Nat} {w w' : World} {l : List Value} {ty : TypeId} {v : Value} (t : Turn r (w.alloc (.cells l.toArray ty)) w') (hr : r < w.heap.size) (h : l[i]? = some v) : w'.cell? ⟨w.heap.size, i, none⟩ = some v :=
  blk_cell (blk_turn (heap_alloc_new w _) t (by omega)) h

set_option maxRecDepth 20000 in
set_option maxHeartbeats 4000000 in
theorem drawarch_any (HE : EntryC) (r : Nat) (w : World) (h : Rd r w) : Calls Try.prog 15 #[.pointer (some ⟨r, 0, none⟩)] w fun e w' => ∃ v L, e = .returned v ∧ DA r w w' v L := by
  have hr := h.lt
  have A0 : Hid (Calls Try.prog 35 #[.pointer (some ⟨r, 0, none⟩), .int .i64 30] w fun e w' => ∃ v L, e = .returned v ∧ En.Row w' w.heap.size v L ∧ (1 ≤ L.length ∧ L.length ≤ 30) ∧ okA L = true ∧ Rd r w' ∧ Turn r w w') := archive_any HE r w h
  clear h HE
  go_enter Try.func15, Try.ntmps15
  go_wp2_with fail
  refine A0.out.mono ?_
  rintro e w1 ⟨v, L, rfl, r1, ⟨l1, l2⟩, ok1, k1, t1⟩
  have D1 : Hid (DA r w w1 v L) := ⟨r1, ft_ok ok1, by omega, k1, t1, hr⟩
  obtain ⟨g, c, hv⟩ : ∃ g c, v = .slice (some ⟨g, 0, none⟩) L.length c := (by obtain ⟨xs, ho, _⟩ := r1; obtain ⟨g, c, e, _⟩ := ho.form (by omega); exact ⟨g, c, e⟩)
  subst hv
  obtain ⟨m, hm⟩ : ∃ m, m = L.length := ⟨_, rfl⟩
  have HM : Hid (m = L.length) := hm
  rw [← hm]
  have m1 : 1 ≤ m := by omega
  have m2 : (0 : Int) < (m : Int) := by omega
  have hg : w.heap.size ≤ g := (r1.lt g rfl).1
  clear A0 hm r1 ok1 k1 t1
  go_wp2_with fail
  refine (below_all r _ D1.out.rd 24 (by omega) (by omega)).mono ?_
  rintro e w2 ⟨⟨u, ⟨hu1, hu2⟩, rfl⟩, k2, t2⟩
  have D2 : Hid (DA r w w2 (.slice (some ⟨g, 0, none⟩) L.length c) L) := D1.out.turn t2 k2
  have n2 : r < w2.heap.size := k2.lt
  clear D1 k2 t2 hu2
  by_cases u0 : u = 0
  · subst u0
    have DB : Hid (DA r w (w2.alloc (Obj.cells #[.string ⟨#[]⟩, .string ⟨#[84]⟩, .string ⟨#[97, 98, 99, 100, 101]⟩, .string ⟨#[122, 122, 122, 122]⟩] 9)) (.slice (some ⟨g, 0, none⟩) L.length c) L) := D2.out.alloc _
    go_wp2_with fail
    refine (below_all r _ DB.out.rd 4 (by omega) (by omega)).mono ?_
    rintro e w3 ⟨⟨z, ⟨hz1, hz2⟩, rfl⟩, k3, t3⟩
    replace hz2 : z < 4 := hz2
    obtain ⟨q, hq, hc⟩ := word4 z hz1 hz2
    have c3 := turn_cell t3 n2 hc
    have D3 : Hid (DA r w w3 (.slice (some ⟨g, 0, none⟩) L.length c) L) := DB.out.turn t3 k3
    obtain ⟨f0, q0⟩ : w3.frozen? ⟨g, 0, none⟩ = false ∧ w3.cell? ⟨g, 0, none⟩ = some (.string (En.c0 L 0)) := (by
      obtain ⟨xs, ho, hG⟩ := D3.out.row
      refine ⟨ho.frozenAt 0, ?_⟩
      rw [ho.cellAt 0 (by omega)]
      exact (hG 0 (by omega)).1)
    have DN : Hid (DA r w (w3.setCell ⟨g, 0, none⟩ (.string q)) (.slice (some ⟨g, 0, none⟩) m c) (L.set 0 (q, En.c1 L 0, En.c2 L 0, En.c3 L 0, En.c4 L 0))) := (by have := D3.out.word (by omega) q hq; rw [HM.out]; exact this)
    clear hc k3 t3 DB D2 D3
    go_wp2_with fail
    go_ret
    exact ⟨_, _, rfl, DN.out⟩
  have e0 : (u == 0) = false := by simpa using u0
  by_cases u1 : u = 1
  · subst u1
    have CC : Hid (w2.cell? ⟨g, 0, none⟩ = some (.string (En.c0 L 0)) ∧ w2.cell? ⟨g, 1, none⟩ = some (.int .i64 (En.c1 L 0)) ∧ w2.cell? ⟨g, 2, none⟩ = some (.int .i64 (En.c2 L 0)) ∧ w2.cell? ⟨g, 3, none⟩ = some (.int .i64 (En.c3 L 0)) ∧ w2.cell? ⟨g, 4, none⟩ = some (.int .i64 (En.c4 L 0))) := (by
      obtain ⟨xs, ho, hG⟩ := D2.out.row
      obtain ⟨h0, h1, h2, h3, h4⟩ := hG 0 (by omega)
      refine ⟨?_, ?_, ?_, ?_, ?_⟩
      · rw [ho.cellAt 0 (by omega)]; exact h0
      · rw [ho.cellAt 1 (by omega)]; exact h1
      · rw [ho.cellAt 2 (by omega)]; exact h2
      · rw [ho.cellAt 3 (by omega)]; exact h3
      · rw [ho.cellAt 4 (by omega)]; exact h4)
    have HF : Hid ((En.c0 L 0).size ≤ 1048576) := D2.out.ft 0 (by omega)
    generalize En.c0 L 0 = x0 at *
    generalize En.c1 L 0 = x1 at *
    generalize En.c2 L 0 = x2 at *
    generalize En.c3 L 0 = x3 at *
    generalize En.c4 L 0 = x4 at *
    obtain ⟨q0, q1, q2, q3, q4⟩ := CC.out
    have RV : Hid (En.Reads (w2.alloc (Obj.cells #[.string x0, .int .i64 x1, .int .i64 x2, .int .i64 x3, .int .i64 x4] 26)) (.slice (some ⟨w2.heap.size, 0, none⟩) 1 1) [(x0, x1, x2, x3, x4)]) := reads_one w2.heap.size x0 x1 x2 x3 x4 (by simp) (by simp [go_sem]) (by simp [go_sem]) (by simp [go_sem]) (by simp [go_sem]) (by simp [go_sem])
    have RA : Hid (DA r w (w2.alloc (Obj.cells #[.string x0, .int .i64 x1, .int .i64 x2, .int .i64 x3, .int .i64 x4] 26)) (.slice (some ⟨g, 0, none⟩) m c) L) := (by have := D2.out.alloc (Obj.cells #[.string x0, .int .i64 x1, .int .i64 x2, .int .i64 x3, .int .i64 x4] 26); rw [HM.out]; exact this)
    have zz := RA.out.tn.size
    have l30 : Hid (L.length ≤ 30) := l2
    clear l2 CC D2
    go_wp2_with (at_builtin; refine En.wp_app rfl _ _ rfl (w2.alloc (Obj.cells #[.string x0, .int .i64 x1, .int .i64 x2, .int .i64 x3, .int .i64 x4] 26)) w.heap.size (.slice (some ⟨g, 0, none⟩) m c) L [(x0, x1, x2, x3, x4)] rfl RA.out.row (.slice (some ⟨w2.heap.size, 0, none⟩) 1 1) rfl RV.out (by have := l30.out; simp; omega) zz ?_)
    intro v' w5 hown hgrow
    have D5 : Hid (DA r w w5 v' (L ++ [(x0, x1, x2, x3, x4)])) := RA.out.push HF.out (by have := l30.out; omega) hown hgrow
    clear hown hgrow RA RV
    go_wp2_with fail
    go_ret
    exact ⟨_, _, rfl, D5.out⟩
  have e1 : (u == 1) = false := by simpa using u1
  by_cases u2 : u = 2
  · subst u2
    have DB : Hid (DA r w (w2.alloc (Obj.cells #[.int .i64 (-1), .int .i64 1000000000, .int .i64 1000000001] 2)) (.slice (some ⟨g, 0, none⟩) L.length c) L) := D2.out.alloc _
    go_wp2_with fail
    refine (below_all r _ DB.out.rd 3 (by omega) (by omega)).mono ?_
    rintro e w3 ⟨⟨z, ⟨hz1, hz2⟩, rfl⟩, k3, t3⟩
    replace hz2 : z < 3 := hz2
    obtain ⟨q, hc⟩ := size3 z hz1 hz2
    have c3 := turn_cell t3 n2 hc
    have D3 : Hid (DA r w w3 (.slice (some ⟨g, 0, none⟩) L.length c) L) := DB.out.turn t3 k3
    obtain ⟨f0, q0⟩ : w3.frozen? ⟨g, 4, none⟩ = false ∧ w3.cell? ⟨g, 4, none⟩ = some (.int .i64 (En.c4 L 0)) := (by
      obtain ⟨xs, ho, hG⟩ := D3.out.row
      refine ⟨ho.frozenAt 4, ?_⟩
      rw [ho.cellAt 4 (by omega)]
      exact (hG 0 (by omega)).2.2.2.2)
    have DN : Hid (DA r w (w3.setCell ⟨g, 4, none⟩ (.int .i64 q)) (.slice (some ⟨g, 0, none⟩) m c) (L.set 0 (En.c0 L 0, En.c1 L 0, En.c2 L 0, En.c3 L 0, q))) := (by have := D3.out.size (by omega) q; rw [HM.out]; exact this)
    clear hc k3 t3 DB D2 D3
    go_wp2_with fail
    go_ret
    exact ⟨_, _, rfl, DN.out⟩
  have e2 : (u == 2) = false := by simpa using u2
  by_cases u3 : u = 3
  · subst u3
    go_wp2_with fail
    refine (below_all r _ D2.out.rd 2 (by omega) (by omega)).mono ?_
    rintro e w3 ⟨⟨z, ⟨hz1, hz2⟩, rfl⟩, k3, t3⟩
    obtain ⟨n, hn⟩ : ∃ n : Nat, 300 + z = (n : Int) := ⟨(300 + z).toNat, by omega⟩
    have n301 : n ≤ 301 := by omega
    have T3 : Turn r w w3 := D2.out.tn.trans t3
    have D4 : Hid (DA r w (w3.alloc (Obj.cells #[] 26)) (.slice (some ⟨w3.heap.size, 0, none⟩) 0 0) []) := ⟨⟨[], World.ownsRow_lit w3 #[] 0 T3.size (Nat.zero_le _) rfl, fun i hi => by simp at hi⟩, fun i hi => by simp at hi, by simp, k3.kept ((Below.refl (r + 1) w3).alloc (by have := k3.lt; omega) _) (by omega), T3.alloc hr _, hr⟩
    clear T3 k3 t3 D2
    go_wp2_with fail
    go_loopw [3, 5] (fun v i wr => ∃ (k : Nat) (L : En.Ls), k ≤ n ∧ i = .int .i64 k ∧ L.length = k ∧ Hid (DA r w wr v L)) (fun _ i _ => n - (intOf i).toNat)
    case atStart => exact ⟨0, [], Nat.zero_le _, rfl, rfl, D4⟩
    case round =>
      clear D4 HM
      obtain ⟨k, L, hk, rfl, hL, D⟩ := hrel
      obtain ⟨v, hv⟩ : ∃ v, v = u3 := ⟨_, rfl⟩
      subst hv
      by_cases hlt : k < n
      · have i2 : (k : Int) < (n : Int) := by omega
        have RV : Hid (En.Reads (wr.alloc (Obj.cells #[.string ⟨#[116]⟩, .int .i64 k, .int .i64 0, .int .i64 0, .int .i64 7] 26)) (.slice (some ⟨wr.heap.size, 0, none⟩) 1 1) [(⟨#[116]⟩, (k : Int), 0, 0, 7)]) := reads_one wr.heap.size ⟨#[116]⟩ k 0 0 7 (by simp) (by simp [go_sem]) (by simp [go_sem]) (by simp [go_sem]) (by simp [go_sem]) (by simp [go_sem])
        have RA : Hid (DA r w (wr.alloc (Obj.cells #[.string ⟨#[116]⟩, .int .i64 k, .int .i64 0, .int .i64 0, .int .i64 7] 26)) v L) := D.out.alloc _
        have zz := RA.out.tn.size
        clear D
        go_wp2_with (at_builtin; refine En.wp_app rfl _ _ rfl (wr.alloc (Obj.cells #[.string ⟨#[116]⟩, .int .i64 k, .int .i64 0, .int .i64 0, .int .i64 7] 26)) w.heap.size v L [(⟨#[116]⟩, (k : Int), 0, 0, 7)] rfl RA.out.row (.slice (some ⟨wr.heap.size, 0, none⟩) 1 1) rfl RV.out (by simp; omega) zz ?_)
        intro v' w5 hown hgrow
        have D5 : Hid (DA r w w5 v' (L ++ [(⟨#[116]⟩, (k : Int), 0, 0, 7)])) := RA.out.push (by show (⟨#[116]⟩ : ByteArray).size ≤ 1048576; decide) (by omega) hown hgrow
        clear hown hgrow RA RV
        go_wp2_with fail
        go_roundw
        case rel => exact ⟨k + 1, _, by omega, by go_num, by simp [hL], D5⟩
        case measure => simp [intOf]; omega
      · have hkn : k = n := by omega
        subst hkn
        go_wp2_with fail
        go_ret
        exact ⟨_, _, rfl, D.out⟩
  have e3 : (u == 3) = false := by simpa using u3
  have DN : Hid (DA r w w2 (.slice (some ⟨g, 0, none⟩) m c) L) := (by have := D2.out; rw [HM.out]; exact this)
  clear D2
  go_wp2_with fail
  go_ret
  exact ⟨_, _, rfl, DN.out⟩
end Go.Proofs.Ytfnkcoppdelmjaa.Ed
