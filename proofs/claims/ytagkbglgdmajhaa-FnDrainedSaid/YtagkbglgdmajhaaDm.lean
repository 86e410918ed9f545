/- Drain of the program: what its memory keeps. -/
import Derived.Test.YtagkbglgdmajhaaEd
import Derived.Test.YtagkbglgdmajhaaHj
namespace Go.Proofs.Ytagkbglgdmajhaa.Hm
open Go.ChangeShapes Go.WideShapes Go.ChangeAt Go.RowKit
open Go.Proofs.Ytagkbglgdmajhaa.Lists Go.Proofs.Ytagkbglgdmajhaa.Dp Go.Proofs.Ytagkbglgdmajhaa.Hp Go.Proofs.Ytagkbglgdmajhaa.Gd

theorem nb_s4 {r c x : Int} (hc : 1 ≤ c) (hx : 0 ≤ x ∧ x < r * c) : (Gd.nb r c (x / c) (x % c)).map (pl c) = s4 r c x := by
  have i1 : 0 ≤ x / c ∧ x / c < r := ⟨Int.ediv_nonneg hx.1 (by omega), (Int.ediv_lt_iff_lt_mul (by omega)).2 hx.2⟩
  have j1 : 0 ≤ x % c ∧ x % c < c := ⟨Int.emod_nonneg _ (by omega), Int.emod_lt_of_pos _ (by omega)⟩
  have e : x = x / c * c + x % c := by have := Int.mul_ediv_add_emod x c; rw [Int.mul_comm] at this; omega
  have e1 : (x / c + 1) * c + x % c = x + c := by rw [Int.add_mul]; omega
  have e2 : x / c * c + (x % c + 1) = x + 1 := by omega
  have e3 : (x / c - 1) * c + x % c = x - c := by rw [Int.sub_mul]; omega
  have e4 : x / c * c + (x % c - 1) = x - 1 := by omega
  unfold Gd.nb cands s4 s3 s2 s1
  have t1 : there r c (x / c + 1) (x % c) = decide (x / c < r - 1) := by
    unfold there Bx.inn; rw [Bool.eq_iff_iff]; simp; omega
  have t2 : there r c (x / c) (x % c + 1) = decide (x % c < c - 1) := by
    unfold there Bx.inn; rw [Bool.eq_iff_iff]; simp; omega
  have t3 : there r c (x / c - 1) (x % c) = decide (0 < x / c) := by
    unfold there Bx.inn; rw [Bool.eq_iff_iff]; simp; omega
  have t4 : there r c (x / c) (x % c - 1) = decide (0 < x % c) := by
    unfold there Bx.inn; rw [Bool.eq_iff_iff]; simp; omega
  simp only [List.filter_cons, List.filter_nil, t1, t2, t3, t4, decide_eq_true_eq]
  unfold pl
  split <;> split <;> split <;> split <;> simp [e1, e2, e3, e4]

theorem hpush2 (B f : Nat) (w : World) (v : Value) (P : List Int) (a : Int) (b : Nat) (hb : b < 1000) (hl : P.length ≤ 4000) (hB : B ≤ w.heap.size) (h : HP B f w v P) :
    Calls Try.prog 25 #[iv f, .iface 52 (.agg #[.int .i64 a, .int .i64 b])] w fun e w' => PPost B f v w (P ++ [a * 1000 + b]) e w' := by
  have := hpush_any B f w v P (a * 1000 + b) hl hB h
  rw [show (a * 1000 + (b : Int)) / 1000 = a by omega, show (a * 1000 + (b : Int)) % 1000 = b by omega] at this
  exact this
theorem row_at {w : World} {B g n : Nat} {c : Nat} {X : List Int} (h : w.ownsRow B 2 1 (.slice (some ⟨g, 0, none⟩) n c) n (ints X)) (i : Nat) (hi : i < n) : w.cell? ⟨g, i, none⟩ = some (.int .i64 (X.getD i 0)) ∧ w.frozen? ⟨g, i, none⟩ = false := by
  have hl : X.length = n := by have := h.1; simpa [ints] using this
  refine ⟨?_, h.frozenAt i⟩
  rw [h.cellAt i (by omega)]
  simp [ints, List.getElem?_map, List.getElem?_eq_getElem (show i < X.length by omega)]
theorem row_put {w : World} {B g n : Nat} {c : Nat} {X : List Int} (h : w.ownsRow B 2 1 (.slice (some ⟨g, 0, none⟩) n c) n (ints X)) (i : Nat) (z : Int) : (w.setCell ⟨g, i, none⟩ (.int .i64 z)).ownsRow B 2 1 (.slice (some ⟨g, 0, none⟩) n c) n (ints (X.set i z)) := by
  rw [← Lists.ints_set]
  exact (h.stored i _).1
abbrev sl (g n : Nat) : Value := .slice (some ⟨g, 0, none⟩) n n
structure DM (r c : Int) (u : Value) (n f g h : Nat) (w wx : World) (hv : Value) (Fl Xl P : List Int) : Prop where
  bl : Below w.heap.size w wx
  bx : Bl wx w.heap.size 28 #[.int .i64 r, .int .i64 c, u]
  rf : wx.ownsRow (w.heap.size + 1) 2 1 (sl g n) n (ints Fl)
  rx : wx.ownsRow (w.heap.size + 1) 2 1 (sl h n) n (ints Xl)
  gh : g ≠ h
  hp : HP (w.heap.size + 1) f wx hv P
  fb : w.heap.size + 1 ≤ f
theorem HP.kb {S : Nat → Prop} {B f : Nat} {w w' : World} {v : Value} {P : List Int} (h : HP B f w v P) (k : KB S w w') (h1 : ¬ S f) (h2 : ∀ g, v.ownBlock = some g → ¬ S g) : HP B f w' v P := ⟨h.hr.kb k h1 h2, h.hp⟩
theorem HP.ty {B f : Nat} {w : World} {v : Value} {P : List Int} (h : HP B f w v P) (g : Nat) (hg : v.ownBlock = some g) : Ty w g 52 ∧ B ≤ g ∧ g < w.heap.size := by
  obtain ⟨⟨⟨xs, r, _⟩, _⟩, _⟩ := h
  exact ⟨row_ty r g hg, r.lt g hg⟩
theorem DM.on {r c : Int} {u : Value} {n f g h : Nat} {w wx wy : World} {hv : Value} {Fl Xl P : List Int} (d : DM r c u n f g h w wx hv Fl Xl P) (b : Below wx.heap.size wx wy) : DM r c u n f g h w wy hv Fl Xl P :=
  ⟨d.bl.trans (b.mono d.bl.size), d.bx.on b, Bx.row_on d.rf b, Bx.row_on d.rx b, d.gh, d.hp.on b, d.fb⟩
theorem DM.k6 {r c : Int} {u : Value} {n f g h : Nat} {w wx wy : World} {hv hv' : Value} {Fl Xl P P' : List Int} (d : DM r c u n f g h w wx hv Fl Xl P) (k : K6 f hv wx wy hv') (hp : HP (w.heap.size + 1) f wy hv' P') : DM r c u n f g h w wy hv' Fl Xl P' := by
  have tf := d.hp.hr.bx.ty
  have no : ∀ b e, Ty wx b e → e ≠ 47 → e ≠ 52 → ¬ (b = f ∨ hv.ownBlock = some b) := by
    rintro b e t n1 n2 (x | x)
    · exact t.ne tf n1 x
    · exact t.ne (d.hp.ty b x).1 n2 rfl
  refine ⟨d.bl.trans (k.kb.below d.bl.size (fun b x => ?_)), d.bx.kb k.kb (no _ _ d.bx.ty (by decide) (by decide)), row_kb d.rf k.kb (fun b hb => no b _ (row_ty d.rf b hb) (by decide) (by decide)), row_kb d.rx k.kb (fun b hb => no b _ (row_ty d.rx b hb) (by decide) (by decide)), d.gh, hp, d.fb⟩
  rcases x with x | x
  · have := d.fb; omega
  · have := (d.hp.ty b x).2.1; omega
theorem DM.gl {r c : Int} {u : Value} {n f g h : Nat} {w wx : World} {hv : Value} {Fl Xl P : List Int} (d : DM r c u n f g h w wx hv Fl Xl P) : (w.heap.size + 1 ≤ g ∧ g < wx.heap.size) ∧ w.heap.size + 1 ≤ h ∧ h < wx.heap.size := ⟨d.rf.lt g rfl, d.rx.lt h rfl⟩
theorem DM.putf {r c : Int} {u : Value} {n f g h : Nat} {w wx : World} {hv : Value} {Fl Xl P : List Int} (d : DM r c u n f g h w wx hv Fl Xl P) (i : Nat) (z : Int) : DM r c u n f g h w (wx.setCell ⟨g, i, none⟩ (.int .i64 z)) hv (Fl.set i z) Xl P := by
  have k := kb_set wx g i (.int .i64 z)
  have tg := row_ty d.rf g rfl
  have l := d.gl
  refine ⟨d.bl.setCell (p := ⟨g, i, none⟩) (by show _ ≤ g; omega) _, d.bx.kb k (by omega), row_put d.rf i z, row_kb d.rx k (fun b hb x => ?_), d.gh, d.hp.kb k (fun x => d.hp.hr.bx.ty.ne tg (by decide) x) (fun b hb x => (d.hp.ty b hb).1.ne tg (by decide) x), d.fb⟩
  simp [Value.ownBlock] at hb
  exact d.gh (by omega)
theorem DM.putx {r c : Int} {u : Value} {n f g h : Nat} {w wx : World} {hv : Value} {Fl Xl P : List Int} (d : DM r c u n f g h w wx hv Fl Xl P) (i : Nat) (z : Int) : DM r c u n f g h w (wx.setCell ⟨h, i, none⟩ (.int .i64 z)) hv Fl (Xl.set i z) P := by
  have k := kb_set wx h i (.int .i64 z)
  have tg := row_ty d.rx h rfl
  have l := d.gl
  refine ⟨d.bl.setCell (p := ⟨h, i, none⟩) (by show _ ≤ h; omega) _, d.bx.kb k (by omega), row_kb d.rf k (fun b hb x => ?_), row_put d.rx i z, d.gh, d.hp.kb k (fun x => d.hp.hr.bx.ty.ne tg (by decide) x) (fun b hb x => (d.hp.ty b hb).1.ne tg (by decide) x), d.fb⟩
  simp [Value.ownBlock] at hb
  exact d.gh (by omega)
theorem DM.drewN {r c : Int} {u : Value} {n f g h : Nat} {w wx : World} {hv : Value} {Fl Xl P : List Int} (d : DM r c u n f g h w wx hv Fl Xl P) (m : Nat) : DM r c u n f g h w (wx.drewN m) hv Fl Xl P := d.on (Bx.below_drewN (Below.refl _ _) m)

/-- the brink that has left the front -/
structure FB (q : Nat) (a b : Int) (hv : Value) (wx : World) : Prop where
  bl : Bl wx q 52 #[.int .i64 a, .int .i64 b]
  ne : hv.ownBlock ≠ some q
theorem FB.on {q : Nat} {a b : Int} {hv : Value} {wx wy : World} (h : FB q a b hv wx) (k : Below wx.heap.size wx wy) : FB q a b hv wy := ⟨h.bl.on k, h.ne⟩
theorem FB.k6 {q f : Nat} {a b : Int} {hv hv' : Value} {wx wy : World} (h : FB q a b hv wx) (t : Ty wx f 47) (k : K6 f hv wx wy hv') : FB q a b hv' wy := by
  refine ⟨h.bl.kb k.kb (fun x => ?_), fun e => ?_⟩
  · rcases x with x | x
    · exact h.bl.ty.ne t (by decide) x
    · exact h.ne x
  · rcases k.ob with o | o
    · exact h.ne (by rw [← o]; exact e)
    · have := o q e
      have := h.bl.lt
      omega
theorem FB.set {q g i : Nat} {a b z : Int} {hv : Value} {wx : World} (h : FB q a b hv wx) (t : Ty wx g 2) : FB q a b hv (wx.setCell ⟨g, i, none⟩ (.int .i64 z)) := ⟨h.bl.kb (kb_set wx g i _) (fun x => h.bl.ty.ne t (by decide) x), h.ne⟩
/-- the neighbours' row -/
def NR (B : Nat) (sv : Value) (Y : List Int) (wx : World) : Prop := wx.ownsRow B 2 1 sv Y.length (ints Y)
theorem NR.on {B : Nat} {sv : Value} {Y : List Int} {wx wy : World} (h : NR B sv Y wx) (k : Below wx.heap.size wx wy) : NR B sv Y wy := Bx.row_on h k
theorem NR.k6 {B f : Nat} {sv : Value} {Y : List Int} {hv hv' : Value} {wx wy : World} {Bh : Nat} {P : List Int} (h : NR B sv Y wx) (hp : HP Bh f wx hv P) (k : K6 f hv wx wy hv') : NR B sv Y wy := by
  refine row_kb h k.kb (fun b hb x => ?_)
  rcases x with x | x
  · exact (row_ty h b hb).ne hp.hr.bx.ty (by decide) x
  · exact (row_ty h b hb).ne (hp.ty b x).1 (by decide) rfl
theorem NR.set {B g i : Nat} {z : Int} {sv : Value} {Y : List Int} {wx : World} (h : NR B sv Y wx) (hg : g < B) : NR B sv Y (wx.setCell ⟨g, i, none⟩ (.int .i64 z)) := by
  refine row_kb h (kb_set wx g i _) (fun b hb x => ?_)
  have := (h.lt b hb).1
  omega
def X1 (r c : Int) (n k : Nat) : List Int := (List.range n).map fun (x : Nat) => if x < k then (if edB r c x then (-1 : Int) else -2) else 0
theorem X1_len (r c : Int) (n k : Nat) : (X1 r c n k).length = n := by simp [X1]
theorem X1_get (r c : Int) {n k x : Nat} (h : x < n) : (X1 r c n k).getD x 0 = if x < k then (if edB r c x then -1 else -2) else 0 := by
  simp [X1, List.getD_eq_getElem?_getD, h]
theorem X1_zero (r c : Int) (L : List Int) : X1 r c L.length 0 = fill L 0 := by
  apply List.ext_getElem (by simp [X1, fill])
  intro i h1 h2
  simp [X1, fill]
theorem X1_next (r c : Int) {n k : Nat} (hk : k < n) : X1 r c n (k + 1) = (X1 r c n k).set k (if edB r c k then -1 else -2) := by
  refine list_ext (by rw [List.length_set, X1_len, X1_len]) (fun x hx => ?_)
  rw [X1_len] at hx
  rw [set_get (by rw [X1_len]; exact hk), X1_get r c hx, X1_get r c hx]
  by_cases q : x = k
  · subst q; rw [if_pos rfl, if_pos (by omega)]
  · rw [if_neg q]
    by_cases q2 : x < k
    · rw [if_pos q2, if_pos (by omega)]
    · rw [if_neg q2, if_neg (by omega)]
theorem X1_nx (r c : Int) (L : List Int) : NX L.length (ini r c L) (X1 r c L.length L.length) := by
  refine ⟨X1_len _ _ _ _, fun x hx => ?_⟩
  rw [X1_get r c hx, if_pos hx]
  show _ = if (H0 r c L.length L.length).getD x 0 = 0 then -2 else (List.replicate L.length (-1)).getD x 0
  rw [H0_get r c hx]
  cases e : edB r c x
  · simp
  · simp [hx, List.getD_eq_getElem?_getD]
end Go.Proofs.Ytagkbglgdmajhaa.Hm
