/- A list of structs that comes in as an argument, opened to its numbers. -/
import Derived.Test.YtoaabdmbgemkjaaGreatDoorCh
import Derived.Deep.Slices
import Derived.ChangeSame
import Derived.Laws.Cover2
namespace Go.Proofs.YtoaabdmbgemkjaaGreatDoor.Ch
open Go.ChangeShapes Go.WideShapes Go.ChangeAt Go.RowKit Go.Deep
set_option maxRecDepth 20000
variable {H : Type} {enc : TypeId × Value → H} {w : World} {base : Nat} {spare : Nat → Bool} {held : Bool}
theorem trod_flt {P : Program} {fuel : Nat} {t : TypeId} {cs : List Value} {x : DataW H × List MemPlace} {k : FloatKind} (ht : P.underlying t = some (.float k)) (h : DataW.trod enc P w base spare held fuel t cs = some x) : ∃ n, cs = [.float k n] ∧ x = (.lit (.float k n), []) ∧ (Lit.float k n).wf = true := by
  cases fuel with
  | zero => simp [DataW.trod] at h
  | succ n =>
    unfold DataW.trod at h
    rw [ht] at h
    split at h <;> simp_all
theorem trod_bool {P : Program} {fuel : Nat} {t : TypeId} {cs : List Value} {x : DataW H × List MemPlace} (ht : P.underlying t = some .bool) (h : DataW.trod enc P w base spare held fuel t cs = some x) : ∃ n, cs = [.bool n] ∧ x = (.lit (.bool n), []) := by
  cases fuel with
  | zero => simp [DataW.trod] at h
  | succ n =>
    unfold DataW.trod at h
    rw [ht] at h
    split at h <;> simp_all
theorem cellsE : Tryz.prog.cellsOf 61 = 9 := by kernel_rfl
theorem cellsI : Tryz.prog.cellsOf 2 = 1 := by kernel_rfl
theorem cellsS : Tryz.prog.cellsOf 25 = 6 := by kernel_rfl
theorem cellsF : Tryz.prog.cellsOf 9 = 1 := by kernel_rfl

def Fit (L : Ls) : Prop := ∀ z ∈ L, (z.2.2.2.2.2.2.1).size < 9223372036854775808 ∧ (z.2.2.2.2.2.2.2.1).size < 9223372036854775808
set_option maxHeartbeats 1000000 in
theorem opened {v : Value} {fuel : Nat} {x : DataW H × List MemPlace} {a : Option Addr} {len cap : Nat} (hv : v = .slice a len cap) (h : DataW.trod enc Tryz.prog w base spare held fuel 26 v.cells.toList = some x) :
    ∃ L : Ls, Reads w v L ∧ Fit L := by
  unfold Fit
  subst hv
  rcases open_slice Tryz.underlying26 h with ⟨hcs, _⟩ | ⟨ad, l, c, m, n, D, Pl, hcs, hb, hl, hm, hmm, _, hx⟩
  · simp [Value.cells] at hcs
    obtain ⟨rfl, rfl, rfl⟩ := hcs
    exact ⟨[], Or.inl ⟨rfl, _, _, rfl⟩, fun z hz => by simp at hz⟩
  · simp [Value.cells] at hcs
    obtain ⟨rfl, rfl, rfl⟩ := hcs
    have hle : len ≤ m := by rw [hmm]; split <;> omega
    have hone : ∀ i, i < len → ∃ z : Int × Int × Int × Int × Int × Int × ByteArray × ByteArray × Int, w.cell? (ad.add (i * 9 + 0)) = some (.int .i64 (z.1)) ∧ w.cell? (ad.add (i * 9 + 1)) = some (.int .i64 (z.2.1)) ∧ w.cell? (ad.add (i * 9 + 2)) = some (.int .i64 (z.2.2.1)) ∧ w.cell? (ad.add (i * 9 + 3)) = some (.int .i64 (z.2.2.2.1)) ∧ w.cell? (ad.add (i * 9 + 4)) = some (.int .i64 (z.2.2.2.2.1)) ∧ w.cell? (ad.add (i * 9 + 5)) = some (.int .i64 (z.2.2.2.2.2.1)) ∧ w.cell? (ad.add (i * 9 + 6)) = some (.string (z.2.2.2.2.2.2.1)) ∧ w.cell? (ad.add (i * 9 + 7)) = some (.string (z.2.2.2.2.2.2.2.1)) ∧ w.cell? (ad.add (i * 9 + 8)) = some (.int .i64 (z.2.2.2.2.2.2.2.2)) ∧ (z.2.2.2.2.2.2.1).size < 9223372036854775808 ∧ (z.2.2.2.2.2.2.2.1).size < 9223372036854775808 := by
      intro i hi
      obtain ⟨cs', h1, h2⟩ := hx i (by omega)
      rw [cellsE] at h1
      obtain ⟨_, hlen, hcell⟩ := World.cells?_some h1
      obtain ⟨xs, k, _, _, _, hxl, hf⟩ := DataW.trod_struct Tryz.underlying61 h2
      match xs, hxl, cs', hlen with
      | [y0, y1, y2, y3], _, [v0, v1, v2, v3, v4, v5, v6, v7, v8], _ =>
        have g0 := hf 0 _ rfl
        have g1 := hf 1 _ rfl
        have g2 := hf 2 _ rfl
        have gs := hf 3 _ rfl
        simp [cellsI, cellsS] at g0 g1 g2 gs
        obtain ⟨ys, k', _, _, _, hyl, hg⟩ := DataW.trod_struct Tryz.underlying25 gs
        match ys, hyl with
        | [z0, z1, z2, z3, z4, z5], _ =>
        have g3 := hg 0 _ rfl
        have g4 := hg 1 _ rfl
        have g5 := hg 2 _ rfl
        have g6 := hg 3 _ rfl
        have g7 := hg 4 _ rfl
        have g8 := hg 5 _ rfl
        simp [cellsI, cellsF] at g3 g4 g5 g6 g7 g8
        obtain ⟨n0, e0, _, b0⟩ := DataW.trod_int Tryz.underlying2 g0
        obtain ⟨n1, e1, _, b1⟩ := DataW.trod_int Tryz.underlying2 g1
        obtain ⟨n2, e2, _, b2⟩ := DataW.trod_int Tryz.underlying2 g2
        obtain ⟨n3, e3, _, b3⟩ := DataW.trod_int Tryz.underlying2 g3
        obtain ⟨n4, e4, _, b4⟩ := DataW.trod_int Tryz.underlying2 g4
        obtain ⟨n5, e5, _, b5⟩ := DataW.trod_int Tryz.underlying2 g5
        obtain ⟨n6, e6, _, b6⟩ := DataW.trod_string Tryz.underlying9 g6
        obtain ⟨n7, e7, _, b7⟩ := DataW.trod_string Tryz.underlying9 g7
        obtain ⟨n8, e8, _, b8⟩ := DataW.trod_int Tryz.underlying2 g8
        simp at e0 e1 e2 e3 e4 e5 e6 e7 e8
        subst e0 e1 e2 e3 e4 e5 e6 e7 e8
        have q0 := hcell 0 (by omega)
        have q1 := hcell 1 (by omega)
        have q2 := hcell 2 (by omega)
        have q3 := hcell 3 (by omega)
        have q4 := hcell 4 (by omega)
        have q5 := hcell 5 (by omega)
        have q6 := hcell 6 (by omega)
        have q7 := hcell 7 (by omega)
        have q8 := hcell 8 (by omega)
        rw [add_add] at q0 q1 q2 q3 q4 q5 q6 q7 q8
        exact ⟨(n0, n1, n2, n3, n4, n5, n6, n7, n8), by simpa using q0, by simpa using q1, by simpa using q2, by simpa using q3, by simpa using q4, by simpa using q5, by simpa using q6, by simpa using q7, by simpa using q8, (by unfold maxLen at b6; exact (by omega : n6.size < 9223372036854775808)), (by unfold maxLen at b7; exact (by omega : n7.size < 9223372036854775808))⟩
    have hf : ∃ f : Nat → Int × Int × Int × Int × Int × Int × ByteArray × ByteArray × Int, ∀ i, i < len → w.cell? (ad.add (i * 9 + 0)) = some (.int .i64 ((f i).1)) ∧ w.cell? (ad.add (i * 9 + 1)) = some (.int .i64 ((f i).2.1)) ∧ w.cell? (ad.add (i * 9 + 2)) = some (.int .i64 ((f i).2.2.1)) ∧ w.cell? (ad.add (i * 9 + 3)) = some (.int .i64 ((f i).2.2.2.1)) ∧ w.cell? (ad.add (i * 9 + 4)) = some (.int .i64 ((f i).2.2.2.2.1)) ∧ w.cell? (ad.add (i * 9 + 5)) = some (.int .i64 ((f i).2.2.2.2.2.1)) ∧ w.cell? (ad.add (i * 9 + 6)) = some (.string ((f i).2.2.2.2.2.2.1)) ∧ w.cell? (ad.add (i * 9 + 7)) = some (.string ((f i).2.2.2.2.2.2.2.1)) ∧ w.cell? (ad.add (i * 9 + 8)) = some (.int .i64 ((f i).2.2.2.2.2.2.2.2)) ∧ ((f i).2.2.2.2.2.2.1).size < 9223372036854775808 ∧ ((f i).2.2.2.2.2.2.2.1).size < 9223372036854775808 :=
      ⟨fun i => if h : i < len then Classical.choose (hone i h) else (0, 0, 0, 0, 0, 0, ⟨#[]⟩, ⟨#[]⟩, 0), fun i hi => by simp only [hi, dif_pos]; exact Classical.choose_spec (hone i hi)⟩
    obtain ⟨f, hf⟩ := hf
    have hlen : ((List.range len).map f).length = len := by simp
    refine ⟨(List.range len).map f, ?_, fun z hz => ?_⟩
    · by_cases h0 : len = 0
      · subst h0
        exact Or.inl ⟨rfl, _, _, rfl⟩
      · obtain ⟨b, o, spot⟩ := ad
        have hc := (hf 0 (by omega)).1
        have hspot : spot = none := by simpa [Addr.add] using World.cell?_spot hc
        subst hspot
        have ad : ∀ k, (⟨b, o, none⟩ : Addr).add k = ⟨b, o + k, none⟩ := by
          intro k
          unfold Addr.add
          split
          · rename_i h; subst h; rfl
          · rfl
        refine Or.inr ⟨b, o, cap, by rw [hlen], by rw [hlen]; exact hl, hm, World.block_lt_of_cell? w _ hc, fun i hi => ?_⟩
        rw [hlen] at hi
        obtain ⟨h10, h11, h12, h13, h14, h15, h16, h17, h18, _, _⟩ := hf i hi
        rw [ad] at h10 h11 h12 h13 h14 h15 h16 h17 h18
        have e0 : c0 ((List.range len).map f) i = (f i).1 := by simp [c0, hi]
        have e1 : c1 ((List.range len).map f) i = (f i).2.1 := by simp [c1, hi]
        have e2 : c2 ((List.range len).map f) i = (f i).2.2.1 := by simp [c2, hi]
        have e3 : c3 ((List.range len).map f) i = (f i).2.2.2.1 := by simp [c3, hi]
        have e4 : c4 ((List.range len).map f) i = (f i).2.2.2.2.1 := by simp [c4, hi]
        have e5 : c5 ((List.range len).map f) i = (f i).2.2.2.2.2.1 := by simp [c5, hi]
        have e6 : c6 ((List.range len).map f) i = (f i).2.2.2.2.2.2.1 := by simp [c6, hi]
        have e7 : c7 ((List.range len).map f) i = (f i).2.2.2.2.2.2.2.1 := by simp [c7, hi]
        have e8 : c8 ((List.range len).map f) i = (f i).2.2.2.2.2.2.2.2 := by simp [c8, hi]
        unfold Cs
        rw [e0, e1, e2, e3, e4, e5, e6, e7, e8]
        exact ⟨by simpa [Nat.add_assoc] using h10, by simpa [Nat.add_assoc] using h11, by simpa [Nat.add_assoc] using h12, by simpa [Nat.add_assoc] using h13, by simpa [Nat.add_assoc] using h14, by simpa [Nat.add_assoc] using h15, by simpa [Nat.add_assoc] using h16, by simpa [Nat.add_assoc] using h17, by simpa [Nat.add_assoc] using h18⟩
    · obtain ⟨i, hi, rfl⟩ := List.mem_map.1 hz
      obtain ⟨_, _, _, _, _, _, _, _, _, w6, w7⟩ := hf i (List.mem_range.1 hi)
      exact ⟨w6, w7⟩
theorem c67 (L : Ls) (h : Fit L) (i : Nat) (hi : i < L.length) : (c6 L i).size < 9223372036854775808 ∧ (c7 L i).size < 9223372036854775808 := by
  have hm : L.getD i (0, 0, 0, 0, 0, 0, ⟨#[]⟩, ⟨#[]⟩, 0) ∈ L := by
    rw [List.getD_eq_getElem?_getD, List.getElem?_eq_getElem hi]
    exact List.getElem_mem hi
  exact h _ hm
theorem opened1 {fuel : Nat} {v : Value} {x : DataW H × List MemPlace} (h : DataW.trod enc Tryz.prog w base spare held fuel 26 [v] = some x) : ∃ L : Ls, Reads w v L ∧ Fit L := by
  have hs : ∃ a l c, v = .slice a l c := by
    rcases Go.Deep.open_slice Tryz.underlying26 h with ⟨hcs, _⟩ | ⟨ad, l, c, m, n, D, Pl, hcs, _⟩
    · simp at hcs; exact ⟨_, _, _, hcs⟩
    · simp at hcs; exact ⟨_, _, _, hcs⟩
  obtain ⟨a, l, c, rfl⟩ := hs
  exact opened rfl (by simpa [Value.cells] using h)
theorem cellsT : Tryz.prog.cellsOf 28 = 11 := by kernel_rfl
theorem cellsV : Tryz.prog.cellsOf 23 = 2 := by kernel_rfl
theorem cellsL : Tryz.prog.cellsOf 26 = 1 := by kernel_rfl
theorem arr11 {cs : Array Value} (h : cs.size = 11) : ∃ c0 c1 c2 c3 c4 c5 c6 c7 c8 c9 c10, cs = #[c0, c1, c2, c3, c4, c5, c6, c7, c8, c9, c10] := by
  obtain ⟨l⟩ := cs
  match l, h with
  | [c0, c1, c2, c3, c4, c5, c6, c7, c8, c9, c10], _ => exact ⟨c0, c1, c2, c3, c4, c5, c6, c7, c8, c9, c10, rfl⟩
set_option maxHeartbeats 1000000 in
/-- a forecast that comes in as an argument, opened -/
theorem openT {r : Reach} {b0 : Nat} {v : Value} {dd : DataW H} {p : List MemPlace} (hv : Value.okWide Tryz.prog w r b0 28 v) (hh : DataW.Trod enc Tryz.prog w base spare held 28 v dd p) : ∃ (n0 : ByteArray) (n1 n2 n3 n4 n5 n6 : Int) (n7 n8 : ByteArray) (n9 : Int) (u : Value) (L : Ls), v = .agg #[.string n0, .int .i64 n1, .int .i64 n2, .int .i64 n3, .int .i64 n4, .int .i64 n5, .int .i64 n6, .string n7, .string n8, .int .i64 n9, u] ∧ n0.size < 9223372036854775808 ∧ n7.size < 9223372036854775808 ∧ n8.size < 9223372036854775808 ∧ Reads w u L ∧ Fit L := by
  obtain ⟨cs, rfl, hsz⟩ := okWide_struct Tryz.underlying28 hv
  obtain ⟨c0, c1, c2, c3, c4, c5, c6, c7, c8, c9, c10, rfl⟩ := arr11 (hsz.trans cellsT)
  obtain ⟨fuel, hf⟩ := hh
  obtain ⟨xs, n, _, hx, _, hn, hel⟩ := DataW.trod_struct Tryz.underlying28 hf
  have e0 := hel 0 _ rfl
  have e1 := hel 1 _ rfl
  have ev := hel 2 _ rfl
  have es := hel 3 _ rfl
  have el := hel 4 _ rfl
  simp [cellsI, cellsF, cellsV, cellsS, cellsL, Value.cells] at e0 e1 ev es el hn
  obtain ⟨x0, x1, x2, x3, x4, rfl⟩ : ∃ x0 x1 x2 x3 x4, xs = [x0, x1, x2, x3, x4] := by
    match xs, hn with
    | [x0, x1, x2, x3, x4], _ => exact ⟨x0, x1, x2, x3, x4, rfl⟩
  simp at e0 e1 ev es el
  obtain ⟨n0, k0, rfl, w0⟩ := DataW.trod_string Tryz.underlying9 e0
  obtain ⟨n1, k1, rfl, _⟩ := DataW.trod_int Tryz.underlying2 e1
  obtain ⟨ys, k', _, _, _, hyl, hg⟩ := DataW.trod_struct Tryz.underlying23 ev
  match ys, hyl with
  | [z0, z1], _ =>
  have e2 := hg 0 _ rfl
  have e3 := hg 1 _ rfl
  simp [cellsI] at e2 e3
  obtain ⟨n2, k2, _, _⟩ := DataW.trod_int Tryz.underlying2 e2
  obtain ⟨n3, k3, _, _⟩ := DataW.trod_int Tryz.underlying2 e3
  obtain ⟨ys', k'', _, _, _, hyl', hg'⟩ := DataW.trod_struct Tryz.underlying25 es
  match ys', hyl' with
  | [u0, u1, u2, u3, u4, u5], _ =>
  have e4 := hg' 0 _ rfl
  have e5 := hg' 1 _ rfl
  have e6 := hg' 2 _ rfl
  have e7 := hg' 3 _ rfl
  have e8 := hg' 4 _ rfl
  have e9 := hg' 5 _ rfl
  simp [cellsI, cellsF] at e4 e5 e6 e7 e8 e9
  obtain ⟨n4, k4, _, _⟩ := DataW.trod_int Tryz.underlying2 e4
  obtain ⟨n5, k5, _, _⟩ := DataW.trod_int Tryz.underlying2 e5
  obtain ⟨n6, k6, _, _⟩ := DataW.trod_int Tryz.underlying2 e6
  obtain ⟨n7, k7, _, w7⟩ := DataW.trod_string Tryz.underlying9 e7
  obtain ⟨n8, k8, _, w8⟩ := DataW.trod_string Tryz.underlying9 e8
  obtain ⟨n9, k9, _, _⟩ := DataW.trod_int Tryz.underlying2 e9
  obtain ⟨L, hL, fL⟩ := opened1 el
  simp at k0 k1 k2 k3 k4 k5 k6 k7 k8 k9
  subst k0 k1 k2 k3 k4 k5 k6 k7 k8 k9
  exact ⟨n0, n1, n2, n3, n4, n5, n6, n7, n8, n9, c10, L, rfl, by unfold maxLen at w0; omega, by unfold maxLen at w7; omega, by unfold maxLen at w8; omega, hL, fL⟩
end Go.Proofs.YtoaabdmbgemkjaaGreatDoor.Ch
