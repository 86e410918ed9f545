/- FnTimes: the law, walked. -/
import Derived.Test.YtjnkeeedoffdkaaDoorTf
import Derived.Test.YtjnkeeedoffdkaaDoorTd
import Derived.Laws.StructEq
namespace Go.Proofs.YtjnkeeedoffdkaaDoor.Tp
open Go.ChangeShapes Go.WideShapes Go.ChangeAt Go.RowKit Dates Dec Fig Stamp Rd
/-- a date in its box -/
def Bx (w : World) (g : Nat) (Y M D h m : Nat) : Prop := w.cell? ⟨g, 0, none⟩ = some (.int .i64 Y) ∧ w.cell? ⟨g, 1, none⟩ = some (.int .i64 M) ∧ w.cell? ⟨g, 2, none⟩ = some (.int .i64 D) ∧ w.cell? ⟨g, 3, none⟩ = some (.int .i64 h) ∧ w.cell? ⟨g, 4, none⟩ = some (.int .i64 m)
theorem Bx.on {w w' : World} {B g Y M D h m : Nat} (k : Bx w g Y M D h m) (hb : Below B w w') (hg : g < B) : Bx w' g Y M D h m :=
  ⟨(hb.cell (p := ⟨g, 0, none⟩) hg).trans k.1, (hb.cell (p := ⟨g, 1, none⟩) hg).trans k.2.1, (hb.cell (p := ⟨g, 2, none⟩) hg).trans k.2.2.1, (hb.cell (p := ⟨g, 3, none⟩) hg).trans k.2.2.2.1, (hb.cell (p := ⟨g, 4, none⟩) hg).trans k.2.2.2.2⟩
theorem Bx.new (w : World) (Y M D h m : Nat) (t : TypeId) : Bx (w.alloc (Obj.cells #[.int .i64 Y, .int .i64 M, .int .i64 D, .int .i64 h, .int .i64 m] t)) w.heap.size Y M D h m := by unfold Bx; simp [go_sem]
theorem held26 : Tryd.prog.stoodInHeld 26 = false := by kernel_rfl
theorem under26 : Tryd.prog.underlying 26 = some (.struct (Tryd.prog.fieldsOf 26)) := by kernel_rfl
theorem guard26 : Tryd.prog.eqGuardType Tryd.prog.depth 26 = false := by kernel_rfl
theorem neqD (Y M D h m : Nat) (w : World) : (binOp .neq 26 (dv Y M D h m) (dv Y M D h m)).run Tryd.prog w = .ok (.bool false) w := by
  rw [run_neq_struct, run_equalIn_struct w 9999 26 _ _ under26 held26]
  simp only [Program.fieldsOf, Tryd.underlying26]
  simp [go_sem, Op.eqFields, part]
abbrev zv : Value := .agg #[.int .i64 0, .int .i64 0, .int .i64 0, .int .i64 0, .int .i64 0]
set_option maxRecDepth 20000 in
set_option maxHeartbeats 1000000 in
theorem law_big (a b : Option Addr) (n c n2 c2 : Nat) (w : World) (hn : n < 9223372036854775808) (hn2 : n2 < 9223372036854775808) (h : 1048576 < n ∨ 1048576 < n2) :
    Calls Tryd.prog 3 #[.slice a n c, .slice b n2 c2] w fun e w' => e = .returned (.bool true) ∧ Below w.heap.size w w' := by
  by_cases h1 : 1048576 < n
  · have B1 : Hid (Calls Tryd.prog 4 #[.slice a n c] w fun e w' => e = .returned (.bool true) ∧ w' = w) := (by have := big_any a n c w hn; rw [decide_eq_true h1] at this; exact this)
    go_enter Tryd.func3, Tryd.ntmps3
    go_wp2_with fail
    refine B1.out.mono ?_
    rintro e x ⟨rfl, hx⟩
    subst x
    go_wp2_with fail
    go_ret
    exact ⟨rfl, Below.refl _ _⟩
  · have h2 : 1048576 < n2 := by omega
    have B1 : Hid (Calls Tryd.prog 4 #[.slice a n c] w fun e w' => e = .returned (.bool false) ∧ w' = w) := (by have := big_any a n c w hn; rw [decide_eq_false h1] at this; exact this)
    have B2 : Hid (Calls Tryd.prog 4 #[.slice b n2 c2] w fun e w' => e = .returned (.bool true) ∧ w' = w) := (by have := big_any b n2 c2 w hn2; rw [decide_eq_true h2] at this; exact this)
    clear h h1 h2
    go_enter Tryd.func3, Tryd.ntmps3
    go_wp2_with fail
    refine B1.out.mono ?_
    rintro e x ⟨rfl, hx⟩
    subst x
    go_wp2_with fail
    refine B2.out.mono ?_
    rintro e x ⟨rfl, hx⟩
    subst x
    go_wp2_with fail
    go_ret
    exact ⟨rfl, Below.refl _ _⟩
set_option maxRecDepth 20000 in
set_option maxHeartbeats 4000000 in
theorem timesLaw (a b : Option Addr) (n c n2 c2 : Nat) (w : World) (hT : Tb w) (hn : n ≤ 1048576) (hn2 : n2 ≤ 1048576) (h1 : Rd.Code w a n c) (h2 : Rd.Code w b n2 c2) :
    Calls Tryd.prog 3 #[.slice a n c, .slice b n2 c2] w fun e w' => e = .returned (.bool true) ∧ Below w.heap.size w w' := by
  have B1 : Hid (Calls Tryd.prog 4 #[.slice a n c] w fun e w' => e = .returned (.bool false) ∧ w' = w) := (by have := big_any a n c w (by omega); rw [decide_eq_false (by omega)] at this; exact this)
  have B2 : Hid (Calls Tryd.prog 4 #[.slice b n2 c2] w fun e w' => e = .returned (.bool false) ∧ w' = w) := (by have := big_any b n2 c2 w (by omega); rw [decide_eq_false (by omega)] at this; exact this)
  have S1 : Hid (Calls Tryd.prog 5 #[.slice a n c] w fun e w' => (∃ t : Int, e = .returned (.int .i64 t)) ∧ Below w.heap.size w w') := stamp_any a n c w h1 hn
  have S2 : Hid (∀ X, Below w.heap.size w X → Calls Tryd.prog 5 #[.slice b n2 c2] X fun e w' => (∃ t : Int, e = .returned (.int .i64 t)) ∧ Below X.heap.size X w') := fun X hb => stamp_any b n2 c2 X (h2.on hb) hn2
  have HT : Hid (∀ X, Below w.heap.size w X → Tb X) := fun X hb => hT.keep _ _ hb
  clear h1 h2 hT
  go_enter Tryd.func3, Tryd.ntmps3
  go_wp2_with fail
  refine B1.out.mono ?_
  rintro e x ⟨rfl, hx⟩
  subst x
  go_wp2_with fail
  refine B2.out.mono ?_
  rintro e x ⟨rfl, hx⟩
  subst x
  go_wp2_with fail
  refine S1.out.mono ?_
  rintro e w1 ⟨⟨t, rfl⟩, hb1⟩
  have D1 : Hid (Below w.heap.size w w1) := hb1
  clear B1 B2 S1 hb1
  go_wp2_with fail
  refine (S2.out _ D1.out).mono ?_
  rintro e w2 ⟨⟨u, rfl⟩, hb2⟩
  have D2 : Hid (Below w.heap.size w w2) := D1.out.trans (hb2.mono D1.out.size)
  clear S2 D1 hb2
  by_cases ht : 0 ≤ t ∧ t ≤ 52596000
  case neg =>
    have C1 : Hid (∀ X, Calls Tryd.prog 6 #[.int .i64 t] X fun e w' => e = .returned (.tuple #[zv, .bool false]) ∧ Below X.heap.size X w') := fun X => date_no t X (by omega)
    have C2 : Hid (∀ X, Calls Tryd.prog 7 #[.int .i64 t] X fun e w' => e = .returned (.tuple #[zv, .bool false]) ∧ Below X.heap.size X w') := fun X => idate_no t X (by omega)
    have C3 : Hid (∀ X, Calls Tryd.prog 8 #[.int .i64 t] X fun e w' => e = .returned (.string ⟨#[]⟩) ∧ Below X.heap.size X w') := fun X => istamp_no t X (by omega)
    clear ht
    go_wp2_with fail
    refine (C1.out _).mono ?_
    rintro e w3 ⟨rfl, hb3⟩
    have D3 : Hid (Below w.heap.size w (w3.alloc (Obj.cells #[.int .i64 0, .int .i64 0, .int .i64 0, .int .i64 0, .int .i64 0] 26))) := (by have q := D2.out.trans (hb3.mono D2.out.size); exact q.alloc q.size _)
    clear hb3 D2
    go_wp2_with fail
    generalize w3.alloc (Obj.cells #[.int .i64 0, .int .i64 0, .int .i64 0, .int .i64 0, .int .i64 0] 26) = w4 at D3 ⊢
    refine (C2.out _).mono ?_
    rintro e w5 ⟨rfl, hb5⟩
    have D5 : Hid (Below w.heap.size w (w5.alloc (Obj.cells #[.int .i64 0, .int .i64 0, .int .i64 0, .int .i64 0, .int .i64 0] 26))) := (by have q := D3.out.trans (hb5.mono D3.out.size); exact q.alloc q.size _)
    clear hb5 D3
    go_wp2_with fail
    generalize w5.alloc (Obj.cells #[.int .i64 0, .int .i64 0, .int .i64 0, .int .i64 0, .int .i64 0] 26) = w6 at D5 ⊢
    refine (C3.out _).mono ?_
    rintro e w7 ⟨rfl, hb7⟩
    have D7 : Hid (Below w.heap.size w w7) := D5.out.trans (hb7.mono D5.out.size)
    clear hb7 D5
    go_wp2_with fail
    go_ret
    exact ⟨rfl, D7.out⟩
  obtain ⟨Y, M, D, h, m, K⟩ := times t ht.1 ht.2
  have C1 : Hid (∀ X, Calls Tryd.prog 6 #[.int .i64 t] X fun e w' => e = .returned (.tuple #[dv Y M D h m, .bool true]) ∧ Below X.heap.size X w') := K.sd
  have C2 : Hid (∀ X, Below w.heap.size w X → Calls Tryd.prog 7 #[.int .i64 t] X fun e w' => e = .returned (.tuple #[dv Y M D h m, .bool true]) ∧ Below X.heap.size X w') := fun X hb => K.idd X (HT.out X hb)
  have C3 : Hid (∀ X, Below w.heap.size w X → Calls Tryd.prog 9 #[dv Y M D h m] X fun e w' => e = .returned (.tuple #[.int .i64 t, .bool true]) ∧ Below X.heap.size X w') := fun X hb => K.too X (HT.out X hb)
  have C4 : Hid (∀ X, Below w.heap.size w X → Calls Tryd.prog 8 #[.int .i64 t] X fun e w' => e = .returned (.string ⟨(stampOf Y M D h m).toArray⟩) ∧ Below X.heap.size X w') := fun X hb => K.st X (HT.out X hb)
  have C5 : Hid (∀ X, Below w.heap.size w X → Calls Tryd.prog 10 #[.string ⟨(stampOf Y M D h m).toArray⟩] X fun e w' => e = .returned (.tuple #[.int .i64 t, .bool true]) ∧ Below X.heap.size X w') := fun X hb => K.rs X (HT.out X hb)
  have KH : Hid (Tm t Y M D h m) := K
  have HTT : Hid (0 ≤ t ∧ t ≤ 52596000) := ht
  clear K ht
  obtain ⟨s, hs⟩ : ∃ s : ByteArray, s = ⟨(stampOf Y M D h m).toArray⟩ := ⟨_, rfl⟩
  have HSS : Hid (s = ⟨(stampOf Y M D h m).toArray⟩) := hs
  rw [← hs] at C4 C5
  clear hs
  have hii : ∀ b : Int, (b != b) = false := fun b => by simp
  go_wp2_with fail
  refine (C1.out _).mono ?_
  rintro e w3 ⟨rfl, hb3⟩
  have X4 : Hid (Bx (w3.alloc (Obj.cells #[.int .i64 Y, .int .i64 M, .int .i64 D, .int .i64 h, .int .i64 m] 26)) w3.heap.size Y M D h m) := Bx.new w3 Y M D h m 26
  have D4 : Hid (Below w.heap.size w (w3.alloc (Obj.cells #[.int .i64 Y, .int .i64 M, .int .i64 D, .int .i64 h, .int .i64 m] 26))) := (by have q := D2.out.trans (hb3.mono D2.out.size); exact q.alloc q.size _)
  have Z4 : Hid (w3.heap.size < (w3.alloc (Obj.cells #[.int .i64 Y, .int .i64 M, .int .i64 D, .int .i64 h, .int .i64 m] 26)).heap.size) := (by show _ < _; simp)
  clear hb3 D2
  go_wp2_with fail
  generalize w3.heap.size = g1 at X4 Z4 ⊢
  generalize w3.alloc (Obj.cells #[.int .i64 Y, .int .i64 M, .int .i64 D, .int .i64 h, .int .i64 m] 26) = w4 at D4 X4 Z4 ⊢
  refine (C2.out _ D4.out).mono ?_
  rintro e w5 ⟨rfl, hb5⟩
  have X5 : Hid (Bx (w5.alloc (Obj.cells #[.int .i64 Y, .int .i64 M, .int .i64 D, .int .i64 h, .int .i64 m] 26)) w5.heap.size Y M D h m) := Bx.new w5 Y M D h m 26
  have b5 : Below w4.heap.size w4 (w5.alloc (Obj.cells #[.int .i64 Y, .int .i64 M, .int .i64 D, .int .i64 h, .int .i64 m] 26)) := hb5.alloc hb5.size _
  have X5' : Hid (Bx (w5.alloc (Obj.cells #[.int .i64 Y, .int .i64 M, .int .i64 D, .int .i64 h, .int .i64 m] 26)) g1 Y M D h m) := X4.out.on b5 Z4.out
  have D5 : Hid (Below w.heap.size w (w5.alloc (Obj.cells #[.int .i64 Y, .int .i64 M, .int .i64 D, .int .i64 h, .int .i64 m] 26))) := D4.out.trans (b5.mono D4.out.size)
  have Z5 : Hid (w5.heap.size < (w5.alloc (Obj.cells #[.int .i64 Y, .int .i64 M, .int .i64 D, .int .i64 h, .int .i64 m] 26)).heap.size ∧ g1 < (w5.alloc (Obj.cells #[.int .i64 Y, .int .i64 M, .int .i64 D, .int .i64 h, .int .i64 m] 26)).heap.size) := ⟨by simp, Nat.lt_of_lt_of_le Z4.out b5.size⟩
  have nn5 : ¬ g1 = w5.heap.size := by have := Z4.out; have := hb5.size; omega
  clear hb5 b5 D4 X4 Z4
  obtain ⟨k0, k1, k2, k3, k4⟩ := X5.out
  go_wp2_with fail
  clear k0 k1 k2 k3 k4
  generalize w5.heap.size = g2 at X5 Z5 nn5 ⊢
  generalize w5.alloc (Obj.cells #[.int .i64 Y, .int .i64 M, .int .i64 D, .int .i64 h, .int .i64 m] 26) = w6 at D5 X5 X5' Z5 ⊢
  refine (C3.out _ D5.out).mono ?_
  rintro e w7 ⟨rfl, hb7⟩
  have X7 : Hid (Bx w7 g2 Y M D h m) := X5.out.on hb7 Z5.out.1
  have X7' : Hid (Bx w7 g1 Y M D h m) := X5'.out.on hb7 Z5.out.2
  have Z7 : Hid (g2 < w7.heap.size ∧ g1 < w7.heap.size) := ⟨Nat.lt_of_lt_of_le Z5.out.1 hb7.size, Nat.lt_of_lt_of_le Z5.out.2 hb7.size⟩
  have D7 : Hid (Below w.heap.size w w7) := D5.out.trans (hb7.mono D5.out.size)
  clear hb7 D5 X5 X5' Z5
  go_wp2_with fail
  refine (C4.out _ D7.out).mono ?_
  rintro e w8 ⟨rfl, hb8⟩
  have X8 : Hid (Bx w8 g2 Y M D h m) := X7.out.on hb8 Z7.out.1
  have X8' : Hid (Bx w8 g1 Y M D h m) := X7'.out.on hb8 Z7.out.2
  have Z8 : Hid (g2 < w8.heap.size ∧ g1 < w8.heap.size) := ⟨Nat.lt_of_lt_of_le Z7.out.1 hb8.size, Nat.lt_of_lt_of_le Z7.out.2 hb8.size⟩
  have D8 : Hid (Below w.heap.size w w8) := D7.out.trans (hb8.mono D7.out.size)
  clear hb8 D7 X7 X7' Z7
  go_wp2_with fail
  refine (C5.out _ D8.out).mono ?_
  rintro e w9 ⟨rfl, hb9⟩
  have X9 : Hid (Bx w9 g2 Y M D h m) := X8.out.on hb9 Z8.out.1
  have X9' : Hid (Bx w9 g1 Y M D h m) := X8'.out.on hb9 Z8.out.2
  have Z9 : Hid (g2 < w9.heap.size ∧ g1 < w9.heap.size) := ⟨Nat.lt_of_lt_of_le Z8.out.1 hb9.size, Nat.lt_of_lt_of_le Z8.out.2 hb9.size⟩
  have D9 : Hid (Below w.heap.size w w9) := D8.out.trans (hb9.mono D8.out.size)
  clear hb9 D8 X8 X8' Z8
  have HNE : ∀ w9, (binOp .neq 26 (dv Y M D h m) (dv Y M D h m)).run Tryd.prog w9 = .ok (.bool false) w9 := neqD Y M D h m
  have gg : Tryd.prog.eqGuardType Tryd.prog.depth 26 = false := guard26
  obtain ⟨k0, k1, k2, k3, k4⟩ := X9.out
  obtain ⟨j0, j1, j2, j3, j4⟩ := X9'.out
  by_cases hu : 0 ≤ u ∧ u ≤ 52596000
  case neg =>
    have U1 : Hid (∀ X, Calls Tryd.prog 6 #[.int .i64 u] X fun e w' => e = .returned (.tuple #[zv, .bool false]) ∧ Below X.heap.size X w') := fun X => date_no u X (by omega)
    clear hu
    go_wp2_with fail
    refine (U1.out _).mono ?_
    rintro e wa ⟨rfl, hba⟩
    have DA : Hid (Below w.heap.size w (wa.alloc (Obj.cells #[.int .i64 0, .int .i64 0, .int .i64 0, .int .i64 0, .int .i64 0] 26))) := (by have q := D9.out.trans (hba.mono D9.out.size); exact q.alloc q.size _)
    clear hba D9 k0 k1 k2 k3 k4 j0 j1 j2 j3 j4
    go_wp2_with fail
    go_ret
    exact ⟨rfl, DA.out⟩
  obtain ⟨Y', M', D', h', m', K'⟩ := times u hu.1 hu.2
  have U1 : Hid (∀ X, Calls Tryd.prog 6 #[.int .i64 u] X fun e w' => e = .returned (.tuple #[dv Y' M' D' h' m', .bool true]) ∧ Below X.heap.size X w') := K'.sd
  have U4 : Hid (∀ X, Below w.heap.size w X → Calls Tryd.prog 8 #[.int .i64 u] X fun e w' => e = .returned (.string ⟨(stampOf Y' M' D' h' m').toArray⟩) ∧ Below X.heap.size X w') := fun X hb => K'.st X (HT.out X hb)
  have LS : Op.bytesLess s.toList (⟨(stampOf Y' M' D' h' m').toArray⟩ : ByteArray).toList = decide (t < u) := by
    rw [HSS.out, ByteArray.toList_eq, ByteArray.toList_eq]
    show Op.bytesLess (stampOf Y M D h m) (stampOf Y' M' D' h' m') = _
    rw [tm_less KH.out.dt K'.dt, KH.out.eq, K'.eq]
  have HU : Hid (0 ≤ u ∧ u ≤ 52596000) := hu
  generalize (⟨(stampOf Y' M' D' h' m').toArray⟩ : ByteArray) = s' at U4 LS
  clear hu
  go_wp2_with fail
  refine (U1.out _).mono ?_
  rintro e wa ⟨rfl, hba⟩
  have DA : Hid (Below w.heap.size w (wa.alloc (Obj.cells #[.int .i64 Y', .int .i64 M', .int .i64 D', .int .i64 h', .int .i64 m'] 26))) := (by have q := D9.out.trans (hba.mono D9.out.size); exact q.alloc q.size _)
  have qa : Below w9.heap.size w9 (wa.alloc (Obj.cells #[.int .i64 Y', .int .i64 M', .int .i64 D', .int .i64 h', .int .i64 m'] 26)) := hba.alloc hba.size _
  have XA : Hid (Bx (wa.alloc (Obj.cells #[.int .i64 Y', .int .i64 M', .int .i64 D', .int .i64 h', .int .i64 m'] 26)) g1 Y M D h m) := X9'.out.on qa Z9.out.2
  have ZA : Hid (g1 < (wa.alloc (Obj.cells #[.int .i64 Y', .int .i64 M', .int .i64 D', .int .i64 h', .int .i64 m'] 26)).heap.size) := Nat.lt_of_lt_of_le Z9.out.2 qa.size
  clear hba qa D9 k0 k1 k2 k3 k4 j0 j1 j2 j3 j4 X9 X9' Z9 HNE gg
  go_wp2_with fail
  generalize wa.alloc (Obj.cells #[.int .i64 Y', .int .i64 M', .int .i64 D', .int .i64 h', .int .i64 m'] 26) = wb at DA XA ZA ⊢
  refine (C4.out _ DA.out).mono ?_
  rintro e wc ⟨rfl, hbc⟩
  have XC : Hid (Bx wc g1 Y M D h m) := XA.out.on hbc ZA.out
  have ZC : Hid (g1 < wc.heap.size) := Nat.lt_of_lt_of_le ZA.out hbc.size
  have DC : Hid (Below w.heap.size w wc) := DA.out.trans (hbc.mono DA.out.size)
  clear hbc DA XA ZA
  go_wp2_with fail
  refine (U4.out _ DC.out).mono ?_
  rintro e wd ⟨rfl, hbd⟩
  have XD : Hid (Bx wd g1 Y M D h m) := XC.out.on hbd ZC.out
  have DD : Hid (Below w.heap.size w wd) := DC.out.trans (hbd.mono DC.out.size)
  clear hbd DC XC ZC
  have bq : ∀ q : Bool, (q != q) = false := fun q => by cases q <;> rfl
  have ht := HTT.out
  have hu := HU.out
  obtain ⟨um, hum⟩ : ∃ um, um = u % 37441 := ⟨_, rfl⟩
  have m1 : u.tmod 37441 = um := by rw [Int.tmod_eq_emod_of_nonneg hu.1, hum]
  have m2 : IntKind.i64.wrap um = um := IntWalk.i64_in _ (by omega)
  have m3 : IntKind.i64.wrap (t - 18720) = t - 18720 := IntWalk.i64_in _ (by omega)
  obtain ⟨q, hq⟩ : ∃ q, q = t - 18720 + um := ⟨_, rfl⟩
  have m4 : IntKind.i64.wrap (t - 18720 + um) = q := (IntWalk.i64_in _ (by omega)).trans hq.symm
  have bum : 0 ≤ um ∧ um ≤ 37440 := by omega
  have HQ : Hid (q = t - 18720 + um) := hq
  obtain ⟨rf, mx⟩ : ∃ rf, max 0 q = rf := ⟨_, rfl⟩
  have HR : Hid (0 ≤ rf ∧ -18720 ≤ rf - t ∧ rf - t ≤ 18720) := (by show _ ∧ _ ∧ _; rw [← mx]; omega)
  have HE : Hid ((D : Int) ≤ 31 ∧ Fine D h m) := (by
    have := KH.out.dt
    have d1 := dim_bd Y M
    have d2 := this.d
    have d3 := this.h
    have d4 := this.mi
    exact ⟨by omega, ⟨⟨by omega, by omega⟩, ⟨by omega, by omega⟩, ⟨by omega, by omega⟩, fun e => by omega⟩⟩)
  have NR : Hid (rf ≤ 52596000 → ∀ X, Below w.heap.size w X → Calls Tryd.prog 12 #[.int .i64 D, .int .i64 h, .int .i64 m, .int .i64 rf] X fun e w' => e = .returned (.tuple #[.int .i64 t, .bool true]) ∧ Below X.heap.size X w') := fun hr X hb => (by
    have r := HR.out
    refine (inear_yes D h m rf X (HT.out X hb).1 r.1 hr HE.out.2).mono ?_
    rintro e w' ⟨Yr, Mr, r', b', rfl, c1, c2, c3, c4, c5, c6, c7, ci, hb'⟩
    have e1 := near_self KH.out.dt KH.out.la (by rw [KH.out.eq]; exact ht.1) (by rw [KH.out.eq]; exact ht.2) r.1 hr (by rw [KH.out.eq]; exact r.2.1) (by rw [KH.out.eq]; exact r.2.2) c1 c2 c3 c4 c5 c6 c7 ci
    rw [KH.out.eq] at e1
    refine ⟨?_, hb'⟩
    rw [e1]
    exact res_yes (by omega))
  have AB : Hid (∀ X, Calls Tryd.prog 11 #[.int .i64 (rf - t)] X fun e w' => (∃ ab, e = .returned (.int .i64 ab) ∧ ¬ 18720 < ab) ∧ w' = X) := fun X => (abs_any (rf - t) X (by have := HR.out; omega) (by have := HR.out; omega)).mono (by
    rintro e w' ⟨rfl, hw⟩
    refine ⟨⟨_, rfl, ?_⟩, hw⟩
    have := HR.out
    split <;> omega)
  have m5 : IntKind.i64.wrap (rf - t) = rf - t := IntWalk.i64_in _ (by have := HR.out; omega)
  clear hq hum ht hu
  by_cases hbig : 52596000 < rf
  · go_wp2_with fail
    go_ret
    exact ⟨rfl, DD.out⟩
  · go_wp2_with fail
    refine (AB.out _).mono ?_
    rintro e x ⟨⟨ab, rfl, hab⟩, hx⟩
    subst x
    obtain ⟨k0, k1, k2, k3, k4⟩ := XD.out
    go_wp2_with fail
    refine (NR.out (by omega) _ DD.out).mono ?_
    rintro e we ⟨rfl, hbe⟩
    have DE : Hid (Below w.heap.size w we) := DD.out.trans (hbe.mono DD.out.size)
    clear hbe DD k0 k1 k2 k3 k4
    go_wp2_with fail
    go_ret
    exact ⟨rfl, DE.out⟩
theorem timesAll (a b : Option Addr) (n c n2 c2 : Nat) (w : World) (hT : Tb w) (hn : n < 9223372036854775808) (hn2 : n2 < 9223372036854775808) (h1 : Rd.Code w a n c) (h2 : Rd.Code w b n2 c2) :
    Calls Tryd.prog 3 #[.slice a n c, .slice b n2 c2] w fun e w' => e = .returned (.bool true) ∧ Below w.heap.size w w' := by
  by_cases h : 1048576 < n ∨ 1048576 < n2
  · exact law_big a b n c n2 c2 w hn hn2 h
  · exact timesLaw a b n c n2 c2 w hT (by omega) (by omega) h1 h2
end Go.Proofs.YtjnkeeedoffdkaaDoor.Tp
