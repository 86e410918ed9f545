/- A heap of brinks: a brink comes in, the least goes out. -/
import Derived.Test.YtagkbglgdmajhaaHi
namespace Go.Proofs.Ytagkbglgdmajhaa.Hm
open Go.ChangeShapes Go.WideShapes Go.ChangeAt Go.RowKit
open Go.Proofs.Ytagkbglgdmajhaa.Lists Go.Proofs.Ytagkbglgdmajhaa.Hp

/-- what is neither the heap's box nor its row is as it was; the row is the old one or new -/
structure K6 (f : Nat) (v : Value) (w w' : World) (v' : Value) : Prop where
  kb : KB (fun b => b = f ∨ v.ownBlock = some b) w w'
  ob : v'.ownBlock = v.ownBlock ∨ ∀ b, v'.ownBlock = some b → w.heap.size ≤ b
theorem K6.refl (f : Nat) (v : Value) (w : World) : K6 f v w w v := ⟨KB.refl _ _, .inl rfl⟩
theorem K6.trans {f : Nat} {v v1 v2 : Value} {w w1 w2 : World} (h : K6 f v w w1 v1) (k : K6 f v1 w1 w2 v2) : K6 f v w w2 v2 := by
  refine ⟨⟨k.kb.os.trans h.kb.os, k.kb.tape.trans h.kb.tape, k.kb.output.trans h.kb.output, Nat.le_trans h.kb.size k.kb.size, fun b hb hn => ?_⟩, ?_⟩
  · refine (k.kb.block b (Nat.lt_of_lt_of_le hb h.kb.size) (fun x => hn ?_)).trans (h.kb.block b hb hn)
    rcases x with x | x
    · exact .inl x
    · rcases h.ob with e | e
      · exact .inr (by rw [← e]; exact x)
      · have := e b x; omega
  · rcases k.ob with e | e
    · rw [e]; exact h.ob
    · exact .inr (fun b hb => Nat.le_trans h.kb.size (e b hb))
theorem K6.same {f : Nat} {v : Value} {w w' : World} (k : KB (fun b => v.ownBlock = some b) w w') : K6 f v w w' v := ⟨k.mono (fun _ x => .inr x), .inl rfl⟩
theorem K6.on {f : Nat} {v v1 : Value} {w w1 w2 : World} (h : K6 f v w w1 v1) (b : Below w1.heap.size w1 w2) : K6 f v w w2 v1 := h.trans ⟨KB.of_below b, .inl rfl⟩
/-- a heap -/
structure HP (B f : Nat) (w : World) (v : Value) (P : List Int) : Prop where
  hr : HR B f w v P
  hp : Heap P P.length
theorem HP.on {B f : Nat} {w w' : World} {v : Value} {P : List Int} (h : HP B f w v P) (b : Below w.heap.size w w') : HP B f w' v P := ⟨h.hr.on b, h.hp⟩
def PPost (B f : Nat) (v0 : Value) (w : World) (L : List Int) (e : Ending) (w' : World) : Prop := ∃ (v : Value) (P : List Int), e = .returned (.tuple #[]) ∧ HP B f w' v P ∧ P.Perm L ∧ K6 f v0 w w' v
set_option maxRecDepth 20000 in
set_option maxHeartbeats 2000000 in
theorem hpush_any (B f : Nat) (w : World) (v : Value) (P : List Int) (K : Int) (hl : P.length ≤ 4000) (hB : B ≤ w.heap.size) (h : HP B f w v P) :
    Calls Try.prog 25 #[iv f, .iface 52 (.agg #[.int .i64 (K / 1000), .int .i64 (K % 1000)])] w fun e w' => PPost B f v w (P ++ [K]) e w' := by
  have H : Hid (HP B f w v P) := h
  have PM : Hid (Calls Try.prog 62 #[.pointer (some ⟨f, 0, none⟩), .iface 52 (.agg #[.int .i64 (K / 1000), .int .i64 (K % 1000)])] w fun e w' => e = .returned (.tuple #[]) ∧ ∃ v', HR B f w' v' (P ++ [K]) ∧ KB (fun b => b = f ∨ v.ownBlock = some b) w w' ∧ (v'.ownBlock = v.ownBlock ∨ ∀ b, v'.ownBlock = some b → w.heap.size ≤ b)) := pushm_any B f w v P K hl hB h.hr
  have mp := mPush w f
  have hn : (P ++ [K]).length = P.length + 1 := by simp
  have NX : Hid (∀ w1 v1, HR B f w1 v1 (P ++ [K]) → ∃ a c, v1 = .slice a (P.length + 1) c ∧ (∀ w2, Below w1.heap.size w1 w2 → (method 203 45 (.pointer (some ⟨f, 0, none⟩)) "Len").run Try.prog w2 = .ok (59, v1) w2) ∧ Calls Try.prog 34 #[iv f, .int .i64 (P.length : Int)] w1 fun e w' => e = .returned (.tuple #[]) ∧ ∃ Q, HS B f v1 (P.length + 1) (P ++ [K]) w1 w' Q ∧ Heap Q (P.length + 1)) := by
    intro w1 v1 h1
    obtain ⟨a, c, e⟩ := h1.form
    rw [hn] at e
    refine ⟨a, c, e, fun w2 hb => mLen w2 f v1 (h1.on hb).cel, ?_⟩
    exact up_any B f w1 v1 (P ++ [K]) (P.length + 1) P.length (by omega) (by omega) ⟨List.Perm.refl _, hn, h1, KB.refl _ _⟩ (UpI.start H.out.hp rfl K)
  have n1 : ((P.length : Int) + 1) - 1 = (P.length : Int) := by omega
  have FIN : Hid (∀ (w1 : World) (v1 : Value) (w2 : World) (Q : List Int), HR B f w1 v1 (P ++ [K]) → K6 f v w w1 v1 → HS B f v1 (P.length + 1) (P ++ [K]) w1 w2 Q → Heap Q (P.length + 1) → PPost B f v w (P ++ [K]) (.returned (.tuple #[])) w2) := fun w1 v1 w2 Q h1 h2 h3 h4 => ⟨v1, Q, rfl, ⟨h3.hr, by rw [h3.len]; exact h4⟩, h3.perm, h2.trans (K6.same h3.kb)⟩
  generalize K / 1000 = ka at *
  generalize K % 1000 = kb at *
  obtain ⟨n, hnn⟩ : ∃ n, n = P.length := ⟨_, rfl⟩
  rw [← hnn] at NX FIN n1 hl
  clear h hn hnn
  go_enter Try.func25, Try.ntmps25
  go_wp2_with fail
  refine PM.out.mono ?_
  rintro e w1 ⟨rfl, v1, h1, h2a, h2b⟩
  have h2 : K6 f v w w1 v1 := ⟨h2a, h2b⟩
  obtain ⟨a, c, rfl, ml, UU⟩ := NX.out w1 v1 h1
  have ML := ml w1 (Below.refl _ _)
  have CU : Hid (Calls Try.prog 34 #[iv f, .int .i64 (n : Int)] w1 fun e w' => e = .returned (.tuple #[]) ∧ ∃ Q, HS B f (.slice a (n + 1) c) (n + 1) (P ++ [K]) w1 w' Q ∧ Heap Q (n + 1)) := UU
  have H1 : Hid (HR B f w1 (.slice a (n + 1) c) (P ++ [K]) ∧ K6 f v w w1 (.slice a (n + 1) c)) := ⟨h1, h2⟩
  have LN := len_any a (n + 1) c w1
  clear h1 h2 h2a h2b ml UU PM NX mp
  go_wp2_with fail
  refine LN.mono ?_
  rintro e w2 ⟨rfl, hw⟩
  subst hw
  go_wp2_with fail
  refine CU.out.mono ?_
  rintro e w3 ⟨rfl, Q, q1, q2⟩
  have F := FIN.out _ _ _ _ H1.out.1 H1.out.2 q1 q2
  have FF : Hid (PPost B f v w (P ++ [K]) (.returned (.tuple #[])) w3) := F
  clear F q1 q2 H1 CU FIN LN ML
  go_wp2_with fail
  go_end0
  exact FF.out
def QPost (B f : Nat) (v0 : Value) (w : World) (L : List Int) (e : Ending) (w' : World) : Prop := ∃ (v : Value) (P : List Int), e = .returned (.iface 52 (.agg #[.int .i64 (L.getD 0 0 / 1000), .int .i64 (L.getD 0 0 % 1000)])) ∧ HP B f w' v P ∧ L.Perm (L.getD 0 0 :: P) ∧ K6 f v0 w w' v
theorem pop_plain {B f n : Nat} {v : Value} {L Q : List Int} {w w' : World} (hl : L.length = n + 1) (hs : HS B f v (n + 1) (swp L 0 n) w w' Q) (hh : Heap Q n) (hq : Q.getD n 0 = (swp L 0 n).getD n 0) : Q.getD n 0 = L.getD 0 0 ∧ Heap (Q.take n) (Q.take n).length ∧ L.Perm (L.getD 0 0 :: Q.take n) := by
  have g := swp_get (L := L) (i := 0) (j := n) (by omega) (by omega) n
  rw [if_pos rfl] at g
  have e : Q.getD n 0 = L.getD 0 0 := hq.trans g
  have lt : (Q.take n).length = n := by rw [List.length_take, hs.len]; omega
  refine ⟨e, by rw [lt]; exact hh.cut n rfl, ?_⟩
  have p1 : Q.Perm L := hs.perm.trans (swp_perm (by omega) (by omega))
  have p2 : Q = Q.take n ++ [Q.getD n 0] := take_last hs.len
  rw [e] at p2
  refine p1.symm.trans ?_
  have p3 := List.perm_append_singleton (L.getD 0 0) (Q.take n)
  rw [← p2] at p3
  exact p3
set_option maxRecDepth 20000 in
set_option maxHeartbeats 2000000 in
theorem hpop_any (B f : Nat) (w : World) (v : Value) (P : List Int) (n : Nat) (hn : P.length = n + 1) (hl : n ≤ 4000) (h : HP B f w v P) :
    Calls Try.prog 35 #[iv f] w fun e w' => QPost B f v w P e w' := by
  have H : Hid (HP B f w v P) := h
  obtain ⟨a, c, hv⟩ := h.hr.form
  have HD : Hid (∀ w1, HR B f w1 v (swp P 0 n) → Calls Try.prog 39 #[iv f, .int .i64 0, .int .i64 n] w1 fun e w' => DPost B f v (n + 1) (swp P 0 n) w1 n e w') := fun w1 h1 =>
    down_any B f w1 v (swp P 0 n) n (n + 1) hl (by omega) ⟨List.Perm.refl _, by rw [swp_len]; exact hn, h1, KB.refl _ _⟩ (DnI.start (by have := H.out.hp; rw [hn] at this; exact this) (by omega))
  have SW : Hid (∀ w1, HR B f w1 v P → (method 203 45 (.pointer (some ⟨f, 0, none⟩)) "Swap").run Try.prog w1 = .ok (63, v) w1 ∧ Calls Try.prog 63 #[v, .int .i64 0, .int .i64 n] w1 fun e w' => e = .returned (.tuple #[]) ∧ HR B f w' v (swp P 0 n) ∧ KB (fun b => v.ownBlock = some b) w1 w') := fun w1 h1 => ⟨mSwap w1 f v h1.cel, swap_any B f w1 v P 0 n (by omega) (by omega) h1⟩
  have PO : Hid (∀ w1 Q, Q.length = n + 1 → HR B f w1 v Q → Calls Try.prog 61 #[.pointer (some ⟨f, 0, none⟩)] w1 fun e w' => e = .returned (.iface 52 (.agg #[.int .i64 (Q.getD n 0 / 1000), .int .i64 (Q.getD n 0 % 1000)])) ∧ ∃ v', HR B f w' v' (Q.take n) ∧ KB (fun b => b = f) w1 w' ∧ v'.ownBlock = v.ownBlock) := fun w1 Q h1 h2 => popm_any B f w1 v Q n h1 hl h2
  have mp := fun w => mPop w f
  have ml := mLen w f v h.hr.cel
  have n1 : ((n : Int) + 1) - 1 = (n : Int) := by omega
  have FIN : Hid (∀ (w1 w2 : World) (Q : List Int) (v3 : Value) (w3 : World), KB (fun b => v.ownBlock = some b) w w1 → HR B f w1 v (swp P 0 n) → HS B f v (n + 1) (swp P 0 n) w1 w2 Q → Heap Q n → Q.getD n 0 = (swp P 0 n).getD n 0 → HR B f w3 v3 (Q.take n) → KB (fun b => b = f) w2 w3 → v3.ownBlock = v.ownBlock → QPost B f v w P (.returned (.iface 52 (.agg #[.int .i64 (Q.getD n 0 / 1000), .int .i64 (Q.getD n 0 % 1000)]))) w3) := by
    intro w1 w2 Q v3 w3 h1 _ h2 h3 h4 h5 h6 h7
    obtain ⟨e1, e2, e3⟩ := pop_plain hn h2 h3 h4
    rw [e1]
    exact ⟨v3, Q.take n, rfl, ⟨h5, e2⟩, e3, ((K6.same h1).trans (K6.same h2.kb)).trans ⟨h6.mono (fun _ x => .inl x), .inl h7⟩⟩
  rw [hn] at hv
  subst hv
  have LN : Hid (Calls Try.prog 59 #[.slice a (n + 1) c] w fun e w' => e = .returned (.int .i64 ((n : Int) + 1)) ∧ w' = w) := len_any a (n + 1) c w
  clear h hn
  go_enter Try.func35, Try.ntmps35
  go_wp2_with fail
  refine LN.out.mono ?_
  rintro e w1 ⟨rfl, hw⟩
  have hw' := hw.symm
  subst hw'
  clear hw ml LN
  obtain ⟨ms, cs⟩ := SW.out w H.out.hr
  have CS : Hid (Calls Try.prog 63 #[.slice a (n + 1) c, .int .i64 0, .int .i64 n] w fun e w' => e = .returned (.tuple #[]) ∧ HR B f w' (.slice a (n + 1) c) (swp P 0 n) ∧ KB (fun b => (Value.slice a (n + 1) c).ownBlock = some b) w w') := cs
  clear cs SW
  go_wp2_with fail
  refine CS.out.mono ?_
  rintro e w2 ⟨rfl, h1, h2⟩
  have HA : Hid (KB (fun b => (Value.slice a (n + 1) c).ownBlock = some b) w w2 ∧ HR B f w2 (.slice a (n + 1) c) (swp P 0 n)) := ⟨h2, h1⟩
  have CD : Hid (Calls Try.prog 39 #[iv f, .int .i64 0, .int .i64 n] w2 fun e w' => DPost B f (.slice a (n + 1) c) (n + 1) (swp P 0 n) w2 n e w') := HD.out w2 h1
  clear h1 h2 CS HD ms
  go_wp2_with fail
  refine CD.out.mono ?_
  rintro e w3 ⟨qb, Q, rfl, h1, h2, h3⟩
  have HB : Hid (HS B f (.slice a (n + 1) c) (n + 1) (swp P 0 n) w2 w3 Q ∧ Heap Q n ∧ Q.getD n 0 = (swp P 0 n).getD n 0) := ⟨h1, h2, h3⟩
  have CP := PO.out w3 Q h1.len h1.hr
  have CQ : Hid (Calls Try.prog 61 #[.pointer (some ⟨f, 0, none⟩)] w3 fun e w' => QPost B f (.slice a (n + 1) c) w P e w') := CP.mono (by
    rintro e w4 ⟨rfl, v4, x1, x2, x3⟩
    exact FIN.out w2 w3 Q v4 w4 HA.out.1 HA.out.2 HB.out.1 HB.out.2.1 HB.out.2.2 x1 x2 x3)
  have mp3 := mp w3
  clear h1 h2 h3 CD CP PO FIN HA HB mp
  go_wp2_with fail
  refine CQ.out.mono ?_
  rintro e w4 hq
  obtain ⟨v5, P5, rfl, x1, x2, x3⟩ := hq
  have QQ : Hid (QPost B f (.slice a (n + 1) c) w P (.returned (.iface 52 (.agg #[.int .i64 (P.getD 0 0 / 1000), .int .i64 (P.getD 0 0 % 1000)]))) w4) := ⟨v5, P5, rfl, x1, x2, x3⟩
  clear x1 x2 x3 CQ mp3
  go_wp2_with fail
  go_ret
  exact QQ.out

def RPost (B f : Nat) (v0 : Value) (w : World) (L : List Int) (e : Ending) (w' : World) : Prop := ∃ (v : Value) (P : List Int), e = .returned (.agg #[.int .i64 (L.getD 0 0 / 1000), .int .i64 (L.getD 0 0 % 1000)]) ∧ HP B f w' v P ∧ L.Perm (L.getD 0 0 :: P) ∧ K6 f v0 w w' v
set_option maxRecDepth 20000 in
set_option maxHeartbeats 2000000 in
theorem lowest_any (B f : Nat) (w : World) (v : Value) (P : List Int) (n : Nat) (hn : P.length = n + 1) (hl : n ≤ 4000) (h : HP B f w v P) :
    Calls Try.prog 26 #[iv f] w fun e w' => RPost B f v w P e w' := by
  have b0 : Below w.heap.size w (w.alloc (Obj.cells #[.int .i64 0, .int .i64 0] 52)) := (Below.refl _ _).alloc (Nat.le_refl _) _
  obtain ⟨w0, hw0⟩ : ∃ w0, w0 = w.alloc (Obj.cells #[.int .i64 0, .int .i64 0] 52) := ⟨_, rfl⟩
  have HW : Hid (w0 = w.alloc (Obj.cells #[.int .i64 0, .int .i64 0] 52)) := hw0
  have C := hpop_any B f w0 v P n hn hl (by rw [hw0]; exact h.on b0)
  have CC : Hid (Calls Try.prog 35 #[iv f] w0 fun e w' => QPost B f v w0 P e w') := C
  have Z0 : Hid (Bl w0 w.heap.size 52 #[.int .i64 0, .int .i64 0]) := (by show Bl _ _ _ _; rw [hw0]; exact Bl.new w 52 _)
  have KW : Hid (K6 f v w w0 v) := (by rw [hw0]; exact ⟨KB.of_below b0, .inl rfl⟩)
  have SZ : Hid (w0.heap.size = w.heap.size + 1) := (by show _ = _; rw [hw0]; simp)
  have FL : Hid (f < w.heap.size ∧ ∀ b, v.ownBlock = some b → b < w.heap.size) := ⟨h.hr.bx.lt, fun b hb => by obtain ⟨xs, r, _⟩ := h.hr.row; exact (r.lt b hb).2⟩
  have hTA : ∀ (a b : Int) (w : World), (Instr.typeAssert (.iface 52 (.agg #[.int .i64 a, .int .i64 b])) 20 52 false).run Try.prog w = .ok (.agg #[.int .i64 a, .int .i64 b]) w := fun a b w => by kernel_rfl
  clear hw0 h C b0 hn
  go_enter Try.func26, Try.ntmps26
  go_wp2_with fail
  rw [← HW.out]
  refine CC.out.mono ?_
  rintro e w1 ⟨v1, Q, rfl, h1, h2, h3⟩
  have fb := FL.out.1
  have Z1 : Hid (Bl w1 w.heap.size 52 #[.int .i64 0, .int .i64 0]) := Z0.out.kb h3.kb (by
    rintro (x | x)
    · omega
    · have := FL.out.2 _ x; omega)
  have F2 : Hid (∀ x y : Int, RPost B f v w P (.returned (.agg #[.int .i64 (P.getD 0 0 / 1000), .int .i64 (P.getD 0 0 % 1000)])) ((w1.setCell ⟨w.heap.size, 0, none⟩ (.int .i64 x)).setCell ⟨w.heap.size, 1, none⟩ (.int .i64 y))) := by
    intro x y
    have kk : KB (fun b => b = w.heap.size) w1 ((w1.setCell ⟨w.heap.size, 0, none⟩ (.int .i64 x)).setCell ⟨w.heap.size, 1, none⟩ (.int .i64 y)) := (kb_set w1 _ 0 _).trans (kb_set _ _ 1 _)
    have ne : ∀ b, v1.ownBlock = some b → ¬ b = w.heap.size := fun b hb e => by
      have sz := SZ.out
      rcases h3.ob with o | o
      · rw [o] at hb; have := FL.out.2 b hb; omega
      · have := o b hb; omega
    refine ⟨v1, Q, rfl, ⟨h1.hr.kb kk (by omega) ne, h1.hp⟩, h2, ?_⟩
    have k1 := KW.out.trans h3
    refine ⟨⟨kk.os.trans k1.kb.os, kk.tape.trans k1.kb.tape, kk.output.trans k1.kb.output, Nat.le_trans k1.kb.size kk.size, fun b hb hn => ?_⟩, k1.ob⟩
    exact (kk.block b (Nat.lt_of_lt_of_le hb k1.kb.size) (by omega)).trans (k1.kb.block b hb hn)
  have z0 : w1.cell? ⟨w.heap.size, 0, none⟩ = some (.int .i64 0) := Z1.out.cell 0
  have z1 : w1.cell? ⟨w.heap.size, 1, none⟩ = some (.int .i64 0) := Z1.out.cell 1
  have y0 := Z1.out.fz 0
  have y1 := Z1.out.fz 1
  generalize P.getD 0 0 / 1000 = a at *
  generalize P.getD 0 0 % 1000 = b at *
  have hTB := hTA a b
  clear h1 h2 h3 CC Z0 KW HW fb hTA
  go_wp2_with fail
  exact bodyPost_ret (v := .agg #[.int .i64 a, .int .i64 b]) (by simp [results, Try.results26, go_sem, z0, z1]) rfl (F2.out a b)
end Go.Proofs.Ytagkbglgdmajhaa.Hm
