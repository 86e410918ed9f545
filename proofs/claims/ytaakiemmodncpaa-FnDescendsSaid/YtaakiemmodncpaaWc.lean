/- A problem and a point drawn of a code: what is kept. -/
import Derived.Test.YtaakiemmodncpaaWb
import Derived.Deep.CutBlock
namespace Go.Proofs.Ytaakiemmodncpaa.Wa
open Go.ChangeShapes Go.WideShapes Go.ChangeAt Go.RowKit
open Go.Proofs.Ytaakiemmodncpaa.Lists Go.Proofs.Ytaakiemmodncpaa.Mk Go.Proofs.Ytaakiemmodncpaa.Rd Go.Proofs.Ytaakiemmodncpaa.Cf

theorem bl_ne {w : World} {b B n k g : Nat} {e e' : TypeId} {cs : Array Value} {v : Value} {xs : List Value} (h : Bl w b e' cs) (hr : w.ownsRow B e k v n xs) (he : e ≠ e') (hv : v.ownBlock = some g) : g ≠ b := by
  intro q
  subst q
  rcases hr.2 with ⟨a, _⟩ | ⟨g1, c1, cur1, y1, _, z1, _⟩
  · rw [a] at hv; cases hv
  · rw [y1] at hv
    simp [Value.ownBlock] at hv
    unfold Bl at h
    rw [hv, h] at z1
    simp at z1
    exact he z1.2.symm
theorem ai_ne {w : World} {b B n g : Nat} {e' : TypeId} {cs : Array Value} {v : Value} (h : Bl w b e' cs) (hr : AI w B v n) (he : 2 ≠ e') (hv : v.ownBlock = some g) : g ≠ b := by
  obtain ⟨L, _, hr⟩ := hr
  exact bl_ne h hr he hv
/-- a problem with a point that is being drawn -/
structure QB (r : Nat) (w : World) (qb : Nat) (n : Int) (g t rv x : Value) (ng nt nr nx : Nat) (us : Nat → Value) (ls : Nat → Nat) (wr : World) : Prop where
  rd : Rd r wr
  tu : Turn r w wr
  lo : w.heap.size < qb
  rb : Bl wr w.heap.size 32 #[.int .i64 0, nilL, nilL, nilL]
  bx : Bl wr qb 32 #[.int .i64 n, g, t, rv]
  ag : AI wr (w.heap.size + 1) g ng
  at' : AI wr (w.heap.size + 1) t nt
  rm : RI wr (w.heap.size + 1) rv nr us ls
  ax : AI wr (qb + 1) x nx
  ig : ∀ b, g.ownBlock = some b → b < qb
  it : ∀ b, t.ownBlock = some b → b < qb
  iu : ∀ i, i < nr → ∀ b, (us i).ownBlock = some b → b < qb
section
variable {r : Nat} {w : World} {qb : Nat} {n : Int} {g t rv x : Value} {ng nt nr nx : Nat} {us : Nat → Value} {ls : Nat → Nat} {wr : World}
theorem QB.turn {w' : World} (h : QB r w qb n g t rv x ng nt nr nx us ls wr) (hr : r < w.heap.size) (k : Rd r w') (q : Turn r wr w') : QB r w qb n g t rv x ng nt nr nx us ls w' :=
  have lo := h.lo
  ⟨k, h.tu.trans q, h.lo, h.rb.kv (turn_kv q) (by omega), h.bx.kv (turn_kv q) (by omega), h.ag.kv (turn_kv q) (fun b hb x => by have := (h.ag.lt b hb).1; omega), h.at'.kv (turn_kv q) (fun b hb x => by have := (h.at'.lt b hb).1; omega), h.rm.kv (turn_kv q) (fun b hb => by omega), h.ax.kv (turn_kv q) (fun b hb x => by have := (h.ax.lt b hb).1; omega), h.ig, h.it, h.iu⟩
theorem QB.up {w' : World} (h : QB r w qb n g t rv x ng nt nr nx us ls wr) (hr : r < w.heap.size) (hb : Below wr.heap.size wr w') : QB r w qb n g t rv x ng nt nr nx us ls w' :=
  h.turn hr (h.rd.kept hb h.rd.lt) (Turn.of hb (Nat.le_refl _) (Nat.le_of_lt h.rd.lt))
theorem QB.drew (h : QB r w qb n g t rv x ng nt nr nx us ls wr) (hr : r < w.heap.size) : QB r w qb n g t rv x ng nt nr nx us ls wr.drew := h.turn hr (h.rd.drewN 1) ((Turn.refl r wr).drewN 1)
theorem QB.alloc (h : QB r w qb n g t rv x ng nt nr nx us ls wr) (hr : r < w.heap.size) (o : Obj) : QB r w qb n g t rv x ng nt nr nx us ls (wr.alloc o) := h.up hr ((Below.refl _ _).alloc (Nat.le_refl _) _)
/-- a whole number written into one of its rows -/
theorem QB.int {B2 m b : Nat} {v : Value} (h : QB r w qb n g t rv x ng nt nr nx us ls wr) (hr : r < w.heap.size) (ha : AI wr B2 v m) (hB : w.heap.size + 1 ≤ B2) (hv : v.ownBlock = some b) (o : Nat) (z : Int) : QB r w qb n g t rv x ng nt nr nx us ls (wr.setCell ⟨b, o, none⟩ (.int .i64 z)) := by
  have lo := h.lo
  have lb := (ha.lt b hv).1
  have nb := ai_ne h.bx ha (by decide) hv
  have ks : KV (fun k => k = b) wr (wr.setCell ⟨b, o, none⟩ (.int .i64 z)) := kv_set _ _ _ _
  exact ⟨rd_kv h.rd ks (fun k hk => by omega), kv_turn hr h.tu ks (fun k hk => by omega), h.lo, h.rb.kv ks (by omega), h.bx.kv ks (fun q => nb q.symm), h.ag.put b o z, h.at'.put b o z, h.rm.int ha b o z hv, h.ax.put b o z, h.ig, h.it, h.iu⟩
theorem QB.setN (h : QB r w qb n g t rv x ng nt nr nx us ls wr) (hr : r < w.heap.size) (z : Int) : QB r w qb z g t rv x ng nt nr nx us ls (wr.setCell ⟨qb, 0, none⟩ (.int .i64 z)) := by
  have lo := h.lo
  have ks : KV (fun k => k = qb) wr (wr.setCell ⟨qb, 0, none⟩ (.int .i64 z)) := kv_set _ _ _ _
  have nr' : ∀ b, rv.ownBlock = some b → b ≠ qb := fun b hb => by
    obtain ⟨⟨xs, h1, _⟩, _⟩ := h.rm
    exact bl_ne h.bx h1 (by decide) hb
  refine ⟨rd_kv h.rd ks (fun k hk => by omega), kv_turn hr h.tu ks (fun k hk => by omega), h.lo, h.rb.kv ks (by omega), h.bx.set 0 _, h.ag.put _ _ z, h.at'.put _ _ z, ?_, h.ax.put _ _ z, h.ig, h.it, h.iu⟩
  obtain ⟨⟨xs, h1, h2⟩, h3⟩ := h.rm
  exact ⟨⟨xs, row_off h1 qb 0 _ (fun e => nr' qb e rfl), h2⟩, fun i hi => (h3 i hi).put _ _ z⟩
theorem QB.setW {b c : Nat} (h : QB r w qb n g t (.slice (some ⟨b, 0, none⟩) nr c) x ng nt nr nx us ls wr) (hr : r < w.heap.size) (z : Int) : QB r w qb n g t (.slice (some ⟨b, 0, none⟩) nr c) x ng nt nr nx us ls (wr.setCell ⟨b, 2, none⟩ (.int .i64 z)) := by
  have lo := h.lo
  obtain ⟨⟨xs, h1, h2⟩, h3⟩ := h.rm
  have lb := (h1.lt b rfl).1
  have nb := bl_ne h.bx h1 (by decide) rfl
  have ks : KV (fun k => k = b) wr (wr.setCell ⟨b, 2, none⟩ (.int .i64 z)) := kv_set _ _ _ _
  have rm' : RI (wr.setCell ⟨b, 2, none⟩ (.int .i64 z)) (w.heap.size + 1) (.slice (some ⟨b, 0, none⟩) nr c) nr us ls := by simpa using h.rm.own 0 2 (.inr rfl) z
  exact ⟨rd_kv h.rd ks (fun k hk => by omega), kv_turn hr h.tu ks (fun k hk => by omega), h.lo, h.rb.kv ks (by omega), h.bx.kv ks (fun q => nb q.symm), h.ag.put b 2 z, h.at'.put b 2 z, rm', h.ax.put b 2 z, h.ig, h.it, h.iu⟩
theorem QB.appX {x' : Value} {w5 : World} {o : Obj} {L : List Int} {z : Int} (h : QB r w qb n g t rv x ng nt nr nx us ls wr) (hr : r < w.heap.size) (hL : L.length = nx) (hg : (wr.alloc o).grownBy w5 x.ownBlock) (hrow : w5.ownsRow (qb + 1) 2 1 x' (nx + 1) (ints L ++ [.int .i64 z])) : QB r w qb n g t rv x' ng nt nr (nx + 1) us ls w5 := by
  have lo := h.lo
  have hA := h.alloc hr o
  have kg : KV (fun b => qb + 1 ≤ b) (wr.alloc o) w5 := KV.of_grown hg (fun b hb => (hA.ax.lt b hb).1)
  have kx : KV (fun b => x.ownBlock = some b) (wr.alloc o) w5 := KV.of_grown hg (fun b hb => hb)
  obtain ⟨⟨xs, h1, h2⟩, h3⟩ := hA.rm
  obtain ⟨LX, _, hx⟩ := hA.ax
  exact ⟨rd_kv hA.rd kg (fun b hb => by omega), kv_turn hr hA.tu kg (fun b hb => by omega), h.lo, hA.rb.kv kg (by omega), hA.bx.kv kg (by omega), hA.ag.kv kg (fun b hb q => by have := h.ig b hb; omega), hA.at'.kv kg (fun b hb q => by have := h.it b hb; omega), ⟨⟨xs, row_kv h1 kx (fun b hb q => type_ne h1 hx (by decide) b hb q), h2⟩, fun i hi => (h3 i hi).kv kg (fun b hb q => by have := h.iu i hi b hb; omega)⟩, AI.snoc hL hrow, h.ig, h.it, h.iu⟩
/-- its first row once more -/
theorem QB.appR {v' : Value} {w5 : World} {o : Obj} {xs : List Value} {y z : Int} (h : QB r w qb n g t rv x ng nt nr nx us ls wr) (hr : r < w.heap.size) (h0 : 0 < nr) (h1 : wr.ownsRow (w.heap.size + 1) 51 3 rv nr xs) (h2 : ∀ i, i < nr → xs[i * 3]? = some (us i) ∧ (∃ z : Int, xs[i * 3 + 1]? = some (.int .i64 z)) ∧ ∃ z : Int, xs[i * 3 + 2]? = some (.int .i64 z))
    (hg : (wr.alloc o).grownBy w5 rv.ownBlock) (hrow : w5.ownsRow (w.heap.size + 1) 51 3 v' (nr + 1) (xs ++ [us 0, .int .i64 y, .int .i64 z])) :
    (w5.cell? ⟨qb, 3, none⟩ = some rv ∧ w5.frozen? ⟨qb, 3, none⟩ = false) ∧ QB r w qb n g t v' x ng nt (nr + 1) nx (fun i => if i = nr then us 0 else us i) (fun i => if i = nr then ls 0 else ls i) (w5.setCell ⟨qb, 3, none⟩ v') := by
  have lo := h.lo
  have bA : Below wr.heap.size wr (wr.alloc o) := (Below.refl _ _).alloc (Nat.le_refl _) _
  have hA := h.alloc hr o
  have rA := Mo.row_below h1 bA
  have kg : KV (fun b => rv.ownBlock = some b) (wr.alloc o) w5 := KV.of_grown hg (fun b hb => hb)
  have lg : ∀ b, rv.ownBlock = some b → w.heap.size + 1 ≤ b ∧ b ≠ qb := fun b hb => ⟨(rA.lt b hb).1, bl_ne hA.bx rA (by decide) hb⟩
  have b5 := hA.bx.kv kg (fun q => (lg _ q).2 rfl)
  have r5 := hA.rb.kv kg (fun q => by have := (lg _ q).1; omega)
  have ne : ∀ {v2 : Value} {m B : Nat}, AI (wr.alloc o) B v2 m → AI w5 B v2 m := fun ha => by
    obtain ⟨L, hl, hr'⟩ := ha
    exact ⟨L, hl, row_kv hr' kg (fun b hb q => type_ne rA hr' (by decide) b q hb)⟩
  have g5 := ne hA.ag
  have t5 := ne hA.at'
  have x5 := ne hA.ax
  have R5 := RI.app hA.rm rA h2 (hA.rm.2 0 h0) hg hrow
  have ks : KV (fun b => b = qb) w5 (w5.setCell ⟨qb, 3, none⟩ v') := kv_set w5 _ _ _
  have na : ∀ {v2 : Value} {m B : Nat}, AI w5 B v2 m → AI (w5.setCell ⟨qb, 3, none⟩ v') B v2 m := fun ha => ha.kv ks (fun b hb q => ai_ne b5 ha (by decide) hb q)
  refine ⟨⟨by rw [b5.cell]; rfl, b5.fz 3⟩, ⟨rd_kv (rd_kv hA.rd kg (fun b hb => by have := (lg b hb).1; omega)) ks (fun b hb => by omega), kv_turn hr (kv_turn hr hA.tu kg (fun b hb => by have := (lg b hb).1; omega)) ks (fun b hb => by omega), h.lo, r5.kv ks (by omega), b5.set 3 v', na g5, na t5, ?_, na x5, h.ig, h.it, fun i hi b hb => ?_⟩⟩
  · obtain ⟨⟨ys, k1, k2⟩, k3⟩ := R5
    exact ⟨⟨ys, row_kv k1 ks (fun b hb q => bl_ne b5 k1 (by decide) hb q), k2⟩, fun i hi => na (k3 i hi)⟩
  · by_cases e : i = nr
    · subst e; simp only [if_true] at hb; exact h.iu 0 h0 b hb
    · simp only [e, if_false] at hb; exact h.iu i (by omega) b hb
end
theorem three (z : Int) (h0 : 0 ≤ z) (h1 : z < 3) : z = 0 ∨ z = 1 ∨ z = 2 := by omega
theorem five (z : Int) (h0 : 0 ≤ z) (h1 : z < 5) : z = 0 ∨ z = 1 ∨ z = 2 ∨ z = 3 ∨ z = 4 := by omega
theorem pick3 (a b c z : Int) (h0 : 0 ≤ z) (h1 : z < 3) : ∃ q, ∀ W : World, (W.alloc (Obj.cells #[.int .i64 a, .int .i64 b, .int .i64 c] 2)).cell? ⟨W.heap.size, z.toNat, none⟩ = some (.int .i64 q) := by
  rcases three z h0 h1 with rfl | rfl | rfl
  · exact ⟨a, fun W => by simp [go_sem]⟩
  · exact ⟨b, fun W => by simp [go_sem]⟩
  · exact ⟨c, fun W => by simp [go_sem]⟩
theorem pick5 (a b c d e z : Int) (h0 : 0 ≤ z) (h1 : z < 5) : ∃ q, ∀ W : World, (W.alloc (Obj.cells #[.int .i64 a, .int .i64 b, .int .i64 c, .int .i64 d, .int .i64 e] 2)).cell? ⟨W.heap.size, z.toNat, none⟩ = some (.int .i64 q) := by
  rcases five z h0 h1 with rfl | rfl | rfl | rfl | rfl
  · exact ⟨a, fun W => by simp [go_sem]⟩
  · exact ⟨b, fun W => by simp [go_sem]⟩
  · exact ⟨c, fun W => by simp [go_sem]⟩
  · exact ⟨d, fun W => by simp [go_sem]⟩
  · exact ⟨e, fun W => by simp [go_sem]⟩
theorem ai_first {w : World} {B n g c : Nat} (h : AI w B (.slice (some ⟨g, 0, none⟩) n c) n) (h0 : 0 < n) : (∃ z : Int, w.cell? ⟨g, 0, none⟩ = some (.int .i64 z)) ∧ w.frozen? ⟨g, 0, none⟩ = false ∧ g < w.heap.size := by
  have hl := (h.lt g rfl).2
  obtain ⟨L, l, hr⟩ := h
  exact ⟨⟨_, row_get hr l 0 h0⟩, hr.frozenAt 0, hl⟩
theorem ai_some {w : World} {B n : Nat} {v : Value} (h : AI w B v n) (h0 : 0 < n) : ∃ g c, v = .slice (some ⟨g, 0, none⟩) n c ∧ n ≤ c ∧ c ≤ maxLen := by
  obtain ⟨L, l, hr⟩ := h
  rcases Mo.row_cases hr with ⟨h, _⟩ | ⟨g, c, h1, _, _, h2, h3⟩
  · omega
  · exact ⟨g, c, h1, h2, h3⟩
end Go.Proofs.Ytaakiemmodncpaa.Wa
