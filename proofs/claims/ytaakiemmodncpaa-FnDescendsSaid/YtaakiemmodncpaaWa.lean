/- A problem that is being drawn: what is kept. -/
import Derived.Test.YtaakiemmodncpaaMk
import Derived.Test.YtaakiemmodncpaaRdJ
import Derived.Deep.RegionLaw
import Derived.Deep.RegionHeldLaw
import Derived.Deep.AppendLies
import Derived.Deep.DeepCutAuto
import Derived.Deep.Cut
import Derived.Deep.DeepMust
import Derived.Maps.AppendAt
namespace Go.Proofs.Ytaakiemmodncpaa.Wa
open Go.ChangeShapes Go.WideShapes Go.ChangeAt Go.RowKit
open Go.Proofs.Ytaakiemmodncpaa.Lists Go.Proofs.Ytaakiemmodncpaa.Mk Go.Proofs.Ytaakiemmodncpaa.Rd

abbrev nilL : Value := .slice none 0 0
/-- What is as it was but for the blocks of S; new ones may lie there. -/
structure KV (S : Nat → Prop) (w w' : World) : Prop where
  os : w'.os = w.os
  tape : w'.tape = w.tape
  output : w'.output = w.output
  size : w.heap.size ≤ w'.heap.size
  block : ∀ k, k < w.heap.size → ¬ S k → w'.heap[k]? = w.heap[k]?
theorem KV.trans {S : Nat → Prop} {w w' w'' : World} (h : KV S w w') (h' : KV S w' w'') : KV S w w'' := ⟨h'.os.trans h.os, h'.tape.trans h.tape, h'.output.trans h.output, Nat.le_trans h.size h'.size, fun k hk hn => (h'.block k (Nat.lt_of_lt_of_le hk h.size) hn).trans (h.block k hk hn)⟩
theorem KV.of_grown {S : Nat → Prop} {w w' : World} {row : Option Nat} (h : w.grownBy w' row) (hs : ∀ k, row = some k → S k) : KV S w w' := ⟨h.os, h.tape, h.output, h.size, fun k hk hn => h.block k hk (fun e => hn (hs k e.symm))⟩
theorem KV.of_below {S : Nat → Prop} {w w' : World} (h : Below w.heap.size w w') : KV S w w' := ⟨h.os, h.tape, h.output, h.size, fun k hk _ => h.block k hk⟩
theorem KV.of_set {S : Nat → Prop} (w : World) (g o : Nat) (u : Value) (hs : S g) : KV S w (w.setCell ⟨g, o, none⟩ u) := KV.of_grown (grown_setCell (World.grownBy.refl w (some g)) o u) (fun k e => by simp at e; subst e; exact hs)
theorem KV.below {S : Nat → Prop} {w w' : World} {B : Nat} (h : KV S w w') (hB : B ≤ w.heap.size) (hs : ∀ k, S k → B ≤ k) : Below B w w' := ⟨h.os, h.tape, h.output, h.size, fun k hk => h.block k (by omega) (fun x => by have := hs k x; omega)⟩
theorem kv_set (w : World) (g o : Nat) (u : Value) : KV (fun b => b = g) w (w.setCell ⟨g, o, none⟩ u) := KV.of_set w g o u rfl
theorem turn_kv {r : Nat} {w w' : World} (h : Turn r w w') : KV (fun b => b = r) w w' := ⟨h.bel.os, h.bel.tape, h.bel.output, h.bel.size, fun k hk hn => by
  by_cases e : k < r
  · exact h.bel.block k e
  · exact h.abv k (by omega) hk⟩
theorem kv_turn {r : Nat} {S : Nat → Prop} {w w' w'' : World} (hr : r < w.heap.size) (t : Turn r w w') (h : KV S w' w'') (hs : ∀ b, S b → w.heap.size ≤ b) : Turn r w w'' :=
  ⟨t.bel.trans (h.below (by have := t.size; omega) (fun b hb => by have := hs b hb; omega)), fun i h1 h2 => (h.block i (by have := t.size; omega) (fun q => by have := hs i q; omega)).trans (t.abv i h1 h2)⟩
theorem rd_kv {r : Nat} {S : Nat → Prop} {w w' : World} (h : Rd r w) (k : KV S w w') (hs : ∀ b, S b → r < b) : Rd r w' :=
  h.kept (B := r + 1) (k.below h.lt (fun b hb => hs b hb)) (Nat.lt_succ_self r)
theorem row_kv {S : Nat → Prop} {w w' : World} {base n k : Nat} {e : TypeId} {v : Value} {xs : List Value} (h : w.ownsRow base e k v n xs) (hb : KV S w w') (hne : ∀ g, v.ownBlock = some g → ¬ S g) : w'.ownsRow base e k v n xs := by
  refine ⟨h.1, ?_⟩
  rcases h.2 with h2 | ⟨g, cap, cur, h1, h2, h3, h4⟩
  · exact .inl h2
  · have hg : g < w.heap.size := by
      rcases Nat.lt_or_ge g w.heap.size with x | x
      · exact x
      · rw [Array.getElem?_eq_none x] at h3; cases h3
    exact .inr ⟨g, cap, cur, h1, h2, (hb.block g hg (hne g (by rw [h1]; rfl))).trans h3, h4⟩
/-- A block and its cells. -/
def Bl (w : World) (b : Nat) (e : TypeId) (cs : Array Value) : Prop := w.heap[b]? = some (.cells cs e (0, 0))
theorem Bl.lt {w : World} {b : Nat} {e : TypeId} {cs : Array Value} (h : Bl w b e cs) : b < w.heap.size := (Array.getElem?_eq_some_iff.1 h).1
theorem Bl.cell {w : World} {b : Nat} {e : TypeId} {cs : Array Value} (h : Bl w b e cs) (j : Nat) : w.cell? ⟨b, j, none⟩ = cs[j]? := by
  unfold Bl at h
  simp [World.cell?, h]
theorem Bl.fz {w : World} {b : Nat} {e : TypeId} {cs : Array Value} (h : Bl w b e cs) (j : Nat) : w.frozen? ⟨b, j, none⟩ = false := by
  unfold Bl at h
  simp [World.frozen?, h]
theorem Bl.kv {S : Nat → Prop} {w w' : World} {b : Nat} {e : TypeId} {cs : Array Value} (h : Bl w b e cs) (k : KV S w w') (hn : ¬ S b) : Bl w' b e cs := (k.block b h.lt hn).trans h
theorem Bl.on {w w' : World} {b : Nat} {e : TypeId} {cs : Array Value} (h : Bl w b e cs) (k : Below w.heap.size w w') : Bl w' b e cs := (k.block b h.lt).trans h
theorem Bl.set {w : World} {b : Nat} {e : TypeId} {cs : Array Value} (h : Bl w b e cs) (j : Nat) (u : Value) : Bl (w.setCell ⟨b, j, none⟩ u) b e (cs.setIfInBounds j u) := by
  have hl := h.lt
  unfold Bl at h ⊢
  have hg : w.heap[b] = .cells cs e (0, 0) := by rw [Array.getElem?_eq_getElem hl] at h; exact Option.some.inj h
  simp [World.setCell, hl]
  rw [Array.getElem_modify_self, hg]
theorem Bl.new (w : World) (e : TypeId) (cs : Array Value) : Bl (w.alloc (.cells cs e)) w.heap.size e cs := by
  unfold Bl
  simp [World.alloc, -World.alloc_eq]
theorem _root_.Go.Proofs.Ytaakiemmodncpaa.Mk.AI.kv {S : Nat → Prop} {w w' : World} {B n : Nat} {v : Value} (h : AI w B v n) (k : KV S w w') (hn : ∀ g, v.ownBlock = some g → ¬ S g) : AI w' B v n := by
  obtain ⟨L, hl, hr⟩ := h
  exact ⟨L, hl, row_kv hr k hn⟩
theorem _root_.Go.Proofs.Ytaakiemmodncpaa.Mk.AI.lt {w : World} {B n : Nat} {v : Value} (h : AI w B v n) (g : Nat) (hg : v.ownBlock = some g) : B ≤ g ∧ g < w.heap.size := by
  obtain ⟨L, hl, hr⟩ := h
  exact hr.lt g hg
theorem _root_.Go.Proofs.Ytaakiemmodncpaa.Mk.AI.nil (w : World) (B : Nat) : AI w B nilL 0 := ⟨[], rfl, rfl, .inl ⟨rfl, rfl⟩⟩
theorem _root_.Go.Proofs.Ytaakiemmodncpaa.Mk.AI.down {w : World} {B B' n : Nat} {v : Value} (h : AI w B v n) (hb : B' ≤ B) : AI w B' v n := by
  obtain ⟨L, hl, hr⟩ := h
  exact ⟨L, hl, Rw1.own_down hr hb⟩
theorem _root_.Go.Proofs.Ytaakiemmodncpaa.Mk.AI.snoc {w : World} {B n : Nat} {v : Value} {L : List Int} {z : Int} (hl : L.length = n) (h : w.ownsRow B 2 1 v (n + 1) (ints L ++ [.int .i64 z])) : AI w B v (n + 1) := ⟨L ++ [z], by simp [hl], by simpa [ints] using h⟩
theorem _root_.Go.Proofs.Ytaakiemmodncpaa.Mk.AI.reads {w : World} {B n : Nat} {v : Value} (h : AI w B v n) : ∃ L : List Int, L.length = n ∧ Lists.Reads w v L := by
  obtain ⟨L, rfl, hr⟩ := h
  exact ⟨L, rfl, Lists.reads_row hr⟩
/-- rows whose numbers are any -/
def RI (w : World) (base : Nat) (v : Value) (n : Nat) (us : Nat → Value) (ls : Nat → Nat) : Prop :=
  (∃ xs, w.ownsRow base 51 3 v n xs ∧ ∀ i, i < n → xs[i * 3]? = some (us i) ∧ (∃ z : Int, xs[i * 3 + 1]? = some (.int .i64 z)) ∧ ∃ z : Int, xs[i * 3 + 2]? = some (.int .i64 z)) ∧ ∀ i, i < n → AI w base (us i) (ls i)
theorem RI.nil (w : World) (B : Nat) (us : Nat → Value) (ls : Nat → Nat) : RI w B nilL 0 us ls := ⟨⟨[], ⟨rfl, .inl ⟨rfl, rfl⟩⟩, fun i hi => by omega⟩, fun i hi => by omega⟩
theorem RI.kv {S : Nat → Prop} {w w' : World} {B n : Nat} {v : Value} {us : Nat → Value} {ls : Nat → Nat} (h : RI w B v n us ls) (k : KV S w w') (hs : ∀ b, S b → b < B) : RI w' B v n us ls := by
  obtain ⟨⟨xs, h1, h2⟩, h3⟩ := h
  exact ⟨⟨xs, row_kv h1 k (fun g hg q => by have := (h1.lt g hg).1; have := hs g q; omega), h2⟩, fun i hi => (h3 i hi).kv k (fun g hg q => by have := ((h3 i hi).lt g hg).1; have := hs g q; omega)⟩
theorem RI.kvu {S : Nat → Prop} {w w' : World} {B E n : Nat} {v : Value} {us : Nat → Value} {ls : Nat → Nat} (h : RI w B v n us ls) (k : KV S w w') (hE : w.heap.size ≤ E) (hs : ∀ b, S b → E ≤ b) : RI w' B v n us ls := by
  obtain ⟨⟨xs, h1, h2⟩, h3⟩ := h
  exact ⟨⟨xs, row_kv h1 k (fun g hg q => by have := (h1.lt g hg).2; have := hs g q; omega), h2⟩, fun i hi => (h3 i hi).kv k (fun g hg q => by have := ((h3 i hi).lt g hg).2; have := hs g q; omega)⟩
theorem RI.on {w w' : World} {B n : Nat} {v : Value} {us : Nat → Value} {ls : Nat → Nat} (h : RI w B v n us ls) (hb : Below w.heap.size w w') : RI w' B v n us ls := by
  obtain ⟨⟨xs, h1, h2⟩, h3⟩ := h
  exact ⟨⟨xs, Mo.row_below h1 hb, h2⟩, fun i hi => (h3 i hi).on hb⟩
theorem RI.int {w : World} {base n : Nat} {v : Value} {us : Nat → Value} {ls : Nat → Nat} (h : RI w base v n us ls) {b2 m : Nat} {v' : Value} (ha : AI w b2 v' m) (g o : Nat) (z : Int) (hg : v'.ownBlock = some g) : RI (w.setCell ⟨g, o, none⟩ (.int .i64 z)) base v n us ls := by
  obtain ⟨⟨xs, h1, h2⟩, h3⟩ := h
  obtain ⟨L, _, hr⟩ := ha
  exact ⟨⟨xs, row_off h1 g o _ (fun e => type_ne h1 hr (by decide) g e hg), h2⟩, fun i hi => (h3 i hi).put g o z⟩
theorem RI.own {w : World} {base n g c : Nat} {us : Nat → Value} {ls : Nat → Nat} (h : RI w base (.slice (some ⟨g, 0, none⟩) n c) n us ls) (k j : Nat) (hj : j = 1 ∨ j = 2) (z : Int) : RI (w.setCell ⟨g, k * 3 + j, none⟩ (.int .i64 z)) base (.slice (some ⟨g, 0, none⟩) n c) n us ls := by
  obtain ⟨⟨xs, h1, h2⟩, h3⟩ := h
  refine ⟨⟨_, (h1.stored (k * 3 + j) _).1, fun i hi => ?_⟩, fun i hi => (h3 i hi).put g _ z⟩
  obtain ⟨a, b, c⟩ := h2 i hi
  have some_set : ∀ p : Nat, (∃ z : Int, xs[p]? = some (Value.int .i64 z)) → ∃ y : Int, (xs.set (k * 3 + j) (Value.int .i64 z))[p]? = some (Value.int .i64 y) := fun p hp => by
    by_cases e : k * 3 + j = p
    · obtain ⟨y, hy⟩ := hp
      have := (List.getElem?_eq_some_iff.1 hy).1
      exact ⟨z, by rw [e, List.getElem?_set_self this]⟩
    · rw [List.getElem?_set_ne e]; exact hp
  exact ⟨by rw [List.getElem?_set_ne (by omega)]; exact a, some_set _ b, some_set _ c⟩
theorem RI.app {w w5 : World} {B n : Nat} {v v' u : Value} {us : Nat → Value} {ls : Nat → Nat} {l : Nat} {y z : Int} {xs : List Value} (h : RI w B v n us ls) (h1 : w.ownsRow B 51 3 v n xs) (h2 : ∀ i, i < n → xs[i * 3]? = some (us i) ∧ (∃ z : Int, xs[i * 3 + 1]? = some (.int .i64 z)) ∧ ∃ z : Int, xs[i * 3 + 2]? = some (.int .i64 z)) (hu : AI w B u l)
    (hg : w.grownBy w5 v.ownBlock) (hrow : w5.ownsRow B 51 3 v' (n + 1) (xs ++ [u, .int .i64 y, .int .i64 z])) : RI w5 B v' (n + 1) (fun i => if i = n then u else us i) (fun i => if i = n then l else ls i) := by
  have kg : KV (fun b => v.ownBlock = some b) w w5 := KV.of_grown hg (fun _ e => e)
  have ak : ∀ {v2 : Value} {m : Nat}, AI w B v2 m → AI w5 B v2 m := fun ha => by
    obtain ⟨L, hl, hr⟩ := ha
    exact ⟨L, hl, row_kv hr kg (fun g hg' q => type_ne h1 hr (by decide) g q hg')⟩
  have lx := h1.1
  refine ⟨⟨_, hrow, fun i hi => ?_⟩, fun i hi => ?_⟩
  · by_cases e : i = n
    · subst e
      dsimp only
      rw [if_pos rfl]
      refine ⟨?_, ⟨y, ?_⟩, ⟨z, ?_⟩⟩
      · rw [List.getElem?_append_right (by omega)]; simp [lx]
      · rw [List.getElem?_append_right (by omega), show i * 3 + 1 - xs.length = 1 by omega]; rfl
      · rw [List.getElem?_append_right (by omega), show i * 3 + 2 - xs.length = 2 by omega]; rfl
    · dsimp only
      rw [if_neg e]
      obtain ⟨a, b, c⟩ := h2 i (by omega)
      rw [List.getElem?_append_left (by omega), List.getElem?_append_left (by omega), List.getElem?_append_left (by omega)]
      exact ⟨a, b, c⟩
  · by_cases e : i = n
    · simp only [e, if_true]; exact ak hu
    · simp only [e, if_false]; exact ak (h.2 i (by omega))
theorem RI.reads {w : World} {B n : Nat} {v : Value} {us : Nat → Value} {ls : Nat → Nat} (h : RI w B v n us ls) : ∃ R : Rw.Ls, R.length = n ∧ Rw.Reads w v R := by
  obtain ⟨⟨xs, h1, h2⟩, h3⟩ := h
  have a1 : ∀ i, ∃ el : Rw.El, i < n → xs[i * 3 + 1]? = some (.int .i64 (el.1 1)) ∧ xs[i * 3 + 2]? = some (.int .i64 (el.1 2)) ∧ Lists.Reads w (us i) el.2 := fun i => by
    by_cases hi : i < n
    · obtain ⟨_, ⟨y, hy⟩, ⟨z, hz⟩⟩ := h2 i hi
      obtain ⟨L, _, hr⟩ := (h3 i hi).reads
      exact ⟨(fun j => if j = 1 then y else z, L), fun _ => ⟨hy, hz, hr⟩⟩
    · exact ⟨(fun _ => 0, []), fun x => absurd x hi⟩
  obtain ⟨f, hf⟩ := Classical.axiomOfChoice a1
  refine ⟨(List.range n).map f, by simp, ?_⟩
  have ge : ∀ i, i < n → ((List.range n).map f).getD i (fun _ => 0, []) = f i := fun i hi => by
    rw [List.getD_eq_getElem?_getD, List.getElem?_map, List.getElem?_range hi]; rfl
  rcases Mo.row_cases h1 with ⟨rfl, rfl⟩ | ⟨g, c, rfl, _, g1, g2, g3⟩
  · exact .inl ⟨rfl, _, _, rfl⟩
  · refine .inr ⟨g, 0, c, by simp, by simpa using g2, g3, g1, fun i hi => ?_⟩
    simp at hi
    obtain ⟨x1, x2, x3⟩ := hf i hi
    unfold Rw.Cs Rw.cz Rw.cl
    rw [ge i hi]
    refine ⟨?_, ?_, us i, ?_, x3⟩
    · rw [Nat.zero_add, h1.cellAt (i * 3 + 1) (by omega)]; exact x1
    · rw [Nat.zero_add, h1.cellAt (i * 3 + 2) (by omega)]; exact x2
    · rw [Nat.zero_add, h1.cellAt (i * 3) (by omega)]; exact (h2 i hi).1

/-- a problem that is being drawn -/
structure PB (r : Nat) (w : World) (pb : Nat) (n : Int) (g t rv : Value) (ng nt nr : Nat) (us : Nat → Value) (ls : Nat → Nat) (wr : World) : Prop where
  rd : Rd r wr
  tu : Turn r w wr
  lo : w.heap.size < pb
  rb : Bl wr w.heap.size 32 #[.int .i64 0, nilL, nilL, nilL]
  bx : Bl wr pb 32 #[.int .i64 n, g, t, rv]
  ag : AI wr (pb + 1) g ng
  at' : AI wr (pb + 1) t nt
  ap : ∀ b, g.ownBlock = some b → t.ownBlock = some b → False
  rm : RI wr (pb + 1) rv nr us ls
section
variable {r : Nat} {w : World} {pb : Nat} {n : Int} {g t rv : Value} {ng nt nr : Nat} {us : Nat → Value} {ls : Nat → Nat} {wr : World}
theorem PB.turn {w' : World} (h : PB r w pb n g t rv ng nt nr us ls wr) (hr : r < w.heap.size) (k : Rd r w') (q : Turn r wr w') : PB r w pb n g t rv ng nt nr us ls w' :=
  have lo := h.lo
  ⟨k, h.tu.trans q, h.lo, h.rb.kv (turn_kv q) (by omega), h.bx.kv (turn_kv q) (by omega), h.ag.kv (turn_kv q) (fun b hb x => by have := (h.ag.lt b hb).1; omega), h.at'.kv (turn_kv q) (fun b hb x => by have := (h.at'.lt b hb).1; omega), h.ap, h.rm.kv (turn_kv q) (fun b hb => by omega)⟩
theorem PB.up {w' : World} (h : PB r w pb n g t rv ng nt nr us ls wr) (hr : r < w.heap.size) (hb : Below wr.heap.size wr w') : PB r w pb n g t rv ng nt nr us ls w' :=
  h.turn hr (h.rd.kept hb h.rd.lt) (Turn.of hb (Nat.le_refl _) (Nat.le_of_lt h.rd.lt))
theorem PB.drew (h : PB r w pb n g t rv ng nt nr us ls wr) (hr : r < w.heap.size) : PB r w pb n g t rv ng nt nr us ls wr.drew := h.turn hr (h.rd.drewN 1) ((Turn.refl r wr).drewN 1)
/-- The Guess has one more. -/
theorem PB.appG {v' : Value} {w5 : World} {o : Obj} {L : List Int} {z : Int} {b' : Nat} (h : PB r w pb n g t nilL ng nt 0 us ls wr) (hr : r < w.heap.size) (hL : L.length = ng) (hg : (wr.alloc o).grownBy w5 g.ownBlock) (hrow : w5.ownsRow (pb + 1) 2 1 v' (ng + 1) (ints L ++ [.int .i64 z])) (hv : v'.ownBlock = some b') (hat : g.ownBlock = some b' ∨ b' = wr.heap.size + 1) :
    (w5.cell? ⟨pb, 1, none⟩ = some g ∧ w5.frozen? ⟨pb, 1, none⟩ = false) ∧ PB r w pb n v' t nilL (ng + 1) nt 0 us ls (w5.setCell ⟨pb, 1, none⟩ v') := by
  have lo := h.lo
  have zt := h.at'.lt
  have hA := h.up hr (show Below wr.heap.size wr (wr.alloc o) from (Below.refl _ _).alloc (Nat.le_refl _) _)
  have kg : KV (fun b => g.ownBlock = some b) (wr.alloc o) w5 := KV.of_grown hg (fun b hb => hb)
  have lg : ∀ b, g.ownBlock = some b → pb + 1 ≤ b := fun b hb => (hA.ag.lt b hb).1
  have b5 := hA.bx.kv kg (fun x => by have := lg _ x; omega)
  have r5 := hA.rb.kv kg (fun x => by have := lg _ x; omega)
  have t5 := hA.at'.kv kg (fun b hb x => hA.ap b x hb)
  have ks : KV (fun b => b = pb) w5 (w5.setCell ⟨pb, 1, none⟩ v') := kv_set w5 _ _ _
  refine ⟨⟨by rw [b5.cell]; rfl, b5.fz 1⟩, ⟨rd_kv (rd_kv hA.rd kg (fun b hb => by have := lg b hb; omega)) ks (fun b hb => by omega), kv_turn hr (kv_turn hr hA.tu kg (fun b hb => by have := lg b hb; omega)) ks (fun b hb => by omega), h.lo, r5.kv ks (by omega), b5.set 1 v', (AI.snoc hL hrow).kv ks (fun b hb x => by have := (hrow.lt b hb).1; omega), t5.kv ks (fun b hb x => by have := (t5.lt b hb).1; omega), fun b hb hb' => ?_, RI.nil _ _ _ _⟩⟩
  rw [hv] at hb
  cases hb
  rcases hat with x | x
  · exact h.ap _ x hb'
  · have := (zt _ hb').2; omega
/-- The Trust has one more. -/
theorem PB.appT {v' : Value} {w5 : World} {o : Obj} {L : List Int} {z : Int} {b' : Nat} (h : PB r w pb n g t nilL ng nt 0 us ls wr) (hr : r < w.heap.size) (hL : L.length = nt) (hg : (wr.alloc o).grownBy w5 t.ownBlock) (hrow : w5.ownsRow (pb + 1) 2 1 v' (nt + 1) (ints L ++ [.int .i64 z])) (hv : v'.ownBlock = some b') (hat : t.ownBlock = some b' ∨ b' = wr.heap.size + 1) :
    (w5.cell? ⟨pb, 2, none⟩ = some t ∧ w5.frozen? ⟨pb, 2, none⟩ = false) ∧ PB r w pb n g v' nilL ng (nt + 1) 0 us ls (w5.setCell ⟨pb, 2, none⟩ v') := by
  have lo := h.lo
  have zg := h.ag.lt
  have hA := h.up hr (show Below wr.heap.size wr (wr.alloc o) from (Below.refl _ _).alloc (Nat.le_refl _) _)
  have kg : KV (fun b => t.ownBlock = some b) (wr.alloc o) w5 := KV.of_grown hg (fun b hb => hb)
  have lg : ∀ b, t.ownBlock = some b → pb + 1 ≤ b := fun b hb => (hA.at'.lt b hb).1
  have b5 := hA.bx.kv kg (fun x => by have := lg _ x; omega)
  have r5 := hA.rb.kv kg (fun x => by have := lg _ x; omega)
  have t5 := hA.ag.kv kg (fun b hb x => hA.ap b hb x)
  have ks : KV (fun b => b = pb) w5 (w5.setCell ⟨pb, 2, none⟩ v') := kv_set w5 _ _ _
  refine ⟨⟨by rw [b5.cell]; rfl, b5.fz 2⟩, ⟨rd_kv (rd_kv hA.rd kg (fun b hb => by have := lg b hb; omega)) ks (fun b hb => by omega), kv_turn hr (kv_turn hr hA.tu kg (fun b hb => by have := lg b hb; omega)) ks (fun b hb => by omega), h.lo, r5.kv ks (by omega), b5.set 2 v', t5.kv ks (fun b hb x => by have := (t5.lt b hb).1; omega), (AI.snoc hL hrow).kv ks (fun b hb x => by have := (hrow.lt b hb).1; omega), fun b hb hb' => ?_, RI.nil _ _ _ _⟩⟩
  rw [hv] at hb'
  cases hb'
  rcases hat with x | x
  · exact h.ap _ hb x
  · have := (zg _ hb).2; omega
/-- One row more. -/
theorem PB.appR {v' u : Value} {w5 : World} {o : Obj} {xs : List Value} {l : Nat} {y z : Int} (h : PB r w pb n g t rv ng nt nr us ls wr) (hr : r < w.heap.size) (h1 : wr.ownsRow (pb + 1) 51 3 rv nr xs) (h2 : ∀ i, i < nr → xs[i * 3]? = some (us i) ∧ (∃ z : Int, xs[i * 3 + 1]? = some (.int .i64 z)) ∧ ∃ z : Int, xs[i * 3 + 2]? = some (.int .i64 z)) (hu : AI wr (pb + 1) u l)
    (hg : (wr.alloc o).grownBy w5 rv.ownBlock) (hrow : w5.ownsRow (pb + 1) 51 3 v' (nr + 1) (xs ++ [u, .int .i64 y, .int .i64 z])) :
    (w5.cell? ⟨pb, 3, none⟩ = some rv ∧ w5.frozen? ⟨pb, 3, none⟩ = false) ∧ PB r w pb n g t v' ng nt (nr + 1) (fun i => if i = nr then u else us i) (fun i => if i = nr then l else ls i) (w5.setCell ⟨pb, 3, none⟩ v') := by
  have lo := h.lo
  have bA : Below wr.heap.size wr (wr.alloc o) := (Below.refl _ _).alloc (Nat.le_refl _) _
  have hA := h.up hr bA
  have rA := Mo.row_below h1 bA
  have kg : KV (fun b => rv.ownBlock = some b) (wr.alloc o) w5 := KV.of_grown hg (fun b hb => hb)
  have lg : ∀ b, rv.ownBlock = some b → pb + 1 ≤ b := fun b hb => (rA.lt b hb).1
  have b5 := hA.bx.kv kg (fun x => by have := lg _ x; omega)
  have r5 := hA.rb.kv kg (fun x => by have := lg _ x; omega)
  have ne : ∀ {v2 : Value} {m : Nat}, AI (wr.alloc o) (pb + 1) v2 m → AI w5 (pb + 1) v2 m := fun ha => by
    obtain ⟨L, hl, hr'⟩ := ha
    exact ⟨L, hl, row_kv hr' kg (fun b hb x => type_ne rA hr' (by decide) b x hb)⟩
  have g5 := ne hA.ag
  have t5 := ne hA.at'
  have R5 := RI.app hA.rm rA h2 (hu.on bA) hg hrow
  have ks : KV (fun b => b = pb) w5 (w5.setCell ⟨pb, 3, none⟩ v') := kv_set w5 _ _ _
  exact ⟨⟨by rw [b5.cell]; rfl, b5.fz 3⟩, ⟨rd_kv (rd_kv hA.rd kg (fun b hb => by have := lg b hb; omega)) ks (fun b hb => by omega), kv_turn hr (kv_turn hr hA.tu kg (fun b hb => by have := lg b hb; omega)) ks (fun b hb => by omega), h.lo, r5.kv ks (by omega), b5.set 3 v', g5.kv ks (fun b hb x => by have := (g5.lt b hb).1; omega), t5.kv ks (fun b hb x => by have := (t5.lt b hb).1; omega), h.ap, R5.kv ks (fun b hb => by omega)⟩⟩
end
/-- a row that is being drawn -/
structure TB (r : Nat) (wo : World) (tb : Nat) (u : Value) (y z : Int) (k : Nat) (wr : World) : Prop where
  rd : Rd r wr
  tu : Turn r wo wr
  lo : wo.heap.size ≤ tb
  bx : Bl wr tb 51 #[u, .int .i64 y, .int .i64 z]
  row : AI wr (tb + 1) u k
theorem TB.turn {r : Nat} {wo : World} {tb : Nat} {u : Value} {y z : Int} {k : Nat} {wr w' : World} (h : TB r wo tb u y z k wr) (hr : r < wo.heap.size) (q : Rd r w') (t : Turn r wr w') : TB r wo tb u y z k w' :=
  ⟨q, h.tu.trans t, h.lo, h.bx.kv (turn_kv t) (by have := h.lo; omega), h.row.kv (turn_kv t) (fun g hg x => by have := (h.row.lt g hg).1; have := h.lo; omega)⟩
theorem TB.drew {r : Nat} {wo : World} {tb : Nat} {u : Value} {y z : Int} {k : Nat} {wr : World} (h : TB r wo tb u y z k wr) (hr : r < wo.heap.size) : TB r wo tb u y z k wr.drew := h.turn hr (h.rd.drewN 1) ((Turn.refl r wr).drewN 1)
theorem TB.app {r : Nat} {wo : World} {tb : Nat} {u v' : Value} {y z q : Int} {k : Nat} {L : List Int} {wx w5 : World} {o : Obj} (h : TB r wo tb u y z k wx) (hr : r < wo.heap.size) (hL : L.length = k) (hg : (wx.alloc o).grownBy w5 u.ownBlock) (hrow : w5.ownsRow (tb + 1) 2 1 v' (k + 1) (ints L ++ [.int .i64 q])) :
    (w5.cell? ⟨tb, 0, none⟩ = some u ∧ w5.frozen? ⟨tb, 0, none⟩ = false) ∧ TB r wo tb v' y z (k + 1) (w5.setCell ⟨tb, 0, none⟩ v') := by
  have lo := h.lo
  have bA : Below wx.heap.size wx (wx.alloc o) := (Below.refl _ _).alloc (Nat.le_refl _) _
  have hA := h.turn hr (h.rd.kept bA h.rd.lt) (Turn.of bA (Nat.le_refl _) (Nat.le_of_lt h.rd.lt))
  have kg : KV (fun b => tb + 1 ≤ b) (wx.alloc o) w5 := KV.of_grown hg (fun b hb => (hA.row.lt b hb).1)
  have b5 := hA.bx.kv kg (by omega)
  have ks : KV (fun b => b = tb) w5 (w5.setCell ⟨tb, 0, none⟩ v') := kv_set w5 _ _ _
  exact ⟨⟨by rw [b5.cell]; rfl, b5.fz 0⟩, ⟨rd_kv (rd_kv hA.rd kg (fun b hb => by omega)) ks (fun b hb => by omega), kv_turn hr (kv_turn hr hA.tu kg (fun b hb => by omega)) ks (fun b hb => by omega), lo, b5.set 0 v', (AI.snoc hL hrow).kv ks (fun g hg x => by have := (hrow.lt g hg).1; omega)⟩⟩
theorem row_form {w : World} {B k : Nat} {v : Value} {xs : List Value} {e q : Nat} (R : w.ownsRow B e q v k xs) : ∃ sa sc, v = .slice sa k sc := by
  rcases R.2 with ⟨h, h2⟩ | ⟨g, cap, cur, h, _⟩
  · exact ⟨none, 0, by rw [h, h2]⟩
  · exact ⟨_, _, h⟩
theorem one_int (z : Int) : ∀ u ∈ [Value.int .i64 z], u.oneCell' = true := by intro u hu; simp at hu; subst hu; rfl
theorem cell_new (w : World) (v0 : Value) (t : TypeId) : ∀ j u, [v0][j]? = some u → (w.alloc (Obj.cells #[v0] t)).cell? ((⟨w.heap.size, 0, none⟩ : Addr).add j) = some u := by
  intro j u hj
  match j, hj with
  | 0, hj => simp at hj; subst hj; simp [Addr.add]

set_option maxHeartbeats 1000000 in
theorem size_any (r : Nat) (w : World) (h : Rd r w) (per most : Nat) (hp : 1 ≤ per ∧ per ≤ 100) (hm : 1 ≤ most ∧ most ≤ 1000) : Calls Try.prog 63 #[.pointer (some ⟨r, 0, none⟩), .int .i64 (per : Int), .int .i64 (most : Int)] w (Drawn r w fun u => 1 ≤ u ∧ u ≤ (most : Int)) := by
  have hh := h
  obtain ⟨a, n, cap, p, h1, h2, h3, h4, h5, h6, h7⟩ := hh
  have H : Hid (Rd r w) := h
  clear h h7
  obtain ⟨q, hq⟩ : ∃ q : Nat, q = n / per := ⟨_, rfl⟩
  have e1 : (n : Int).tdiv (per : Int) = (q : Int) := by rw [Int.tdiv_eq_ediv_of_nonneg (by omega), hq, Int.natCast_ediv]
  have e2 : (n : Int) / (per : Int) = (q : Int) := by rw [hq, Int.natCast_ediv]
  have bq : q ≤ 1048576 := by rw [hq]; exact Nat.le_trans (Nat.div_le_self _ _) h6
  have hp0 : ¬ (per : Int) = 0 := by omega
  clear hq
  by_cases g : (most : Int) < 1 + (q : Int)
  · have C : Hid (Calls Try.prog 41 #[.pointer (some ⟨r, 0, none⟩), .int .i64 (most : Int)] w (Drawn r w fun u => 0 ≤ u ∧ u < (most : Int))) := below_all r w H.out most (by omega) (by omega)
    go_enter Try.func63, Try.ntmps63
    go_wp2_with fail
    refine C.out.mono ?_
    rintro e w1 ⟨⟨u, ⟨hu1, hu2⟩, rfl⟩, k1, k2⟩
    have K : Hid (Rd r w1 ∧ Turn r w w1) := ⟨k1, k2⟩
    clear k1 k2
    go_wp2_with fail
    go_ret
    exact ⟨⟨1 + u, by omega, rfl⟩, K.out.1, K.out.2⟩
  · have C : Hid (Calls Try.prog 41 #[.pointer (some ⟨r, 0, none⟩), .int .i64 (1 + (q : Int))] w (Drawn r w fun u => 0 ≤ u ∧ u < 1 + (q : Int))) := (by
      have := below_all r w H.out (1 + q) (by omega) (by omega)
      rw [Int.natCast_add] at this
      exact this)
    go_enter Try.func63, Try.ntmps63
    go_wp2_with fail
    refine C.out.mono ?_
    rintro e w1 ⟨⟨u, ⟨hu1, hu2⟩, rfl⟩, k1, k2⟩
    have K : Hid (Rd r w1 ∧ Turn r w w1) := ⟨k1, k2⟩
    clear k1 k2
    go_wp2_with fail
    go_ret
    exact ⟨⟨1 + u, by omega, rfl⟩, K.out.1, K.out.2⟩
end Go.Proofs.Ytaakiemmodncpaa.Wa
