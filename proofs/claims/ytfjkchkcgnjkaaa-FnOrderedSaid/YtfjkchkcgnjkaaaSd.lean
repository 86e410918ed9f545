/- A list in order, by the model. -/
import Derived.Test.YtfjkchkcgnjkaaaMg
import Derived.Deep.RegionWith
import Derived.Deep.Onto
import Derived.Deep.Cut
import Derived.Deep.DeepCutAuto
namespace Go.Proofs.Ytfjkchkcgnjkaaa.Srt
open Go.ChangeShapes Go.WideShapes Go.ChangeAt Go.RowKit
open Go.Proofs.Ytfjkchkcgnjkaaa.Flt Go.Proofs.Ytfjkchkcgnjkaaa.St Go.Proofs.Ytfjkchkcgnjkaaa.Fls
attribute [local go_sem] Fls.run_store_flt

def Bd (L : List Nat) : Prop := ∀ z ∈ L, z < 18446744073709551616
def Res (w w' : World) (v : Value) (M L : List Nat) : Prop := w'.ownsRow w.heap.size 31 1 v M.length (flts M) ∧ M.Perm L ∧ Asc M ∧ Below w.heap.size w w'
theorem merged_two (w : World) (A B : List Nat) (va vb : Value) (hA : A ≠ []) (hB : B ≠ []) (hnm : A.length + B.length ≤ 4000) (ra : Reads w va A) (rb : Reads w vb B) (bA : Bd A) (bB : Bd B) (sA : Asc A) (sB : Asc B) :
    Calls Try.prog 20 #[va, vb] w fun e w' => ∃ v, e = .returned v ∧ Res w w' v (mg A B) (A ++ B) := by
  rcases ra with ⟨e, _⟩ | ⟨ba, oa, ca, rfl, x1, x2, x3, x4⟩
  · exact absurd e hA
  rcases rb with ⟨e, _⟩ | ⟨bb, ob, cb, rfl, y1, y2, y3, y4⟩
  · exact absurd e hB
  refine (merged_any w A B ba oa ca bb ob cb _ _ rfl rfl hnm x1 x2 y1 y2 x3 y3 x4 y4 bA bB).mono ?_
  rintro e w' ⟨v, rfl, h1, h2⟩
  exact ⟨v, rfl, by rw [mg_len]; exact h1, mg_perm _ _, mg_asc sA sB, h2⟩

theorem reads_take {w : World} {b o c n h : Nat} {L : List Nat} (hn : n = L.length) (hh : h ≤ n) (k : ∀ i, i < n → w.cell? ⟨b, o + i, none⟩ = some (.float .f64 (L.getD i 0))) (h1 : n ≤ c) (h2 : c ≤ maxLen) (h3 : b < w.heap.size) :
    Reads w (.slice (some ⟨b, o, none⟩) h c) (L.take h) := by
  have e : (L.take h).length = h := by rw [List.length_take]; omega
  refine .inr ⟨b, o, c, by rw [e], by omega, h2, h3, fun i hi => ?_⟩
  rw [k i (by omega)]
  rw [e] at hi
  simp [List.getD_eq_getElem?_getD, hi]
theorem reads_drop {w : World} {b o c n h : Nat} {L : List Nat} (hn : n = L.length) (hh : h ≤ n) (k : ∀ i, i < n → w.cell? ⟨b, o + i, none⟩ = some (.float .f64 (L.getD i 0))) (h1 : n ≤ c) (h2 : c ≤ maxLen) (h3 : b < w.heap.size) :
    Reads w (.slice (some ⟨b, o + h, none⟩) (n - h) (c - h)) (L.drop h) := by
  have e : (L.drop h).length = n - h := by rw [List.length_drop]; omega
  refine .inr ⟨b, o + h, c - h, by rw [e], by omega, by omega, h3, fun i hi => ?_⟩
  have := k (h + i) (by omega)
  rw [Nat.add_assoc, this]
  simp [List.getD_eq_getElem?_getD, List.getElem?_drop]

def Sorts (n : Nat) : Prop := ∀ (L : List Nat) (w : World) (v : Value), L.length ≤ n → L.length ≤ 4000 → Bd L → Reads w v L →
    Calls Try.prog 14 #[v] w fun e w' => ∃ v' M, e = .returned v' ∧ Res w w' v' M L

set_option maxHeartbeats 1000000 in
theorem sorts_none (w : World) (a : Option Addr) (c : Nat) : Calls Try.prog 14 #[.slice a 0 c] w fun e w' => ∃ v' M, e = .returned v' ∧ Res w w' v' M [] := by
  cases a with
  | none =>
    go_enter Try.func14, Try.ntmps14
    go_wp2_with fail
    go_ret
    exact ⟨_, [], rfl, World.ownsRow_lit w #[] 0 (Nat.le_refl _) (Nat.zero_le _) rfl, List.Perm.refl _, List.Pairwise.nil, (Below.refl _ _).alloc (Nat.le_refl _) _⟩
  | some ad =>
    obtain ⟨i0, hi, hzz⟩ := Option.map_eq_some_iff.1 Fls.Try.info31
    have hz0 : i0.zero = some (.float .f64 0) := congrArg Prod.fst hzz
    have hz1 : i0.size = 1 := congrArg (fun q => q.2.1) hzz
    have hz2 : i0.bytes = 8 := congrArg (fun q => q.2.2) hzz
    clear hzz
    have R0 : Hid ((w.alloc (Obj.cells #[] 31)).ownsRow w.heap.size 31 1 (.slice (some ⟨w.heap.size, 0, none⟩) 0 0) 0 (flts [])) := World.ownsRow_lit w #[] 0 (Nat.le_refl _) (Nat.zero_le _) rfl
    have B0 : Hid (Below w.heap.size w (w.alloc (Obj.cells #[] 31))) := (Below.refl _ _).alloc (Nat.le_refl _) _
    have zs : w.heap.size ≤ (w.alloc (Obj.cells #[] 31)).heap.size := B0.out.size
    go_enter Try.func14, Try.ntmps14
    go_wp2_with (at_builtin; refine wpList_append_own _ rfl _ _ 22 rfl w.heap.size 31 i0 (.float .f64 0) 1 8 Try.underlying22 hi hz0 hz1 hz2 rfl (by decide) _ _ _ rfl R0.out ad 0 c [] rfl rfl (by intro j u h; simp at h) (by intro u h; simp at h) (by unfold maxLen; omega) (by omega) zs ?_)
    intro v' w5 hown hgrow _
    have R5 : Hid (w5.ownsRow w.heap.size 31 1 v' 0 (flts [])) := (by show World.ownsRow _ _ _ _ _ _ _; simpa using hown)
    have B5 : Hid (Below w.heap.size w w5) := B0.out.grown hgrow zs (fun b hb => (R0.out.lt b hb).1)
    clear hown hgrow
    go_wp2_with fail
    go_ret
    exact ⟨_, [], rfl, R5.out, List.Perm.refl _, List.Pairwise.nil, B5.out⟩

set_option maxHeartbeats 1000000 in
theorem sorts_one (w : World) (b o c x : Nat) (hb : b < w.heap.size) (h : w.cell? ⟨b, o, none⟩ = some (.float .f64 x)) : Calls Try.prog 14 #[.slice (some ⟨b, o, none⟩) 1 c] w fun e w' => ∃ v' M, e = .returned v' ∧ Res w w' v' M [x] := by
  obtain ⟨i0, hi, hzz⟩ := Option.map_eq_some_iff.1 Fls.Try.info31
  have hz0 : i0.zero = some (.float .f64 0) := congrArg Prod.fst hzz
  have hz1 : i0.size = 1 := congrArg (fun q => q.2.1) hzz
  have hz2 : i0.bytes = 8 := congrArg (fun q => q.2.2) hzz
  clear hzz
  have R0 : Hid ((w.alloc (Obj.cells #[] 31)).ownsRow w.heap.size 31 1 (.slice (some ⟨w.heap.size, 0, none⟩) 0 0) 0 (flts [])) := World.ownsRow_lit w #[] 0 (Nat.le_refl _) (Nat.zero_le _) rfl
  have B0 : Hid (Below w.heap.size w (w.alloc (Obj.cells #[] 31))) := (Below.refl _ _).alloc (Nat.le_refl _) _
  have NW : Hid (∀ j u, [Value.float .f64 x][j]? = some u → (w.alloc (Obj.cells #[] 31)).cell? ((⟨b, o, none⟩ : Addr).add j) = some u) := by
    intro j u hj
    match j, hj with
    | 0, hj =>
      simp at hj
      subst hj
      have := (B0.out.cell (p := ⟨b, o, none⟩) hb).trans h
      simpa [Addr.add] using this
  have zs : w.heap.size ≤ (w.alloc (Obj.cells #[] 31)).heap.size := B0.out.size
  clear h
  go_enter Try.func14, Try.ntmps14
  go_wp2_with (at_builtin; refine wpList_append_own _ rfl _ _ 22 rfl w.heap.size 31 i0 (.float .f64 0) 1 8 Try.underlying22 hi hz0 hz1 hz2 rfl (by decide) _ _ _ rfl R0.out ⟨b, o, none⟩ 1 c [.float .f64 x] rfl rfl NW.out (one_flts [x]) (by unfold maxLen; omega) (by omega) zs ?_)
  intro v' w5 hown hgrow _
  have R5 : Hid (w5.ownsRow w.heap.size 31 1 v' 1 (flts [x])) := (by show World.ownsRow _ _ _ _ _ _ _; simpa using hown)
  have B5 : Hid (Below w.heap.size w w5) := B0.out.grown hgrow zs (fun b hb => (R0.out.lt b hb).1)
  clear hown hgrow
  go_wp2_with fail
  go_ret
  exact ⟨_, [x], rfl, R5.out, List.Perm.refl _, List.pairwise_singleton _ _, B5.out⟩

theorem Res.reads {w w' : World} {v : Value} {M L : List Nat} (h : Res w w' v M L) : Reads w' v M := reads_row h.1

set_option maxHeartbeats 4000000 in
set_option maxRecDepth 20000 in
theorem sorts_more (q : Nat) (IH : Sorts q) (w : World) (b o c n : Nat) (L : List Nat) (hn : n = L.length) (h2 : 2 ≤ n) (hq : n ≤ q + 1) (hm : n ≤ 4000) (hc : n ≤ c) (hc2 : c ≤ maxLen) (hb : b < w.heap.size) (bd : Bd L)
    (K : ∀ i, i < n → w.cell? ⟨b, o + i, none⟩ = some (.float .f64 (L.getD i 0))) :
    Calls Try.prog 14 #[.slice (some ⟨b, o, none⟩) n c] w fun e w' => ∃ v' M, e = .returned v' ∧ Res w w' v' M L := by
  obtain ⟨h, hh⟩ : ∃ h, h = n / 2 := ⟨_, rfl⟩
  have x1 : 1 ≤ h ∧ h < n ∧ h ≤ q ∧ n - h ≤ q := by omega
  obtain ⟨x1, x2, x3, x4⟩ := x1
  have e1 : (n : Int) / 2 = (h : Int) := by omega
  have e2 : (n : Int).tdiv 2 = (h : Int) := by rw [Int.tdiv_eq_ediv_of_nonneg (by omega)]; exact e1
  have e3 : ¬ (n : Int) < 2 := by omega
  have e4 : (h : Int) ≤ (n : Int) := by omega
  have e5 : ¬ c = h := by omega
  have e6 : (0 : Int) ≤ (h : Int) := by omega
  have e7 : (h : Int) ≤ (c : Int) := by omega
  have lt : (L.take h).length = h := by rw [List.length_take]; omega
  have ld : (L.drop h).length = n - h := by rw [List.length_drop]; omega
  have CA : Hid (∀ wx, Below w.heap.size w wx → Calls Try.prog 14 #[.slice (some ⟨b, o, none⟩) h c] wx fun e w' => ∃ v' M, e = .returned v' ∧ Res wx w' v' M (L.take h)) := fun wx hx =>
    IH (L.take h) wx _ (by omega) (by omega) (fun z hz => bd z (List.mem_of_mem_take hz)) ((reads_take hn (by omega) K hc hc2 hb).on hx)
  have CB : Hid (∀ wx, Below w.heap.size w wx → Calls Try.prog 14 #[.slice (some ⟨b, o + h, none⟩) (n - h) (c - h)] wx fun e w' => ∃ v' M, e = .returned v' ∧ Res wx w' v' M (L.drop h)) := fun wx hx =>
    IH (L.drop h) wx _ (by omega) (by omega) (fun z hz => bd z (List.mem_of_mem_drop hz)) ((reads_drop hn (by omega) K hc hc2 hb).on hx)
  have CM : Hid (∀ (wa wb wx' wy wz : World) (va vb : Value) (A B : List Nat), Res wa wb va A (L.take h) → Res wx' wy vb B (L.drop h) → Reads wz va A → Reads wz vb B → Below w.heap.size w wz → Calls Try.prog 20 #[va, vb] wz fun e w' => ∃ v' M, e = .returned v' ∧ Res w w' v' M L) := by
    intro wa wb wx wy wz va vb A B ha hb' ra rb hz
    have la := ha.2.1.length_eq
    have lb := hb'.2.1.length_eq
    have bA : Bd A := fun z hz => bd z (List.mem_of_mem_take (ha.2.1.subset hz))
    have bB : Bd B := fun z hz => bd z (List.mem_of_mem_drop (hb'.2.1.subset hz))
    refine (merged_two wz A B va vb (fun e => by subst e; simp at la; omega) (fun e => by subst e; simp at lb; omega) (by omega) ra rb bA bB ha.2.2.1 hb'.2.2.1).mono ?_
    rintro e w' ⟨v, rfl, m1, m2, m3, m4⟩
    have p : (mg A B).Perm L := m2.trans ((List.Perm.append ha.2.1 hb'.2.1).trans (by rw [List.take_append_drop]))
    exact ⟨v, _, rfl, m1.mono hz.size, p, m3, hz.trans (m4.mono hz.size)⟩
  have HB0 : Below w.heap.size w w.drew := (Below.refl _ _).drew
  clear IH hn hh bd K lt ld hc2 hb x3 x4
  go_enter Try.func14, Try.ntmps14
  go_upto_region 4 with fail
  go_region_with (first
    | (go_at_call_of 14 (Value.slice (some ⟨b, o, none⟩) h c); refine (CA.out _ (by assumption)).mono ?_; rintro e w5 ⟨v5, A, rfl, r5⟩; (have tk5 : Below w.heap.size w w5 := (by assumption : Below w.heap.size w _).trans (r5.2.2.2.mono (by assumption : Below w.heap.size w _).size)); (have hb5 := r5.2.2.2); (have ra5 := r5.reads))
    | (go_at_call_of 14 (Value.slice (some ⟨b, o + h, none⟩) (n - h) (c - h)); refine (CB.out _ (by assumption)).mono ?_; rintro e w6 ⟨v6, B, rfl, r6⟩; (have tk6 : Below w.heap.size w w6 := (by assumption : Below w.heap.size w _).trans (r6.2.2.2.mono (by assumption : Below w.heap.size w _).size)); (have hb6 := r6.2.2.2); (have rb6 := r6.reads))
    | (go_at_call 20; refine (CM.out _ _ _ _ _ _ _ _ _ r5 r6 (by first | exact ra5 | exact ra5.on hb6) (by first | exact rb6 | exact rb6.on hb5) (by first | exact tk6 | exact tk5)).mono ?_; rintro e w7 ⟨v7, M, rfl, r7⟩))
  all_goals (go_wp2_with fail; go_ret; exact ⟨_, _, rfl, r7⟩)

theorem sorts_all : ∀ q, Sorts q
  | 0 => fun L w v h _ _ r => by
    have e : L = [] := List.eq_nil_of_length_eq_zero (by omega)
    subst e
    obtain ⟨a, c, rfl⟩ := r.form
    exact sorts_none w a c
  | q + 1 => fun L w v h h4 bd r => by
    by_cases h0 : L.length = 0
    · have e : L = [] := List.eq_nil_of_length_eq_zero h0
      subst e
      obtain ⟨a, c, rfl⟩ := r.form
      exact sorts_none w a c
    · rcases r with ⟨e, _⟩ | ⟨b, o, c, rfl, x1, x2, x3, x4⟩
      · subst e; exact absurd rfl h0
      by_cases h1 : L.length = 1
      · obtain ⟨x, rfl⟩ := List.length_eq_one_iff.1 h1
        exact sorts_one w b o c x x3 (x4 0 (by simp))
      · exact sorts_more q (sorts_all q) w b o c L.length L rfl (by omega) h h4 x1 x2 x3 bd x4
theorem sorted_spec (L : List Nat) (w : World) (v : Value) (h : L.length ≤ 4000) (bd : Bd L) (r : Reads w v L) :
    Calls Try.prog 14 #[v] w fun e w' => ∃ v' M, e = .returned v' ∧ Res w w' v' M L := sorts_all L.length L w v (Nat.le_refl _) h bd r

/-- What Order answers: the same numbers in order, or nothing where there are too many. -/
def OR (L M : List Nat) : Prop := if L.length ≤ 4000 then M.Perm L ∧ Asc M else M = []
theorem OR.len {L M : List Nat} (h : OR L M) : M.length ≤ 4000 := by
  unfold OR at h
  split at h
  · have := h.1.length_eq; omega
  · subst h; simp
theorem OR.cn {L M N : List Nat} (h : OR L M) (k : OR L N) (bd : Bd L) : M.map cn = N.map cn := by
  unfold OR at h k
  split at h
  · rename_i hl
    rw [if_pos hl] at k
    exact same_cn (h.1.trans k.1.symm) h.2 k.2 (fun z hz => bd z (h.1.subset hz))
  · rename_i hl
    rw [if_neg hl] at k
    rw [h, k]
set_option maxHeartbeats 1000000 in
theorem sorder_any (L : List Nat) (w : World) (v : Value) (bd : Bd L) (r : Reads w v L) :
    Calls Try.prog 5 #[v] w fun e w' => ∃ v' M, e = .returned v' ∧ w'.ownsRow w.heap.size 31 1 v' M.length (flts M) ∧ OR L M ∧ Below w.heap.size w w' := by
  obtain ⟨a, c, hv⟩ := r.form
  by_cases h : L.length ≤ 4000
  · have C : Hid (Calls Try.prog 14 #[v] w fun e w' => ∃ v' M, e = .returned v' ∧ Res w w' v' M L) := sorted_spec L w v h bd r
    have O : Hid (∀ M, M.Perm L → Asc M → OR L M) := fun M h1 h2 => by show OR L M; unfold OR; rw [if_pos h]; exact ⟨h1, h2⟩
    have i1 : ¬ (4000 : Int) < (L.length : Int) := by omega
    rw [hv] at C ⊢
    generalize L.length = n at i1 C ⊢
    clear r hv bd h
    go_enter Try.func5, Try.ntmps5
    go_wp2_with fail
    refine C.out.mono ?_
    rintro e w1 ⟨v1, M, rfl, h1, h2, h3, h4⟩
    have X : Hid (w1.ownsRow w.heap.size 31 1 v1 M.length (flts M) ∧ OR L M ∧ Below w.heap.size w w1) := ⟨h1, O.out M h2 h3, h4⟩
    clear h1 h2 h3 h4 C O
    go_wp2_with fail
    go_ret
    exact ⟨_, _, rfl, X.out⟩
  · have O : Hid (OR L []) := (by show OR L []; unfold OR; rw [if_neg h])
    have i1 : (4000 : Int) < (L.length : Int) := by omega
    rw [hv]
    generalize L.length = n at i1 ⊢
    clear r hv bd h
    go_enter Try.func5, Try.ntmps5
    go_wp2_with fail
    go_ret
    exact ⟨_, [], rfl, World.ownsRow_lit w #[] 0 (Nat.le_refl _) (Nat.zero_le _) rfl, O.out, (Below.refl _ _).alloc (Nat.le_refl _) _⟩
end Go.Proofs.Ytfjkchkcgnjkaaa.Srt
