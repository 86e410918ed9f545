/- pack of the program: all groups written. -/
import Derived.Test.YtmopkbkdfipglaaCk
namespace Go.Proofs.Ytmopkbkdfipglaa.Lists
open Go.ChangeShapes Go.WideShapes Go.ChangeAt Go.RowKit
open Go.Proofs.Ytmopkbkdfipglaa.Bytes (bys)
attribute [local go_sem] Oper.semAt_some

def RS (w4 W : World) (base b : Nat) (r0 : Option Nat) (X : World) (B : List Int) : Prop :=
  (∃ v, BW X base b v B ∧ (v.ownBlock = r0 ∨ ∀ k, v.ownBlock = some k → w4.heap.size + 2 ≤ k)) ∧ KB (fun k => k = b ∨ r0 = some k) w4 X ∧ Rf.But (fun k => k = b ∨ r0 = some k ∨ w4.heap.size + 2 ≤ k) W X ∧ w4.heap.size + 2 ≤ X.heap.size
theorem rs_write {w4 W : World} {base b : Nat} {r0 : Option Nat} {X : World} {B : List Int} (h : RS w4 W base b r0 X B) (x : Int) (n : Nat) (hx : 0 ≤ x ∧ x < 18446744073709551616) (hn : n ≤ 64) (hl : B.length ≤ 100000000) :
    Calls Try.prog 62 #[.pointer (some ⟨b, 0, none⟩), .int .u64 x, .int .i64 (n : Int)] X fun e X' => e = .returned (.tuple #[]) ∧ RS w4 W base b r0 X' (B ++ bts x n) := by
  obtain ⟨⟨v, hb, hv⟩, hk, hw, hs⟩ := h
  refine (iwrite_any X base b v B x n hx hn hb hl).mono ?_
  rintro e X' ⟨rfl, v', hb', hv', hk'⟩
  refine ⟨rfl, ⟨v', hb', ?_⟩, ?_, ?_, Nat.le_trans hs hk'.size⟩
  · rcases hv' with q | q
    · rw [q]; exact hv
    · exact .inr fun k e => Nat.le_trans hs (q k e)
  · refine ⟨hk'.os.trans hk.os, hk'.tape.trans hk.tape, hk'.output.trans hk.output, Nat.le_trans hk.size hk'.size, fun k h1 h2 => (hk'.block k (Nat.lt_of_lt_of_le h1 hk.size) fun e => ?_).trans (hk.block k h1 h2)⟩
    rcases e with e | e
    · exact h2 (.inl e)
    · rcases hv with q | q
      · exact h2 (.inr (by rw [← q]; exact e))
      · have := q k e; omega
  · refine hw.trans (hk'.but.mono fun k e => ?_)
    rcases e with e | e
    · exact .inl e
    · rcases hv with q | q
      · exact .inr (.inl (by rw [← q]; exact e))
      · exact .inr (.inr (q k e))

theorem row_int' {w : World} {base g cap n : Nat} {L : List Int} (h : w.ownsRow base 2 1 (.slice (some ⟨g, 0, none⟩) n cap) n (ints L)) (hl : L.length = n) (i : Nat) (hi : i < n) : w.cell? ⟨g, i, none⟩ = some (.int .i64 (L.getD i 0)) := by subst hl; exact row_cell h i hi

set_option maxRecDepth 20000 in
set_option maxHeartbeats 4000000 in
theorem rpack_any (w : World) (v : Value) (L : List Int) (h : Reads w v L) (hr : Rg L) :
    Calls Try.prog 60 #[.agg #[], v] w fun e w' => ∃ v', e = .returned v' ∧ w'.ownsRow w.heap.size 5 1 v' (pk L).length (bys (pk L)) ∧ Below w.heap.size w w' := by
  obtain ⟨a, cap, rfl⟩ := h.form
  have hl := hr.1
  obtain ⟨n, hn⟩ : ∃ n, n = L.length := ⟨_, rfl⟩
  have HN : Hid (n = L.length) := hn
  have HR : Hid (Rg L) := hr
  have RD : Hid (∀ W, Below w.heap.size w W → Reads W (.slice a n cap) L) := fun W hW => by rw [hn]; exact h.on hW
  rw [← hn] at hl ⊢
  have f62 : Fence.wide.fn 62 := trivial
  have f63 : Fence.wide.fn 63 := trivial
  have f64 : Fence.wide.fn 64 := trivial
  have f65 : Fence.wide.fn 65 := trivial
  have f66 : Fence.wide.fn 66 := trivial
  have f67 : Fence.wide.fn 67 := trivial
  clear h hr hn
  refine (callsIn_wide (n := 5)).1 ?_
  refine callsIn_of_wp_marks Try.func60 rfl trivial ?_ rfl
  simp only [Try.ntmps60, List.size_toArray, List.length_cons, List.length_nil, Nat.reduceAdd, Nat.reduceSub, Array.replicate_succ, Array.replicate_zero, List.push_toArray, List.append_toArray, List.nil_append, List.cons_append]
  obtain ⟨w1, hw1⟩ : ∃ w1, w1 = (w.alloc (Obj.cells #[] 42)).alloc (Obj.cells #[Value.slice none 0 0, Value.int IntKind.i64 0] 90) := ⟨_, rfl⟩
  have HW1 : Hid (w1 = (w.alloc (Obj.cells #[] 42)).alloc (Obj.cells #[Value.slice none 0 0, Value.int IntKind.i64 0] 90)) := hw1
  have b1 : Below w.heap.size w w1 := by rw [hw1]; exact ((Below.refl _ _).alloc (Nat.le_refl _) _).alloc (by simp) _
  have z1 : w1.heap.size = w.heap.size + 2 := by rw [hw1]; simp
  have l1 : Bl w1 (w.heap.size + 1) 90 #[.slice none 0 0, .int .i64 0] := by
    have := Bl.new (w.alloc (Obj.cells #[] 42)) 90 #[Value.slice none 0 0, Value.int IntKind.i64 0]
    rw [World.size_alloc] at this
    rw [hw1]; exact this
  have W0 : BW w1 w.heap.size (w.heap.size + 1) (.slice none 0 0) [] := ⟨by omega, l1, ⟨rfl, .inl ⟨rfl, rfl⟩⟩, fun x hx => by cases hx⟩
  have P1 : Hid (Calls Try.prog 62 #[.pointer (some ⟨w.heap.size + 1, 0, none⟩), .int .u64 (n : Int), .int .i64 16] w1 fun e w' => e = .returned (.tuple #[]) ∧ ∃ v', BW w' w.heap.size (w.heap.size + 1) v' ([] ++ bts (n : Int) 16) ∧ (v'.ownBlock = none ∨ ∀ k, v'.ownBlock = some k → w1.heap.size ≤ k) ∧ KB (fun k => k = w.heap.size + 1 ∨ none = some k) w1 w') :=
    iwrite_any w1 w.heap.size (w.heap.size + 1) (.slice none 0 0) [] (n : Int) 16 (by omega) (by omega) W0 (by simp)
  clear hw1 l1 W0
  gi_wp2_with fail
  rw [← HW1.out]
  refine (callsIn_wide.2 P1.out).mono ?_
  rintro e w2 ⟨rfl, v0, hb2, hv2, hk2⟩
  have b2 : Below w.heap.size w w2 := b1.trans (hk2.below (by omega) (fun k e => by rcases e with e | e; omega; cases e))
  have z2 : w.heap.size + 2 ≤ w2.heap.size := by have := hk2.size; omega
  have HB2 : Hid (BW w2 w.heap.size (w.heap.size + 1) v0 (pkB L 0)) := (by show BW _ _ _ _ _; rw [pkB_zero, ← HN.out]; exact hb2)
  have DF : Hid (Calls Try.prog 64 #[.slice a n cap] w2 fun e w' => ∃ v', e = .returned v' ∧ w'.ownsRow w2.heap.size 2 1 v' L.length (ints (dif L)) ∧ Below w2.heap.size w2 w') := idiff_any w2 (.slice a n cap) L (RD.out w2 b2) HR.out
  have BB2 : Hid (Below w.heap.size w w2) := b2
  have r2 : ∀ k, v0.ownBlock = some k → k < w2.heap.size := fun k e => (hb2.2.2.1.lt k e).2
  have R2 : Hid (∀ k, v0.ownBlock = some k → k < w2.heap.size ∧ k ≠ w.heap.size + 1) := fun k e => ⟨r2 k e, fun q => hb2.2.1.ty.ne (row_ty hb2.2.2.1 k e) (by decide) q.symm⟩
  clear P1 HW1 b1 hb2 hv2 hk2 RD b2 r2
  gi_wp2_with fail
  refine (callsIn_wide.2 DF.out).mono ?_
  rintro e w3 ⟨v3, rfl, o3, b3⟩
  obtain ⟨ad, cd, ev⟩ := row_form o3
  rw [← HN.out] at o3 ev
  subst ev
  have z3 := b3.size
  obtain ⟨gd, ea, gl⟩ : ∃ gd, (0 < n → ad = some ⟨gd, 0, none⟩) ∧ (0 < n → w2.heap.size ≤ gd ∧ gd < w3.heap.size ∧ n ≤ cd ∧ cd ≤ maxLen ∧ ∀ i, i < n → w3.cell? ⟨gd, i, none⟩ = some (.int .i64 ((dif L).getD i 0))) := by
    rcases o3.2 with ⟨h1, h2⟩ | ⟨gf, cap, cur, h1, h2, h3, h4, h5, h6⟩
    · exact ⟨0, fun h => by omega, fun h => by omega⟩
    · injection h1 with h1 _ h1c
      subst h1 h1c
      have ll : (dif L).length = n := by rw [difk_len, ← HN.out]
      exact ⟨gf, fun _ => rfl, fun _ => ⟨h2, (o3.lt gf rfl).2, h4, h5, fun i hi => row_int' o3 ll i hi⟩⟩
  have ncd : n ≤ cd := by
    rcases Nat.eq_zero_or_pos n with e | e
    · omega
    · exact (gl e).2.2.1
  have GL : Hid (0 < n → w2.heap.size ≤ gd ∧ gd < w3.heap.size ∧ n ≤ cd ∧ cd ≤ maxLen ∧ ∀ i, i < n → w3.cell? ⟨gd, i, none⟩ = some (.int .i64 ((dif L).getD i 0))) := gl
  have BB3 : Hid (Below w2.heap.size w2 w3) := b3
  have EA : Hid (0 < n → ad = some ⟨gd, 0, none⟩) := ea
  clear o3 b3 gl ea DF
  gi_wp2_with fail
  refine (chunk_in ad n cd w3).mono ?_
  rintro e w4 ⟨rfl, hw4⟩
  have b4 : Below w3.heap.size w3 w4 := by rw [hw4]; exact ((Below.refl _ _).alloc (Nat.le_refl _) _).alloc (by simp) _
  have z4 : w4.heap.size = w3.heap.size + 2 := by rw [hw4]; simp
  have C4 : Hid (Cx w4 w3.heap.size (w3.heap.size + 1) (.slice ad n cd)) := (by
    show Cx _ _ _ _
    rw [hw4]
    refine ⟨(Bl.new w3 22 #[.slice ad n cd]).on ((Below.refl _ _).alloc (Nat.le_refl _) _), ?_⟩
    have := Bl.new (w3.alloc (Obj.cells #[.slice ad n cd] 22)) 3 #[.int .i64 16]
    rw [World.size_alloc] at this
    exact this)
  have B24 : Hid (Below w2.heap.size w2 w4) := BB3.out.trans (b4.mono z3)
  have B34 : Hid (Below w3.heap.size w3 w4) := b4
  clear hw4 b4 BB3
  obtain ⟨r0, hr0⟩ : ∃ r0, r0 = v0.ownBlock := ⟨_, rfl⟩
  have HR0 : Hid (r0 = v0.ownBlock) := hr0
  rw [← hr0] at R2
  clear hr0
  have GB : Hid (0 < n → gd < w4.heap.size ∧ gd ≠ w.heap.size + 1 ∧ ¬ r0 = some gd) := fun h => ⟨by have := GL.out h; omega, by have := GL.out h; omega, fun e => by have := R2.out gd e; have := GL.out h; omega⟩
  gi_wp2_with fail
  refine Rf.rangeG rfl (by omega) (gf := 70) (lb := #[.pointer (some ⟨w3.heap.size, 0, none⟩), .pointer (some ⟨w3.heap.size + 1, 0, none⟩)]) rfl trivial (enters_of Try.func70 (by kernel_rfl) rfl)
    (Y := fun k => k = w.heap.size + 1 ∨ r0 = some k ∨ w4.heap.size + 2 ≤ k) ⟨fun h => by rcases h with h | h | h; omega; have := (R2.out _ h).1; omega; omega, fun h => by rcases h with h | h | h; omega; have := (R2.out _ h).1; omega; omega⟩ (xs := List.range (ng n))
    (chunk_seq n w3.heap.size (w3.heap.size + 1) gd cd ad hl ncd EA.out w4 C4.out _ ⟨fun h => by rcases h with h | h | h; omega; have := (R2.out _ h).1; omega; omega, fun h => by rcases h with h | h | h; omega; have := (R2.out _ h).1; omega; omega⟩)
    (fun _ => rfl)
    (fun pre W => (∃ v, BW W w.heap.size (w.heap.size + 1) v (pkB L pre.length) ∧ (v.ownBlock = r0 ∨ ∀ k, v.ownBlock = some k → w4.heap.size + 2 ≤ k)) ∧ KB (fun k => k = w.heap.size + 1 ∨ r0 = some k) w4 W)
    ?stable ?start
    (fun l k a' W => a' = { tmps := #[.agg #[], .slice a n cap, .pointer (some ⟨w.heap.size, 0, none⟩), undef, .slice none 0 0, .pointer (some ⟨w.heap.size + 1, 0, none⟩), Value.slice (some ⟨gd, 16 * k, none⟩) (gz n k) (gz n k), undef, undef, undef, undef, .slice a n cap, .int .i64 (n : Int), .int .u64 (n : Int), .tuple #[], .slice a n cap, .slice ad n cd, .func (.func 70) #[] #[.pointer (some ⟨w3.heap.size, 0, none⟩), .pointer (some ⟨w3.heap.size + 1, 0, none⟩)], Value.slice (some ⟨gd, 16 * k, none⟩) (gz n k) (gz n k), undef, undef, undef, undef, undef, undef, undef, undef, undef, undef, undef, undef, undef, undef, undef, undef, undef, undef, undef, undef, undef, undef, undef, undef, undef, undef, undef, undef, undef, undef], defers := [] })
    ?keeps ?assign ?body ?done
  case stable =>
    rintro pre A C ⟨⟨v, ⟨h1, h2, h3, h4⟩, hv⟩, hk⟩ hg
    refine ⟨⟨v, ⟨h1, (hg.block _ h2.lt fun e => by have := Option.some.inj e; omega).trans h2, h3.kept hg (.inr fun e => ?_), h4⟩, hv⟩, kb_grown hk hg fun k e => .inr (by have := Option.some.inj e; omega)⟩
    rcases hv with q | q
    · have := R2.out (w4.heap.size + 1) (by rw [← q]; exact e); omega
    · have := q _ e; omega
  case start =>
    refine ⟨⟨v0, ?_, .inl HR0.out.symm⟩, KB.refl _ _⟩
    obtain ⟨h1, h2, h3, h4⟩ := HB2.out
    exact ⟨h1, h2.on B24.out, h3.kept (row := none) (Below.grownBy B24.out none) (by
      rcases e : v0.ownBlock with _ | _
      · exact .inl rfl
      · exact .inr (by simp)), h4⟩
  case keeps => intro l k a' A C h _; exact h
  case assign =>
    intro l k W K hl hK
    gi_wp2
    exact hK _ _ (Below.refl _ _) rfl
  case body =>
    rintro l pre k a' W rfl hlW ⟨⟨v, hb, hv⟩, hk⟩ rfl hpre
    obtain ⟨p1, p2⟩ := rg_pre hpre
    have EPL : Hid ((pre ++ [k]).length = k + 1 ∧ pre.length = k) := (by show _ ∧ _; simp; omega)
    rw [EPL.out.2] at hb p1
    clear p2 hpre
    have n0 : 0 < n ∧ 16 * k < n := by unfold ng at p1; omega
    obtain ⟨G, hG⟩ : ∃ G, G = gr L k := ⟨_, rfl⟩
    obtain ⟨m, hm⟩ : ∃ m, m = gz n k := ⟨_, rfl⟩
    have ml : G.length = m := by rw [hG, gr_len, hm, HN.out]; rfl
    have m1 : 0 < m ∧ m ≤ 16 ∧ 16 * k + m ≤ n := by rw [hm]; unfold gz; omega
    have gne : G ≠ [] := fun e => by rw [e] at ml; simp at ml; omega
    have LL : Hid (G.length = m ∧ G = gr L k ∧ G ≠ []) := ⟨ml, hG, gne⟩
    have RS0 : Hid (RS w4 W w.heap.size (w.heap.size + 1) r0 W (pkB L k)) := ⟨⟨v, hb, hv⟩, hk, Rf.But.refl _ _, hlW⟩
    have GC : Hid (∀ X B, RS w4 W w.heap.size (w.heap.size + 1) r0 X B → gd < X.heap.size ∧ ∀ j, j < m → X.cell? ⟨gd, 16 * k + j, none⟩ = some (.int .i64 (G.getD j 0))) := fun X B h => by
      obtain ⟨g1, g2, g3⟩ := GB.out n0.1
      have q := h.2.1
      refine ⟨Nat.lt_of_lt_of_le g1 q.size, fun j hj => ?_⟩
      rw [q.cell (p := ⟨gd, 16 * k + j, none⟩) g1 (fun e => by rcases e with e | e; exact g2 e; exact g3 e)]
      rw [B34.out.cell (p := ⟨gd, 16 * k + j, none⟩) (GL.out n0.1).2.1, (GL.out n0.1).2.2.2.2 _ (by omega), hG, gr_get L k j (by omega) (by rw [← HN.out]; omega), difk_get L _ _ (by rw [← HN.out]; omega)]
    have GRd : Hid (∀ X B, RS w4 W w.heap.size (w.heap.size + 1) r0 X B → Reads X (.slice (some ⟨gd, 16 * k, none⟩) m m) G) := fun X B h => .inr ⟨gd, 16 * k, m, by rw [ml], by rw [ml]; exact Nat.le_refl _, by unfold maxLen; omega, (GC.out X B h).1, fun i hi => (GC.out X B h).2 i (by rw [← ml]; exact hi)⟩
    have b1 := mn_b HR.out k (by rw [← hG]; exact gne)
    have b2 := mx_b HR.out k (by rw [← hG]; exact gne)
    have b3 := wd_b HR.out k (by rw [← hG]; exact gne)
    have b4 := mnmx gne
    rw [← hG] at b1 b2 b3
    obtain ⟨mn, hmn⟩ : ∃ mn, mn = mnL G := ⟨_, rfl⟩
    obtain ⟨mx, hmx⟩ : ∃ mx, mx = mxL G := ⟨_, rfl⟩
    obtain ⟨df, hdf⟩ : ∃ df : Nat, df = (mx - mn).toNat := ⟨_, rfl⟩
    obtain ⟨wd, hwd⟩ : ∃ wd, wd = wdN df := ⟨_, rfl⟩
    have hwG : wdG G = wd := by rw [hwd, hdf, hmx, hmn]; rfl
    rw [← hmn] at b1 b4
    rw [← hmx] at b2 b4
    rw [hwG] at b3
    have e1 : mx - mn = (df : Int) := by omega
    have d44 : df < 18446744073709551616 := by omega
    have MN : Hid (IsMin mn G) := (by show IsMin _ _; rw [hmn]; exact mnL_is G gne)
    have MX : Hid (IsMax mx G) := (by show IsMax _ _; rw [hmx]; exact mxL_is G gne)
    have WL : Hid (wdN df = wd) := hwd.symm
    have WG : Hid (wdG G = wd ∧ mnL G = mn) := ⟨hwG, hmn.symm⟩
    rw [← hm]
    clear hb hv hk hG hm ml gne hmn hmx hdf hwd hwG
    have Z4 : Hid (w4.heap.size = w3.heap.size + 2) := z4
    clear z4
    refine wpIn_block ?_
    gi_wp2_with fail
    refine (callsIn_wide.2 (min_any _ G mn W (GRd.out W _ RS0.out) MN.out)).mono ?_
    rintro e W1 ⟨rfl, hw⟩
    have hw' := hw.symm
    subst hw'
    gi_wp2_with fail
    refine (callsIn_wide.2 (max_any _ G mx W (GRd.out W _ RS0.out) MX.out)).mono ?_
    rintro e W1 ⟨rfl, hw⟩
    have hw' := hw.symm
    subst hw'
    gi_wp2_with fail
    refine (callsIn_wide.2 (ilen_any df d44 W)).mono ?_
    rintro e W1 ⟨rfl, hw⟩
    have hw' := hw.symm
    subst hw'
    rw [WL.out]
    obtain ⟨x1, hx1⟩ : ∃ x1, x1 = mn + 4398046511104 := ⟨_, rfl⟩
    have ex1 : mn + 4398046511104 = x1 := hx1.symm
    have bx1 : 0 ≤ x1 ∧ x1 < 8796093022208 := by omega
    have LP : Hid ((pkB L k).length ≤ 10000000) := (by
      show _ ≤ _
      have key : ∀ j, j ≤ k → (pkB L j).length ≤ 16 + j * 1000 := by
        intro j
        induction j with
        | zero => intro _; rw [pkB_zero, btk_len]; omega
        | succ j ih =>
          intro hj
          have := ih (by omega)
          have hg : gr L j ≠ [] := fun e => by have := gr_full L j (by unfold ng at *; rw [← HN.out]; omega); rw [e] at this; simp at this
          have w3 := wd_b HR.out j hg
          have := gr_full L j (by unfold ng at *; rw [← HN.out]; omega)
          rw [pkB_succ, List.length_append, grB_len, this]
          omega
      have := key k (Nat.le_refl _)
      unfold ng at p1
      omega)
    have P2 : Hid (Calls Try.prog 62 #[.pointer (some ⟨w.heap.size + 1, 0, none⟩), .int .u64 x1, .int .i64 48] W fun e X' => e = .returned (.tuple #[]) ∧ RS w4 W w.heap.size (w.heap.size + 1) r0 X' (pkB L k ++ bts x1 48)) := rs_write RS0.out x1 48 (by omega) (by omega) (by have := LP.out; omega)
    have X1 : Hid (x1 = mn + 4398046511104) := hx1
    clear hx1
    gi_wp2_with fail
    refine (callsIn_wide.2 P2.out).mono ?_
    rintro e W2 ⟨rfl, rs2⟩
    have RS2 : Hid (RS w4 W w.heap.size (w.heap.size + 1) r0 W2 (pkB L k ++ bts x1 48)) := rs2
    have P3 : Hid (Calls Try.prog 62 #[.pointer (some ⟨w.heap.size + 1, 0, none⟩), .int .u64 (wd : Int), .int .i64 8] W2 fun e X' => e = .returned (.tuple #[]) ∧ RS w4 W w.heap.size (w.heap.size + 1) r0 X' (pkB L k ++ bts x1 48 ++ bts (wd : Int) 8)) := rs_write rs2 (wd : Int) 8 (by omega) (by omega) (by have := LP.out; rw [List.length_append, btk_len]; omega)
    clear rs2 P2
    gi_wp2_with fail
    refine (callsIn_wide.2 P3.out).mono ?_
    rintro e W3 ⟨rfl, rs3⟩
    have RS3 : Hid (RS w4 W w.heap.size (w.heap.size + 1) r0 W3 (pkB L k ++ hd1 G ++ cod1 G 0)) := (by
      show RS _ _ _ _ _ _ _
      have e : pkB L k ++ hd1 G ++ cod1 G 0 = pkB L k ++ bts x1 48 ++ bts (wd : Int) 8 := by
        rw [hd1, WG.out.1, WG.out.2, ← X1.out]
        simp [cod1]
      rw [e]
      exact rs3)
    clear rs3 P3 RS2
    gi_wp2_with fail
    gi_loopw [10, 36] (fun _ i X => ∃ j : Nat, j ≤ m ∧ i = .int .i64 (j : Int) ∧ Hid (RS w4 W w.heap.size (w.heap.size + 1) r0 X (pkB L k ++ hd1 G ++ cod1 G j))) (fun _ i _ => m - (intOf i).toNat)
    case atStart => exact ⟨0, Nat.zero_le _, rfl, RS3⟩
    case round =>
      obtain ⟨j, hj, rfl, RJ⟩ := hrel
      clear RS3
      by_cases hlt : j < m
      · have i1 : (j : Int) < (m : Int) := by omega
        have i0 : (0 : Int) ≤ (j : Int) := by omega
        have cj := (GC.out _ _ RJ.out).2 j hlt
        obtain ⟨z, hz⟩ : ∃ z, z = G.getD j 0 := ⟨_, rfl⟩
        have zb : mn ≤ z ∧ z ≤ mx := by
          have hjl : j < G.length := by rw [LL.out.1]; exact hlt
          have hmem : z ∈ G := by rw [hz]; exact mem_at G j hjl
          exact ⟨MN.out.2 z hmem, MX.out.2 z hmem⟩
        obtain ⟨y, hy⟩ : ∃ y, y = z - mn := ⟨_, rfl⟩
        have ey : z - mn = y := hy.symm
        have yb : 0 ≤ y ∧ y < 18446744073709551616 := by omega
        rw [← hz] at cj
        have LJ : Hid ((pkB L k ++ hd1 G ++ cod1 G j).length ≤ 100000000) := (by
          show _ ≤ _
          have := LP.out
          rw [List.length_append, List.length_append, hd1_len, cod1_len, WG.out.1]
          have : j * wd ≤ 16 * 43 := Nat.mul_le_mul (by omega) (by omega)
          omega)
        have P4 : Hid (Calls Try.prog 62 #[.pointer (some ⟨w.heap.size + 1, 0, none⟩), .int .u64 y, .int .i64 (wd : Int)] wr fun e X' => e = .returned (.tuple #[]) ∧ RS w4 W w.heap.size (w.heap.size + 1) r0 X' (pkB L k ++ hd1 G ++ cod1 G (j + 1))) := (by
          have := rs_write RJ.out y wd yb (by omega) LJ.out
          rw [cod1_succ, WG.out.1, WG.out.2, ← hz, ← hy, ← List.append_assoc]
          exact this)
        clear hz hy RJ
        gi_wp2_with fail
        refine (callsIn_wide.2 P4.out).mono ?_
        rintro e W5 ⟨rfl, rs5⟩
        have RS5 : Hid (RS w4 W w.heap.size (w.heap.size + 1) r0 W5 (pkB L k ++ hd1 G ++ cod1 G (j + 1))) := rs5
        clear rs5 P4
        gi_wp2_with fail
        go_roundw
        case rel => exact ⟨j + 1, by omega, by go_num, RS5⟩
        case measure => simp [intOf]; omega
      · have ej : j = m := by omega
        subst ej
        have i1 : ¬ (j : Int) < (j : Int) := by omega
        have RE : Hid (RS w4 W w.heap.size (w.heap.size + 1) r0 wr (pkB L (pre ++ [k]).length)) := (by
          show RS _ _ _ _ _ _ _
          have := RJ.out
          rw [EPL.out.1, pkB_succ, grB, ← LL.out.2.1, LL.out.1, ← List.append_assoc]
          exact this)
        clear RJ
        gi_wp2_with fail
        exact ⟨RE.out.2.2.1, RE.out.1, RE.out.2.1⟩
  case done =>
    rintro D W hD ⟨⟨v, hb, hv⟩, hk⟩ hK
    rw [List.length_range] at hb
    obtain ⟨h1, h2, h3, h4⟩ := hb
    have c0 := h2.cell 0
    simp at c0
    have BE : Hid (Below w.heap.size w (W.putObj D (.deferred none))) := ((BB2.out.trans (B24.out.mono (by omega))).trans (hk.below (by omega) (fun k e => by
      rcases e with e | e
      · omega
      · have := HB2.out.2.2.1.lt k (by rw [← HR0.out]; exact e); omega))).trans ((Below.refl _ W).grown (grownBy_putObj' W D _) (by have := (Array.getElem?_eq_some_iff.1 hK).1; omega) (fun k e => by cases e; omega))
    have RE : Hid ((W.putObj D (.deferred none)).ownsRow w.heap.size 5 1 v (pk L).length (bys (pk L))) := (by
      show World.ownsRow _ _ _ _ _ _ _
      have e : pk L = byt (pkB L (ng n)) := by rw [pk, HN.out]
      rw [e]
      exact ownsRow_putObj h3 (.deferred none) hK rfl)
    obtain ⟨va, vc, ev⟩ := row_form h3
    obtain ⟨q, hq⟩ : ∃ q, q = (byt (pkB L (ng n))).length := ⟨_, rfl⟩
    rw [← hq] at ev
    have HQ : Hid (q = (byt (pkB L (ng n))).length) := hq
    subst ev
    clear h2 h3 hq
    gi_wp2
    refine ⟨by simp, .inl ⟨_, _, rfl, run_takeDeferred hK, ?_⟩⟩
    exact ⟨_, results_tmp rfl _ _ _, .slice va q vc, rfl, RE.out, BE.out⟩
end Go.Proofs.Ytmopkbkdfipglaa.Lists
