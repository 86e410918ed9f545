/- Phrase: what both say. -/
import Derived.Test.YtnbhfjcpimdnlaaDoorPn
namespace Go.Proofs.YtnbhfjcpimdnlaaDoor.Ph
open Go.ChangeShapes Go.WideShapes Go.ChangeAt Go.RowKit
open Go.Proofs.YtnbhfjcpimdnlaaDoor.Dec (cat dec_any dec_len)
def now (t d f : Int) : List UInt8 := if d = 0 then gL t 0 else gL t 1 ++ gL t (1 + d.toNat) ++ gL t 10 ++ dg f.toNat
def ltr (t f l : Int) : List UInt8 := if f < l then gL t 11 ++ dg l.toNat else if l < f then gL t 12 ++ dg l.toNat else []
def rtx (t r p : Int) : List UInt8 := if r = 0 then gL t 13 else gL t (13 + r.toNat) ++ gL t 17 ++ dg p.toNat ++ (if p = 1 then gL t 18 else gL t 19)
def phr (t d f l r p : Int) : List UInt8 := now t d f ++ ltr t f l ++ [46, 32] ++ rtx t r p ++ [46]
theorem lens (t : Int) (i : Nat) : (gL t i).length ≤ 40 := by
  have h : ∀ L : List (List UInt8), L.all (fun x => decide (x.length ≤ 40)) = true → (L.getD i []).length ≤ 40 := by
    intro L hL
    rw [List.getD_eq_getElem?_getD]
    cases e : L[i]? with
    | none => simp
    | some x =>
      have := List.all_eq_true.1 hL x (List.mem_of_getElem? e)
      simpa using this
  unfold gL lxs
  split
  · exact h LA (by decide)
  · split
    · exact h LB (by decide)
    · split
      · exact h LC (by decide)
      · exact h LZ (by decide)
theorem dgl (n : Nat) (h : n < 100) : (dg n).length ≤ 2 := by
  show (Lib.decDigits n).length ≤ 2
  by_cases c : n < 10
  · rw [Lib.decDigits_one c]; simp
  · rw [Lib.decDigits_two c h]; simp
structure Sk (d f l r p : Int) : Prop where
  d : 0 ≤ d ∧ d ≤ 8
  f : 0 ≤ f ∧ f ≤ 12
  l : 0 ≤ l ∧ l ≤ 12
  r : 0 ≤ r ∧ r ≤ 3
  p : 0 ≤ p ∧ p ≤ 100
theorem sok_sk {d f l r p : Int} (h : sok d f l r p = true) : Sk d f l r p := by
  unfold sok inn at h
  simp only [Bool.and_eq_true, decide_eq_true_eq] at h
  exact ⟨h.1, h.2.1, h.2.2.1, h.2.2.2.2.1, h.2.2.2.2.2.1⟩
theorem fmt_int (x : Int) (w : World) (h0 : 0 ≤ x) (h1 : x ≤ 1000) (hT : Tb w) : Calls Tryd.prog 41 #[.int .i64 x, .int .i64 10] w fun e w' => e = .returned (.string ⟨(dg x.toNat).toArray⟩) ∧ Below w.heap.size w w' := by
  have := fmt_any x.toNat w (by omega) hT
  rw [Int.toNat_of_nonneg h0] at this
  exact this
theorem dec_int (x : Int) (w : World) (h0 : 0 ≤ x) (h1 : x ≤ 1000) : Calls Tryd.prog 33 #[.int .i64 x] w fun e w' => e = .returned (.string ⟨(dg x.toNat).toArray⟩) ∧ Below w.heap.size w w' := by
  have := dec_any x.toNat w (by omega)
  rw [Int.toNat_of_nonneg h0] at this
  exact this
theorem now_len (t d f : Int) (hf : 0 ≤ f ∧ f ≤ 12) : (now t d f).length ≤ 400 := by
  unfold now
  have a := lens t 0
  have b := lens t 1
  have c := lens t (1 + d.toNat)
  have e := lens t 10
  have g := dgl f.toNat (by omega)
  split
  · omega
  · simp only [List.length_append]; omega
theorem eight (t : Int) (d : Int) (h1 : 1 ≤ d) (h2 : d ≤ 8) : [gL t 2, gL t 3, gL t 4, gL t 5, gL t 6, gL t 7, gL t 8, gL t 9][d.toNat - 1]? = some (gL t (1 + d.toNat)) := by
  rcases (by omega : d = 1 ∨ d = 2 ∨ d = 3 ∨ d = 4 ∨ d = 5 ∨ d = 6 ∨ d = 7 ∨ d = 8) with rfl | rfl | rfl | rfl | rfl | rfl | rfl | rfl <;> rfl
theorem thr (t : Int) (r : Int) (h1 : 1 ≤ r) (h2 : r ≤ 3) : [gL t 14, gL t 15, gL t 16][r.toNat - 1]? = some (gL t (13 + r.toNat)) := by
  rcases (by omega : r = 1 ∨ r = 2 ∨ r = 3) with rfl | rfl | rfl <;> rfl
theorem lex_gL (t : Int) (ht : t = 1 ∨ t = 2 ∨ t = 3) : lex (lxs t) = .agg #[.string ⟨(gL t 0).toArray⟩, .string ⟨(gL t 1).toArray⟩, .string ⟨(gL t 2).toArray⟩, .string ⟨(gL t 3).toArray⟩, .string ⟨(gL t 4).toArray⟩, .string ⟨(gL t 5).toArray⟩, .string ⟨(gL t 6).toArray⟩, .string ⟨(gL t 7).toArray⟩, .string ⟨(gL t 8).toArray⟩, .string ⟨(gL t 9).toArray⟩, .string ⟨(gL t 10).toArray⟩, .string ⟨(gL t 11).toArray⟩, .string ⟨(gL t 12).toArray⟩, .string ⟨(gL t 13).toArray⟩, .string ⟨(gL t 14).toArray⟩, .string ⟨(gL t 15).toArray⟩, .string ⟨(gL t 16).toArray⟩, .string ⟨(gL t 17).toArray⟩, .string ⟨(gL t 18).toArray⟩, .string ⟨(gL t 19).toArray⟩] := by
  rcases ht with rfl | rfl | rfl <;> rfl
theorem iwind_any (t d f l r p : Int) (w : World) (ht : t = 1 ∨ t = 2 ∨ t = 3) (hs : Sk d f l r p) (hT : Tb w) :
    Calls Tryd.prog 29 #[lex (lxs t), .agg #[.int .i64 d, .int .i64 f, .int .i64 l, .int .i64 r, .int .i64 p]] w fun e w' => e = .returned (.string ⟨(now t d f ++ ltr t f l).toArray⟩) ∧ Below w.heap.size w w' := by
  rw [lex_gL t ht]
  have FL : ∀ X, Below w.heap.size w X → Calls Tryd.prog 41 #[.int .i64 l, .int .i64 10] X fun e w' => e = .returned (.string ⟨(dg l.toNat).toArray⟩) ∧ Below X.heap.size X w' := fun X hb => fmt_int l X hs.l.1 (by have := hs.l; omega) (hT.keep hb)
  have FF : ∀ X, Below w.heap.size w X → Calls Tryd.prog 41 #[.int .i64 f, .int .i64 10] X fun e w' => e = .returned (.string ⟨(dg f.toNat).toArray⟩) ∧ Below X.heap.size X w' := fun X hb => fmt_int f X hs.f.1 (by have := hs.f; omega) (hT.keep hb)
  have nl := now_len t d f hs.f
  have ll := dgl l.toNat (by have := hs.l; omega)
  have l11 := lens t 11
  have l12 := lens t 12
  unfold ltr
  by_cases hd : d = 0
  · have hn : now t d f = gL t 0 := by unfold now; rw [if_pos hd]
    by_cases h1 : f < l
    · rw [if_pos h1, ← List.append_assoc]
      exact wind_calm_gt (gL t 0) (gL t 1) (gL t 2) (gL t 3) (gL t 4) (gL t 5) (gL t 6) (gL t 7) (gL t 8) (gL t 9) (gL t 10) (gL t 11) (gL t 12) (gL t 13) (gL t 14) (gL t 15) (gL t 16) (gL t 17) (gL t 18) (gL t 19) (now t d f) (dg l.toNat) d f l r p w nl (by omega) l11 h1 FL hd hn
    · rw [if_neg h1]
      by_cases h2 : l < f
      · rw [if_pos h2, ← List.append_assoc]
        exact wind_calm_lt (gL t 0) (gL t 1) (gL t 2) (gL t 3) (gL t 4) (gL t 5) (gL t 6) (gL t 7) (gL t 8) (gL t 9) (gL t 10) (gL t 11) (gL t 12) (gL t 13) (gL t 14) (gL t 15) (gL t 16) (gL t 17) (gL t 18) (gL t 19) (now t d f) (dg l.toNat) d f l r p w nl (by omega) l12 h2 FL hd hn
      · rw [if_neg h2, List.append_nil]
        exact wind_calm_eq (gL t 0) (gL t 1) (gL t 2) (gL t 3) (gL t 4) (gL t 5) (gL t 6) (gL t 7) (gL t 8) (gL t 9) (gL t 10) (gL t 11) (gL t 12) (gL t 13) (gL t 14) (gL t 15) (gL t 16) (gL t 17) (gL t 18) (gL t 19) (now t d f) (dg l.toNat) d f l r p w (by omega) FL hd hn
  · have hn : now t d f = gL t 1 ++ gL t (1 + d.toNat) ++ gL t 10 ++ dg f.toNat := by unfold now; rw [if_neg hd]
    have hdd := hs.d
    have hk := eight t d (by omega) (by omega)
    have hw : IntKind.i64.wrap (d - 1) = ((d.toNat - 1 : Nat) : Int) := by rw [IntWalk.i64_in _ (by omega)]; omega
    have k8 : d.toNat - 1 < 8 := by omega
    by_cases h1 : f < l
    · rw [if_pos h1, ← List.append_assoc]
      exact wind_blow_gt (gL t 0) (gL t 1) (gL t 2) (gL t 3) (gL t 4) (gL t 5) (gL t 6) (gL t 7) (gL t 8) (gL t 9) (gL t 10) (gL t 11) (gL t 12) (gL t 13) (gL t 14) (gL t 15) (gL t 16) (gL t 17) (gL t 18) (gL t 19) (now t d f) (dg l.toNat) (gL t (1 + d.toNat)) (dg f.toNat) d f l r p (d.toNat - 1) w nl (by omega) l11 h1 FL FF hd hk hw k8 hn
    · rw [if_neg h1]
      by_cases h2 : l < f
      · rw [if_pos h2, ← List.append_assoc]
        exact wind_blow_lt (gL t 0) (gL t 1) (gL t 2) (gL t 3) (gL t 4) (gL t 5) (gL t 6) (gL t 7) (gL t 8) (gL t 9) (gL t 10) (gL t 11) (gL t 12) (gL t 13) (gL t 14) (gL t 15) (gL t 16) (gL t 17) (gL t 18) (gL t 19) (now t d f) (dg l.toNat) (gL t (1 + d.toNat)) (dg f.toNat) d f l r p (d.toNat - 1) w nl (by omega) l12 h2 FL FF hd hk hw k8 hn
      · rw [if_neg h2, List.append_nil]
        exact wind_blow_eq (gL t 0) (gL t 1) (gL t 2) (gL t 3) (gL t 4) (gL t 5) (gL t 6) (gL t 7) (gL t 8) (gL t 9) (gL t 10) (gL t 11) (gL t 12) (gL t 13) (gL t 14) (gL t 15) (gL t 16) (gL t 17) (gL t 18) (gL t 19) (now t d f) (dg l.toNat) (gL t (1 + d.toNat)) (dg f.toNat) d f l r p (d.toNat - 1) w nl (by omega) FL FF hd hk hw k8 hn
theorem irain_any (t d f l r p : Int) (w : World) (ht : t = 1 ∨ t = 2 ∨ t = 3) (hs : Sk d f l r p) (hT : Tb w) :
    Calls Tryd.prog 30 #[lex (lxs t), .agg #[.int .i64 d, .int .i64 f, .int .i64 l, .int .i64 r, .int .i64 p]] w fun e w' => e = .returned (.string ⟨(rtx t r p).toArray⟩) ∧ Below w.heap.size w w' := by
  rw [lex_gL t ht]
  have FP : ∀ X, Below w.heap.size w X → Calls Tryd.prog 41 #[.int .i64 p, .int .i64 10] X fun e w' => e = .returned (.string ⟨(dg p.toNat).toArray⟩) ∧ Below X.heap.size X w' := fun X hb => fmt_int p X hs.p.1 (by have := hs.p; omega) (hT.keep hb)
  unfold rtx
  by_cases hr : r = 0
  · rw [if_pos hr]
    exact rain_dry (gL t 0) (gL t 1) (gL t 2) (gL t 3) (gL t 4) (gL t 5) (gL t 6) (gL t 7) (gL t 8) (gL t 9) (gL t 10) (gL t 11) (gL t 12) (gL t 13) (gL t 14) (gL t 15) (gL t 16) (gL t 17) (gL t 18) (gL t 19) d f l r p w hr
  · rw [if_neg hr]
    have hrr := hs.r
    have hk := thr t r (by omega) (by omega)
    have hw : IntKind.i64.wrap (r - 1) = ((r.toNat - 1 : Nat) : Int) := by rw [IntWalk.i64_in _ (by omega)]; omega
    have a1 := lens t (13 + r.toNat)
    have a2 := lens t 17
    have a3 := lens t 18
    have a4 := lens t 19
    have a5 : (dg p.toNat).length ≤ p.toNat + 1 := dec_len p.toNat
    have a6 := hs.p
    by_cases hp : p = 1
    · rw [if_pos hp]
      exact rain_one (gL t 0) (gL t 1) (gL t 2) (gL t 3) (gL t 4) (gL t 5) (gL t 6) (gL t 7) (gL t 8) (gL t 9) (gL t 10) (gL t 11) (gL t 12) (gL t 13) (gL t 14) (gL t 15) (gL t 16) (gL t 17) (gL t 18) (gL t 19) (gL t (13 + r.toNat)) (dg p.toNat) d f l r p (r.toNat - 1) w hr hp hk hw (by omega) (by omega) FP
    · rw [if_neg hp]
      exact rain_more (gL t 0) (gL t 1) (gL t 2) (gL t 3) (gL t 4) (gL t 5) (gL t 6) (gL t 7) (gL t 8) (gL t 9) (gL t 10) (gL t 11) (gL t 12) (gL t 13) (gL t 14) (gL t 15) (gL t 16) (gL t 17) (gL t 18) (gL t 19) (gL t (13 + r.toNat)) (dg p.toNat) d f l r p (r.toNat - 1) w hr hp hk hw (by omega) (by omega) FP
theorem swind_any (t d f l r p : Int) (w : World) (ht : t = 1 ∨ t = 2 ∨ t = 3) (hs : Sk d f l r p) :
    Calls Tryd.prog 15 #[.agg #[.int .i64 d, .int .i64 f, .int .i64 l, .int .i64 r, .int .i64 p], .int .i64 t] w fun e w' => e = .returned (.string ⟨(now t d f).toArray⟩) ∧ Below w.heap.size w w' := by
  have SD : ∀ X, Calls Tryd.prog 32 #[.int .i64 t, .int .i64 d] X fun e w' => e = .returned (.string ⟨(dn t d).toArray⟩) ∧ Below X.heap.size X w' := fun X => sdir_any t d X ht hs.d.1 hs.d.2
  have FD : ∀ X, Calls Tryd.prog 33 #[.int .i64 f] X fun e w' => e = .returned (.string ⟨(dg f.toNat).toArray⟩) ∧ Below X.heap.size X w' := fun X => dec_int f X hs.f.1 (by have := hs.f; omega)
  have g := dgl f.toNat (by have := hs.f; omega)
  by_cases hd : d = 0
  · have hn : now t d f = gL t 0 := by unfold now; rw [if_pos hd]
    rw [hn]
    rcases ht with rfl | rfl | rfl
    · exact swind_calm1 d f l r p _ _ w hd SD FD
    · exact swind_calm2 d f l r p _ _ w hd SD FD
    · exact swind_calm3 d f l r p _ _ w hd SD FD
  · have hn : now t d f = gL t 1 ++ gL t (1 + d.toNat) ++ gL t 10 ++ dg f.toNat := by unfold now; rw [if_neg hd]
    have hdn : dn t d = gL t (1 + d.toNat) := by unfold dn; rw [if_neg hd]
    have a1 := lens t (1 + d.toNat)
    rw [← hdn] at hn a1
    rcases ht with rfl | rfl | rfl
    · exact swind_blow1 d f l r p (dn 1 d) (dg f.toNat) _ w hd (by omega) (by omega) (hn.trans rfl) SD FD
    · exact swind_blow2 d f l r p (dn 2 d) (dg f.toNat) _ w hd (by omega) (by omega) (hn.trans rfl) SD FD
    · exact swind_blow3 d f l r p (dn 3 d) (dg f.toNat) _ w hd (by omega) (by omega) (hn.trans rfl) SD FD
theorem slater_any (t d f l r p : Int) (w : World) (ht : t = 1 ∨ t = 2 ∨ t = 3) (hs : Sk d f l r p) :
    Calls Tryd.prog 16 #[.agg #[.int .i64 d, .int .i64 f, .int .i64 l, .int .i64 r, .int .i64 p], .int .i64 t] w fun e w' => e = .returned (.string ⟨(ltr t f l).toArray⟩) ∧ Below w.heap.size w w' := by
  have FD : ∀ X, Calls Tryd.prog 33 #[.int .i64 l] X fun e w' => e = .returned (.string ⟨(dg l.toNat).toArray⟩) ∧ Below X.heap.size X w' := fun X => dec_int l X hs.l.1 (by have := hs.l; omega)
  have g := dgl l.toNat (by have := hs.l; omega)
  unfold ltr
  by_cases h1 : f < l
  · rw [if_pos h1]
    rcases ht with rfl | rfl | rfl
    · exact slater_gt1 d f l r p _ _ w h1 (by omega) rfl FD
    · exact slater_gt2 d f l r p _ _ w h1 (by omega) rfl FD
    · exact slater_gt3 d f l r p _ _ w h1 (by omega) rfl FD
  · rw [if_neg h1]
    by_cases h2 : l < f
    · rw [if_pos h2]
      rcases ht with rfl | rfl | rfl
      · exact slater_lt1 d f l r p _ _ w h2 (by omega) rfl FD
      · exact slater_lt2 d f l r p _ _ w h2 (by omega) rfl FD
      · exact slater_lt3 d f l r p _ _ w h2 (by omega) rfl FD
    · rw [if_neg h2]
      exact slater_eq d f l r p t w (by omega)
theorem srain_any (t d f l r p : Int) (w : World) (ht : t = 1 ∨ t = 2 ∨ t = 3) (hs : Sk d f l r p) :
    Calls Tryd.prog 26 #[.agg #[.int .i64 d, .int .i64 f, .int .i64 l, .int .i64 r, .int .i64 p], .int .i64 t] w fun e w' => e = .returned (.string ⟨(rtx t r p).toArray⟩) ∧ Below w.heap.size w w' := by
  have FD : ∀ X, Calls Tryd.prog 33 #[.int .i64 p] X fun e w' => e = .returned (.string ⟨(dg p.toNat).toArray⟩) ∧ Below X.heap.size X w' := fun X => dec_int p X hs.p.1 (by have := hs.p; omega)
  have g : (dg p.toNat).length ≤ p.toNat + 1 := dec_len p.toNat
  have hp := hs.p
  have hr := hs.r
  unfold rtx
  by_cases h0 : r = 0
  · rw [if_pos h0]
    rcases ht with rfl | rfl | rfl
    · exact srain_dry1 d f l r p w h0
    · exact srain_dry2 d f l r p w h0
    · exact srain_dry3 d f l r p w h0
  · rw [if_neg h0]
    by_cases h1 : p = 1
    · rw [if_pos h1]
      rcases ht with rfl | rfl | rfl
      all_goals rcases (by omega : r = 1 ∨ r = 2 ∨ r = 3) with rfl | rfl | rfl
      · exact srain_one11 d f l _ p (dg p.toNat) _ w rfl h1 (by omega) (by simp [gL, lxs, LA]) FD
      · exact srain_one12 d f l _ p (dg p.toNat) _ w rfl h1 (by omega) (by simp [gL, lxs, LA]) FD
      · exact srain_one13 d f l _ p (dg p.toNat) _ w rfl h1 (by omega) (by simp [gL, lxs, LA]) FD
      · exact srain_one21 d f l _ p (dg p.toNat) _ w rfl h1 (by omega) (by simp [gL, lxs, LB]) FD
      · exact srain_one22 d f l _ p (dg p.toNat) _ w rfl h1 (by omega) (by simp [gL, lxs, LB]) FD
      · exact srain_one23 d f l _ p (dg p.toNat) _ w rfl h1 (by omega) (by simp [gL, lxs, LB]) FD
      · exact srain_one31 d f l _ p (dg p.toNat) _ w rfl h1 (by omega) (by simp [gL, lxs, LC]) FD
      · exact srain_one32 d f l _ p (dg p.toNat) _ w rfl h1 (by omega) (by simp [gL, lxs, LC]) FD
      · exact srain_one33 d f l _ p (dg p.toNat) _ w rfl h1 (by omega) (by simp [gL, lxs, LC]) FD
    · rw [if_neg h1]
      rcases ht with rfl | rfl | rfl
      all_goals rcases (by omega : r = 1 ∨ r = 2 ∨ r = 3) with rfl | rfl | rfl
      · exact srain_more11 d f l _ p (dg p.toNat) _ w rfl h1 (by omega) (by simp [gL, lxs, LA]) FD
      · exact srain_more12 d f l _ p (dg p.toNat) _ w rfl h1 (by omega) (by simp [gL, lxs, LA]) FD
      · exact srain_more13 d f l _ p (dg p.toNat) _ w rfl h1 (by omega) (by simp [gL, lxs, LA]) FD
      · exact srain_more21 d f l _ p (dg p.toNat) _ w rfl h1 (by omega) (by simp [gL, lxs, LB]) FD
      · exact srain_more22 d f l _ p (dg p.toNat) _ w rfl h1 (by omega) (by simp [gL, lxs, LB]) FD
      · exact srain_more23 d f l _ p (dg p.toNat) _ w rfl h1 (by omega) (by simp [gL, lxs, LB]) FD
      · exact srain_more31 d f l _ p (dg p.toNat) _ w rfl h1 (by omega) (by simp [gL, lxs, LC]) FD
      · exact srain_more32 d f l _ p (dg p.toNat) _ w rfl h1 (by omega) (by simp [gL, lxs, LC]) FD
      · exact srain_more33 d f l _ p (dg p.toNat) _ w rfl h1 (by omega) (by simp [gL, lxs, LC]) FD
end Go.Proofs.YtnbhfjcpimdnlaaDoor.Ph
