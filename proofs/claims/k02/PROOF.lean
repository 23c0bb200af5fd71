import PyProof.Rows.All
import Wide.All
import OpenK.AllK
import Wide.FinOn
import HandS.ForExc
import HandS.Evl
import HandS.Wide
import HandS.Gcd
import HandS.IsInst
import HandS.Flow
import HandS.HotCalls
import HandS.ExcIs
import KE.DataFind
import HandS.Comp
import HandS.Dict
import HandS.Style
import HandS.WideBits
import HandS.Zip
import Flt.RightSqrt
import PySem.Challenge.RW_seatclocks_k02_roots_told
set_option Elab.async false
set_option linter.all false
set_option maxRecDepth 100000
set_option maxHeartbeats 2000000
namespace Z
open PySem PySem.Spec PyProof.Rows L2
open Evl (Ex)

/-! ### data: what a value stands for -/
inductive Dt where
  | non | bl (b : Bool) | int (i : Int) | str (x : Str) | tup (ds : List Dt) | lst (ds : List Dt) | dct

mutual
def py : Dt → Option PyData
  | .non => some .none
  | .bl b => some (.bool b)
  | .int i => some (.int i)
  | .str x => some (.str x)
  | .tup ds => match pys ds with
    | some xs => some (.tuple xs)
    | none => none
  | .lst ds => match pys ds with
    | some xs => some (.list xs)
    | none => none
  | .dct => none
def pys : List Dt → Option (List PyData)
  | [] => some []
  | d :: ds => match py d, pys ds with
    | some x, some xs => some (x :: xs)
    | _, _ => none
end

mutual
inductive Rp (K : PySem.W.Frag) (H : Hp) : V → Dt → Prop
  | non : Rp K H .non .non
  | bl (b : Bool) : Rp K H (.bl b) (.bl b)
  | int (i : Int) : Rp K H (.int i) (.int i)
  | str (x : Str) : Rp K H (.str x) (.str x)
  | tup {a : Addr} {xs : List V} {ds : List Dt} : SqT K H a xs → Rps K H xs ds → Rp K H (.ref a) (.tup ds)
  | lst {a : Addr} {xs : List V} {ds : List Dt} : SqL K H a xs → Rps K H xs ds → Rp K H (.ref a) (.lst ds)
  | dct {a : Addr} : H a = some (.dK []) → Rp K H (.ref a) .dct
inductive Rps (K : PySem.W.Frag) (H : Hp) : List V → List Dt → Prop
  | nil : Rps K H [] []
  | cons {v : V} {vs : List V} {d : Dt} {ds : List Dt} : Rp K H v d → Rps K H vs ds → Rps K H (v :: vs) (d :: ds)
end

mutual
theorem Rp.mono {K : PySem.W.Frag} {G H : Hp} (e : Ex G H) : ∀ {v : V} {d : Dt}, Rp K G v d → Rp K H v d
  | _, _, .non => .non
  | _, _, .bl b => .bl b
  | _, _, .int i => .int i
  | _, _, .str x => .str x
  | _, _, .tup h r => .tup (Evl.ex_t e h) (Rps.mono e r)
  | _, _, .lst h r => .lst (Evl.ex_l e h) (Rps.mono e r)
  | _, _, .dct h => .dct (e _ _ h)
theorem Rps.mono {K : PySem.W.Frag} {G H : Hp} (e : Ex G H) : ∀ {vs : List V} {ds : List Dt}, Rps K G vs ds → Rps K H vs ds
  | _, _, .nil => .nil
  | _, _, .cons h r => .cons (Rp.mono e h) (Rps.mono e r)
end
theorem Rps.length {K : PySem.W.Frag} {H : Hp} : ∀ {vs : List V} {ds : List Dt}, Rps K H vs ds → vs.length = ds.length
  | _, _, .nil => rfl
  | _, _, .cons _ r => congrArg (· + 1) (Rps.length r)
theorem Rps.get {K : PySem.W.Frag} {H : Hp} : ∀ {vs : List V} {ds : List Dt} {i : Nat} {d : Dt}, Rps K H vs ds → ds[i]? = some d → ∃ v, vs[i]? = some v ∧ Rp K H v d
  | _, _, _, _, .nil, e => by simp at e
  | _, _, 0, _, .cons r _, e => by simp at e; subst e; exact ⟨_, rfl, r⟩
  | _, _, i + 1, _, .cons _ t, e => by
    obtain ⟨v, h1, h2⟩ := Rps.get (i := i) t (by simpa using e)
    exact ⟨v, by simpa using h1, h2⟩
theorem Rps.append {K : PySem.W.Frag} {H : Hp} : ∀ {vs ws : List V} {ds es : List Dt}, Rps K H vs ds → Rps K H ws es → Rps K H (vs ++ ws) (ds ++ es)
  | _, _, _, _, .nil, s => s
  | _, _, _, _, .cons r t, s => .cons r (Rps.append t s)

mutual
theorem Rp.dp {K : PySem.W.Frag} {H : Hp} : ∀ {v : V} {d : Dt} {x : PyData}, Rp K H v d → py d = some x → Dp K H v x
  | _, _, _, .non, e => by cases e; exact .non
  | _, _, _, .bl b, e => by cases e; exact .bl b
  | _, _, _, .int i, e => by cases e; exact .int i
  | _, _, _, .str x, e => by cases e; exact .str x
  | _, .tup ds, _, .tup h r, e => by
    cases q : pys ds with
    | none => simp only [py, q] at e; cases e
    | some xs =>
      simp only [py, q] at e
      cases e
      exact .tup h (Rps.dp r q)
  | _, .lst ds, _, .lst h r, e => by
    cases q : pys ds with
    | none => simp only [py, q] at e; cases e
    | some xs =>
      simp only [py, q] at e
      cases e
      exact .lst h (Rps.dp r q)
  | _, _, _, .dct h, e => by simp only [py] at e; cases e
theorem Rps.dp {K : PySem.W.Frag} {H : Hp} : ∀ {vs : List V} {ds : List Dt} {xs : List PyData}, Rps K H vs ds → pys ds = some xs → DpAll K H vs xs
  | _, _, _, .nil, e => by cases e; exact .nil
  | _, d :: ds, _, .cons h r, e => by
    cases q : py d with
    | none => simp only [pys, q] at e; cases e
    | some x =>
      cases q2 : pys ds with
      | none => simp only [pys, q, q2] at e; cases e
      | some xs =>
        simp only [pys, q, q2] at e
        cases e
        exact .cons (Rp.dp h q) (Rps.dp r q2)
end

/-! ### heaps: G what is known for good, H what stands -/
structure Nx (G H G2 H2 : Hp) : Prop where
  g : Ex G G2
  h : Ex H H2
  k : Ex G2 H2
  f : ∀ a, G a = none → H a ≠ none → G2 a = none
theorem Nx.refl {G H : Hp} (k : Ex G H) : Nx G H G H := ⟨Ex.refl G, Ex.refl H, k, fun _ h _ => h⟩
theorem ne_none {H H' : Hp} (e : Ex H H') {a : Addr} (h : H a ≠ none) : H' a ≠ none := by
  cases q : H a with
  | none => exact absurd q h
  | some o =>
    rw [e a o q]
    intro z
    cases z
theorem Nx.trans {G H G2 H2 G3 H3 : Hp} (a : Nx G H G2 H2) (b : Nx G2 H2 G3 H3) : Nx G H G3 H3 :=
  ⟨a.g.trans b.g, a.h.trans b.h, b.k, fun x h1 h2 => b.f x (a.f x h1 h2) (ne_none a.h h2)⟩
theorem ex_both {G H : Hp} {p : Addr} {o : HO} (k : Ex G H) : Ex (upd G p o) (upd H p o) := fun a u e => by
  by_cases h : a = p
  · subst h
    rw [upd_same] at e ⊢
    exact e
  · rw [upd_ne h] at e ⊢
    exact k a u e
theorem free_of {G H : Hp} (k : Ex G H) {p : Addr} (h : H p = none) : G p = none := by
  cases q : G p with
  | none => rfl
  | some o =>
    rw [k p o q] at h
    cases h
theorem Nx.new {G H : Hp} {p : Addr} {o : HO} (k : Ex G H) (h : H p = none) : Nx G H (upd G p o) (upd H p o) :=
  ⟨Ex.new (free_of k h), Ex.new h, ex_both k, fun a h1 h2 => by
    by_cases e : a = p
    · subst e
      exact absurd h h2
    · rw [upd_ne e]
      exact h1⟩

/-! ### slots -/
inductive Sl where
  | no | d (x : Dt) | raw (v : V)
inductive SlOk (K : PySem.W.Frag) (G : Hp) : Option V → Sl → Prop
  | no (o : Option V) : SlOk K G o .no
  | d {v : V} {x : Dt} (h : Rp K G v x) : SlOk K G (some v) (.d x)
  | raw (v : V) : SlOk K G (some v) (.raw v)
abbrev FrD (K : PySem.W.Frag) (G : Hp) : L2.St → List Sl → Prop := Paired (SlOk K G)
theorem SlOk.mono {K : PySem.W.Frag} {G G2 : Hp} (e : Ex G G2) {o : Option V} {s : Sl} (h : SlOk K G o s) : SlOk K G2 o s := by
  cases h with
  | no => exact .no _
  | d h => exact .d (h.mono e)
  | raw => exact .raw _
theorem FrD.mono {K : PySem.W.Frag} {G G2 : Hp} (e : Ex G G2) {σ : L2.St} {sl : List Sl} (h : FrD K G σ sl) : FrD K G2 σ sl := Paired.mapP h fun _ _ z => z.mono e
theorem frd_get {K : PySem.W.Frag} {G : Hp} : ∀ {σ : L2.St} {sl : List Sl} {i : Nat} {x : Dt}, FrD K G σ sl → sl[i]? = some (.d x) → ∃ v, σ[i]? = some (some v) ∧ Rp K G v x
  | _, _, _, _, .nil, e => by simp at e
  | _, _, 0, _, .cons r _, e => by
    simp at e
    subst e
    cases r with
    | d h => exact ⟨_, rfl, h⟩
  | _, _, i + 1, _, .cons _ t, e => by
    obtain ⟨v, h1, h2⟩ := frd_get (i := i) t (by simpa using e)
    exact ⟨v, by simpa using h1, h2⟩
theorem frd_raw {K : PySem.W.Frag} {G : Hp} : ∀ {σ : L2.St} {sl : List Sl} {i : Nat} {x : V}, FrD K G σ sl → sl[i]? = some (.raw x) → σ[i]? = some (some x)
  | _, _, _, _, .nil, e => by simp at e
  | _, _, 0, _, .cons r _, e => by
    simp at e
    subst e
    cases r with
    | raw => rfl
  | _, _, i + 1, _, .cons _ t, e => by
    have h1 := frd_raw (i := i) t (by simpa using e)
    simpa using h1
theorem frd_set {K : PySem.W.Frag} {G : Hp} {s : Sl} {v : V} (hs : SlOk K G (some v) s) : ∀ {σ : L2.St} {sl : List Sl} (i : Nat), FrD K G σ sl → FrD K G (σ.set i (some v)) (sl.set i s)
  | _, _, _, .nil => .nil
  | _, _, 0, .cons _ t => .cons hs t
  | _, _, i + 1, .cons r t => .cons r (frd_set hs i t)
theorem frd_start {K : PySem.W.Frag} {G : Hp} : ∀ {vs : List V} {ds : List Dt} (n : Nat), Rps K G vs ds → FrD K G (vs.map some ++ List.replicate n none) (ds.map Sl.d ++ List.replicate n .no)
  | _, _, n, .nil => by
    induction n with
    | zero => exact .nil
    | succ n ih =>
      show FrD K G (List.replicate (n + 1) none) (List.replicate (n + 1) Sl.no)
      rw [List.replicate_succ, List.replicate_succ]
      exact .cons (.no _) (by simpa using ih)
  | _, _, n, .cons h r => .cons (.d h) (frd_start n r)

/-! ### what an expression gives, from the data in the slots -/
def Ev (K : PySem.W.Frag) (te : TE) (sl : List Sl) (x : Dt) : Prop := ∀ (G H : Hp) (σ : L2.St), Ex G H → FrD K G σ sl → ∀ Q : VK, (∀ v G2 H2, Nx G H G2 H2 → Rp K G2 v x → Q v H2) → te σ H Q
def EvT (K : PySem.W.Frag) (tt : TT) (sl : List Sl) (b : Bool) : Prop := ∀ (G H : Hp) (σ : L2.St), Ex G H → FrD K G σ sl → ∀ Q : Bool → Hp → Prop, (∀ G2 H2, Nx G H G2 H2 → Q b H2) → tt σ H Q
def EvA (K : PySem.W.Frag) (ta : TA) (sl : List Sl) (xs : List Dt) : Prop := ∀ (G H : Hp) (σ : L2.St), Ex G H → FrD K G σ sl → ∀ Q : List V → Hp → Prop, (∀ vs G2 H2, Nx G H G2 H2 → Rps K G2 vs xs → Q vs H2) → ta σ H Q
/-- two data by an operator's rule; one; a list of them by a built-in's -/
def R2D (K : PySem.W.Frag) (r : R2) (x y z : Dt) : Prop := ∀ (G H : Hp), Ex G H → ∀ v w, Rp K G v x → Rp K G w y → ∀ Q : VK, (∀ u G2 H2, Nx G H G2 H2 → Rp K G2 u z → Q u H2) → r v w H Q
def R1D (K : PySem.W.Frag) (r : V → Hp → VK → Prop) (x z : Dt) : Prop := ∀ (G H : Hp), Ex G H → ∀ v, Rp K G v x → ∀ Q : VK, (∀ u G2 H2, Nx G H G2 H2 → Rp K G2 u z → Q u H2) → r v H Q
def RcD (K : PySem.W.Frag) (r : List V → Hp → VK → Prop) (xs : List Dt) (z : Dt) : Prop := ∀ (G H : Hp), Ex G H → ∀ vs, Rps K G vs xs → ∀ Q : VK, (∀ u G2 H2, Nx G H G2 H2 → Rp K G2 u z → Q u H2) → r vs H Q

/-- what a def that changes nothing promises: R (its arguments' data) (its answer's data) -/
def spP (K : PySem.W.Frag) (R : List Dt → Dt → Prop) : Sp := fun vs H Q _ => ∃ (ds : List Dt) (x : Dt) (G : Hp), Ex G H ∧ Rps K G vs ds ∧ R ds x ∧ ∀ v G2 H2, Nx G H G2 H2 → Rp K G2 v x → Q v H2
/-- the same where it may raise an error of the class cls with no dict of its own -/
def spX (K : PySem.W.Frag) (R : List Dt → Dt → Prop) (X : List Dt → Value → Prop) : Sp := fun vs H Q E => ∃ (ds : List Dt) (G : Hp), Ex G H ∧ Rps K G vs ds ∧
  ((∃ x, R ds x ∧ ∀ v G2 H2, Nx G H G2 H2 → Rp K G2 v x → Q v H2) ∨ (∃ cls, X ds cls ∧ ∀ G2 H2, Nx G H G2 H2 → E cls none H2))

section
variable {K : PySem.W.Frag} {sl : List Sl} {ta tb te tc : TE} {t u : TT} {x y z : Dt} {r : R2}
theorem ev_var {i : Nat} (h : sl[i]? = some (.d x)) : Ev K (tVar i) sl x := fun G H σ k f Q q => by
  obtain ⟨v, h1, h2⟩ := frd_get f h
  exact ⟨v, h1, q v G H (.refl k) h2⟩
theorem ev_int {i : Int} : Ev K (tC (.int i)) sl (.int i) := fun G H σ k f Q q => q _ G H (.refl k) (.int i)
theorem ev_bl {b : Bool} : Ev K (tC (.bl b)) sl (.bl b) := fun G H σ k f Q q => q _ G H (.refl k) (.bl b)
theorem ev_str {s : Str} : Ev K (tC (.str s)) sl (.str s) := fun G H σ k f Q q => q _ G H (.refl k) (.str s)
theorem ev_non : Ev K (tC .non) sl .non := fun G H σ k f Q q => q _ G H (.refl k) .non
theorem ev_is (h : Ev K te sl x) (e : x = y) : Ev K te sl y := e ▸ h
theorem ev_op (ha : Ev K ta sl x) (hb : Ev K tb sl y) (hr : R2D K r x y z) : Ev K (tOp r ta tb) sl z := fun G H σ k f Q q =>
  ha G H σ k f _ fun v G1 H1 n1 r1 => hb G1 H1 σ n1.k (FrD.mono n1.g f) _ fun w G2 H2 n2 r2 => hr G2 H2 n2.k v w (r1.mono n2.g) r2 Q fun u G3 H3 n3 r3 => q u G3 H3 ((n1.trans n2).trans n3) r3
theorem ev_un {r : V → Hp → VK → Prop} (ha : Ev K ta sl x) (hr : R1D K r x z) : Ev K (tUn r ta) sl z := fun G H σ k f Q q =>
  ha G H σ k f _ fun v G1 H1 n1 r1 => hr G1 H1 n1.k v r1 Q fun u G2 H2 n2 r2 => q u G2 H2 (n1.trans n2) r2
theorem r2_I0 {g : Int → Int → V} {i j : Int} {d : Dt} (h : ∀ G, Rp K G (g i j) d) : R2D K (rI0 g) (.int i) (.int j) d := fun G H k v w r1 r2 Q q => by
  cases r1
  cases r2
  exact ⟨i, j, rfl, rfl, q _ G H (.refl k) (h G)⟩
theorem r2_I {C : Int → Int → Prop} {g : Int → Int → V} {i j : Int} {d : Dt} (hc : C i j) (h : ∀ G, Rp K G (g i j) d) : R2D K (rI C g) (.int i) (.int j) d := fun G H k v w r1 r2 Q q => by
  cases r1
  cases r2
  exact ⟨i, j, rfl, rfl, hc, q _ G H (.refl k) (h G)⟩
theorem r2_add {i j : Int} : R2D K (rI0 fun i j => .int (i + j)) (.int i) (.int j) (.int (i + j)) := r2_I0 fun _ => .int _
theorem r2_sub {i j : Int} : R2D K (rI0 fun i j => .int (i - j)) (.int i) (.int j) (.int (i - j)) := r2_I0 fun _ => .int _
theorem r2_lt {i j : Int} : R2D K (rI0 fun i j => .bl (decide (i < j))) (.int i) (.int j) (.bl (decide (i < j))) := r2_I0 fun _ => .bl _
theorem r2_le {i j : Int} : R2D K (rI0 fun i j => .bl (decide (i ≤ j))) (.int i) (.int j) (.bl (decide (i ≤ j))) := r2_I0 fun _ => .bl _
theorem r2_gt {i j : Int} : R2D K (rI0 fun i j => .bl (decide (j < i))) (.int i) (.int j) (.bl (decide (j < i))) := r2_I0 fun _ => .bl _
theorem r2_ge {i j : Int} : R2D K (rI0 fun i j => .bl (decide (j ≤ i))) (.int i) (.int j) (.bl (decide (j ≤ i))) := r2_I0 fun _ => .bl _
theorem r2_mul {C : Int → Int → Prop} {i j : Int} (h : C i j) : R2D K (rI C fun i j => .int (i * j)) (.int i) (.int j) (.int (i * j)) := r2_I h fun _ => .int _
theorem r2_mod {i j : Int} (h : j ≠ 0) : R2D K (rI (fun _ j => j ≠ 0) fun i j => .int (i.fmod j)) (.int i) (.int j) (.int (i.fmod j)) := r2_I (C := fun _ j => j ≠ 0) h fun _ => .int _
/-- // by a divisor not 0 below 2 ^ 9000 in size -/
def CDivA (_ j : Int) : Prop := j ≠ 0 ∧ j.natAbs.log2 < 9000
theorem r2_div {i j : Int} (h : CDivA i j) : R2D K (rI CDivA fun i j => .int (i.fdiv j)) (.int i) (.int j) (.int (i.fdiv j)) := r2_I h fun _ => .int _
theorem r2_pow {i j : Int} (h : CPow i j) : R2D K (rI CPow fun i j => .int (i ^ j.toNat)) (.int i) (.int j) (.int (i ^ j.toNat)) := r2_I h fun _ => .int _
theorem r1_neg {i : Int} : R1D K (rU fun i => .int (-i)) (.int i) (.int (-i)) := fun G H k v r Q q => by
  cases r
  exact ⟨i, rfl, q _ G H (.refl k) (.int _)⟩
/-- == and != of data -/
theorem r2_eq {p q : PyData} (hx : py x = some p) (hy : py y = some q) (sx : SeqAt.shaped p = true) (sy : SeqAt.shaped q = true) : R2D K (rEqD K) x y (.bl (PyData.eqv p q)) := fun G H k v w r1 r2 Q qq =>
  ⟨p, q, (r1.mono k).dp hx, (r2.mono k).dp hy, sx, sy, qq _ G H (.refl k) (.bl _)⟩
theorem r2_ne {p q : PyData} (hx : py x = some p) (hy : py y = some q) (sx : SeqAt.shaped p = true) (sy : SeqAt.shaped q = true) : R2D K (rNeD K) x y (.bl (!PyData.eqv p q)) := fun G H k v w r1 r2 Q qq =>
  ⟨p, q, (r1.mono k).dp hx, (r2.mono k).dp hy, sx, sy, qq _ G H (.refl k) (.bl _)⟩
theorem sh_int (i : Int) : SeqAt.shaped (.int i) = true := rfl
theorem r2_eqI {i j : Int} : R2D K (rEqD K) (.int i) (.int j) (.bl (i == j)) := by
  have h := r2_eq (K := K) (x := .int i) (y := .int j) (p := .int i) (q := .int j) rfl rfl rfl rfl
  rwa [PyData.eqv] at h
theorem r2_neI {i j : Int} : R2D K (rNeD K) (.int i) (.int j) (.bl (!(i == j))) := by
  have h := r2_ne (K := K) (x := .int i) (y := .int j) (p := .int i) (q := .int j) rfl rfl rfl rfl
  rwa [PyData.eqv] at h
def isNon : Dt → Bool
  | .non => true
  | _ => false
theorem isNon_v {G : Hp} {v : V} (h : Rp K G v x) : decide (v = .non) = isNon x := by
  cases h <;> first | rfl | exact decide_eq_false (fun z => nomatch z)
def rIsN : R2 := fun x y H Q => y = .non ∧ Q (.bl (decide (x = .non))) H
def rNotN : R2 := fun x y H Q => y = .non ∧ Q (.bl (!decide (x = .non))) H
theorem op_isN1 {X : Cx} : OpR X (compareOp .Is) rIsN := op_isN
theorem op_notN1 {X : Cx} : OpR X (compareOp .IsNot) rNotN := op_notN
theorem r2_isN : R2D K rIsN x .non (.bl (isNon x)) := fun G H k v w r1 r2 Q q => by
  cases r2
  refine ⟨rfl, ?_⟩
  rw [isNon_v r1]
  exact q _ G H (.refl k) (.bl _)
theorem r2_notN : R2D K rNotN x .non (.bl (!isNon x)) := fun G H k v w r1 r2 Q q => by
  cases r2
  refine ⟨rfl, ?_⟩
  rw [isNon_v r1]
  exact q _ G H (.refl k) (.bl _)
/-! subscripts -/
theorem at_get {vs : List V} {ds : List Dt} {G : Hp} {i : Int} (r : Rps K G vs ds) (h : atI ds i = some x) : ∃ v, atI vs i = some v ∧ Rp K G v x := by
  unfold atI at h ⊢
  rw [r.length]
  cases q : ixN ds.length i with
  | none => rw [q] at h; cases h
  | some j =>
    rw [q] at h
    exact r.get h
theorem r2_ixT {ds : List Dt} {i : Int} (h : atI ds i = some x) : R2D K (rIx K) (.tup ds) (.int i) x := fun G H k v w r1 r2 Q q => by
  cases r2
  cases r1 with
  | tup hs rs =>
    obtain ⟨v, h1, h2⟩ := at_get rs h
    exact .inr (.inl ⟨_, _, i, v, rfl, rfl, Evl.ex_t k hs, h1, q v G H (.refl k) h2⟩)
theorem r2_ixL {ds : List Dt} {i : Int} (h : atI ds i = some x) : R2D K (rIx K) (.lst ds) (.int i) x := fun G H k v w r1 r2 Q q => by
  cases r2
  cases r1 with
  | lst hs rs =>
    obtain ⟨v, h1, h2⟩ := at_get rs h
    exact .inl ⟨_, _, i, v, rfl, rfl, Evl.ex_l k hs, h1, q v G H (.refl k) h2⟩
/-! arguments, displays -/
theorem ea_nil : EvA K tNil sl [] := fun G H σ k f Q q => q _ G H (.refl k) .nil
theorem ea_cons {tr : TA} {xs : List Dt} (ha : Ev K ta sl x) (hr : EvA K tr sl xs) : EvA K (tCons ta tr) sl (x :: xs) := fun G H σ k f Q q =>
  ha G H σ k f _ fun v G1 H1 n1 r1 => hr G1 H1 σ n1.k (FrD.mono n1.g f) _ fun vs G2 H2 n2 r2 => q _ G2 H2 (n1.trans n2) (.cons (r1.mono n2.g) r2)
theorem sz_ok {n : Nat} (h : n ≤ 100000) : n ≤ sizeLine := Nat.le_trans h (by decide)
theorem ev_tup {tr : TA} {xs : List Dt} (h : EvA K tr sl xs) (hn : xs.length ≤ 100000 := by exact Nat.le_of_ble_eq_true rfl) : Ev K (tTup tr) sl (.tup xs) := fun G H σ k f Q q =>
  h G H σ k f _ fun vs G1 H1 n1 r1 => ⟨by rw [r1.length]; exact sz_ok hn, fun p hp => q _ _ _ (n1.trans (.new n1.k hp)) (.tup (.inl (.inl upd_same)) (r1.mono (Ex.new (free_of n1.k hp))))⟩
theorem ev_lst {tr : TA} {xs : List Dt} (h : EvA K tr sl xs) (hn : xs.length ≤ 100000 := by exact Nat.le_of_ble_eq_true rfl) : Ev K (tLst tr) sl (.lst xs) := fun G H σ k f Q q =>
  h G H σ k f _ fun vs G1 H1 n1 r1 => ⟨by rw [r1.length]; exact sz_ok hn, fun p hp => q _ _ _ (n1.trans (.new n1.k hp)) (.lst (.inl (.inl upd_same)) (r1.mono (Ex.new (free_of n1.k hp))))⟩
/-! calls -/
theorem rps_nil {G : Hp} {vs : List V} {ds : List Dt} (r : Rps K G vs ds) : Rps K G (vs ++ []) ds := by
  rw [List.append_nil]
  exact r
theorem ev_call {tr : TA} {xs : List Dt} {R : List Dt → Dt → Prop} {E : XK} (h : EvA K tr sl xs) (hr : R xs x) : Ev K (tCall (spP K R) [] E tr) sl x := fun G H σ k f Q q =>
  h G H σ k f _ fun vs G1 H1 n1 r1 => ⟨xs, x, G1, n1.k, rps_nil r1, hr, fun v G2 H2 n2 r2 => q v G2 H2 (n1.trans n2) r2⟩
theorem ev_callX {tr : TA} {xs : List Dt} {R : List Dt → Dt → Prop} {XF : List Dt → Value → Prop} {E : XK} (h : EvA K tr sl xs) (hr : R xs x) : Ev K (tCall (spX K R XF) [] E tr) sl x := fun G H σ k f Q q =>
  h G H σ k f _ fun vs G1 H1 n1 r1 => ⟨xs, G1, n1.k, rps_nil r1, .inl ⟨x, hr, fun v G2 H2 n2 r2 => q v G2 H2 (n1.trans n2) r2⟩⟩
theorem ev_cb {tr : TA} {xs : List Dt} {rc : List V → Hp → VK → Prop} (h : EvA K tr sl xs) (hr : RcD K rc xs x) : Ev K (tCB rc tr) sl x := fun G H σ k f Q q =>
  h G H σ k f _ fun vs G1 H1 n1 r1 => hr G1 H1 n1.k vs r1 Q fun u G2 H2 n2 r2 => q u G2 H2 (n1.trans n2) r2
def rAbs : List V → Hp → VK → Prop := fun xs H Q => ∃ i, xs = [.int i] ∧ Q (.int (if i < 0 then -i else i)) H
def rMax2 : List V → Hp → VK → Prop := fun xs H Q => ∃ i j, xs = [.int i, .int j] ∧ Q (.int (if j > i then j else i)) H
def rMin2 : List V → Hp → VK → Prop := fun xs H Q => ∃ i j, xs = [.int i, .int j] ∧ Q (.int (if j < i then j else i)) H
theorem rps1 {G : Hp} {vs : List V} {d : Dt} (r : Rps K G vs [d]) : ∃ v, vs = [v] ∧ Rp K G v d := by
  cases r with
  | cons h t => cases t; exact ⟨_, rfl, h⟩
theorem rps2 {G : Hp} {vs : List V} {d e : Dt} (r : Rps K G vs [d, e]) : ∃ v w, vs = [v, w] ∧ Rp K G v d ∧ Rp K G w e := by
  cases r with
  | cons h t =>
    obtain ⟨w, rfl, h2⟩ := rps1 t
    exact ⟨_, _, rfl, h, h2⟩
theorem rc_abs {i : Int} : RcD K rAbs [.int i] (.int (i.natAbs : Int)) := fun G H k vs r Q q => by
  obtain ⟨v, rfl, h⟩ := rps1 r
  cases h
  refine ⟨i, rfl, ?_⟩
  have e : (if i < 0 then -i else i) = (i.natAbs : Int) := by split <;> omega
  rw [e]
  exact q _ G H (.refl k) (.int _)
theorem rc_max {i j : Int} : RcD K rMax2 [.int i, .int j] (.int (max i j)) := fun G H k vs r Q q => by
  obtain ⟨v, w, rfl, h1, h2⟩ := rps2 r
  cases h1
  cases h2
  refine ⟨i, j, rfl, ?_⟩
  have e : (if j > i then j else i) = max i j := by split <;> omega
  rw [e]
  exact q _ G H (.refl k) (.int _)
theorem rc_min {i j : Int} : RcD K rMin2 [.int i, .int j] (.int (min i j)) := fun G H k vs r Q q => by
  obtain ⟨v, w, rfl, h1, h2⟩ := rps2 r
  cases h1
  cases h2
  refine ⟨i, j, rfl, ?_⟩
  have e : (if j < i then j else i) = min i j := by split <;> omega
  rw [e]
  exact q _ G H (.refl k) (.int _)
theorem rc_gcd {i j : Int} : RcD K rGcd [.int i, .int j] (.int ((Nat.gcd i.natAbs j.natAbs : Nat) : Int)) := fun G H k vs r Q q => by
  obtain ⟨v, w, rfl, h1, h2⟩ := rps2 r
  cases h1
  cases h2
  exact ⟨i, j, rfl, q _ G H (.refl k) (.int _)⟩
def rLenS (K : PySem.W.Frag) : List V → Hp → VK → Prop := fun xs H Q => ∃ p ys, xs = [.ref p] ∧ (SqL K H p ys ∨ SqT K H p ys) ∧ Q (.int ys.length) H
theorem rc_lenT {ds : List Dt} : RcD K (rLenS K) [.tup ds] (.int (ds.length : Int)) := fun G H k vs r Q q => by
  obtain ⟨v, rfl, h⟩ := rps1 r
  cases h with
  | tup hs rs =>
    refine ⟨_, _, rfl, .inr (Evl.ex_t k hs), ?_⟩
    rw [rs.length]
    exact q _ G H (.refl k) (.int _)
theorem rc_lenL {ds : List Dt} : RcD K (rLenS K) [.lst ds] (.int (ds.length : Int)) := fun G H k vs r Q q => by
  obtain ⟨v, rfl, h⟩ := rps1 r
  cases h with
  | lst hs rs =>
    refine ⟨_, _, rfl, .inl (Evl.ex_l k hs), ?_⟩
    rw [rs.length]
    exact q _ G H (.refl k) (.int _)
/-! isinstance -/
def tyN : Dt → String
  | .non => "NoneType" | .bl _ => "bool" | .int _ => "int" | .str _ => "str" | .tup _ => "tuple" | .lst _ => "list" | .dct => "dict"
theorem tyx_of {H : Hp} {v : V} (h : Rp K H v x) : TyX K H v (.type (tyN x)) := by
  cases h with
  | non => exact .base .non
  | bl b => exact .base (.bl b)
  | int i => exact .base (.int i)
  | str s => exact .base (.str s)
  | tup hs _ =>
    rcases hs with (h | ⟨o, h⟩) | ⟨o, its, n, hl, hc, _⟩
    · exact .base (.tup h)
    · exact .fTuple h
    · exact .kTuple hl hc
  | lst hs _ =>
    rcases hs with (h | ⟨o, h⟩) | ⟨o, its, n, hl, hc, _⟩
    · exact .base (.lst h)
    · exact .base (.frz h)
    · exact .kList hl hc
  | dct h => exact .base (.dK h)
def isT (n : String) (d : Dt) : Bool := (kitB (tyN d) n).getD false
theorem ev_isi {n : String} {b : Bool} (h : Ev K ta sl x) (hb : kitB (tyN x) n = some b) : Ev K (tCB (rIsi K) (tCons ta (tCons (tC (.ty n)) tNil))) sl (.bl b) := fun G H σ k f Q q =>
  h G H σ k f _ fun v G1 H1 n1 r1 => ⟨v, .ty n, _, _, b, rfl, .ty n, tyx_of (r1.mono n1.k), kit_ty hb, q _ G1 H1 n1 (.bl b)⟩
theorem kb_ii : kitB "int" "int" = some true := by decide +kernel
theorem kb_ib : kitB "int" "bool" = some false := by decide +kernel
theorem kb_tt : kitB "tuple" "tuple" = some true := by decide +kernel
theorem kb_bb : kitB "bool" "bool" = some true := by decide +kernel
/-! tests, and | or | not -/
theorem et_test {b : Bool} (h : Ev K te sl (.bl b)) : EvT K (tTest te) sl b := fun G H σ k f Q q => h G H σ k f _ fun v G1 H1 n1 r1 => by
  cases r1
  exact ⟨b, rfl, q G1 H1 n1⟩
theorem et_B {b : Bool} (h : Ev K te sl (.bl b)) : EvT K (tB te) sl b := fun G H σ k f Q q => h G H σ k f _ fun v G1 H1 n1 r1 => by
  cases r1
  exact ⟨b, rfl, q G1 H1 n1⟩
theorem et_is {a b : Bool} (h : EvT K t sl a) (e : a = b) : EvT K t sl b := e ▸ h
theorem et_and {a b : Bool} (h1 : EvT K t sl a) (h2 : a = true → EvT K u sl b) : EvT K (tAnd t u) sl (a && b) := fun G H σ k f Q q => h1 G H σ k f _ fun G1 H1 n1 => by
  cases a with
  | true =>
    show u σ H1 Q
    exact h2 rfl G1 H1 σ n1.k (FrD.mono n1.g f) Q fun G2 H2 n2 => q G2 H2 (n1.trans n2)
  | false => exact q G1 H1 n1
theorem et_or {a b : Bool} (h1 : EvT K t sl a) (h2 : a = false → EvT K u sl b) : EvT K (tOr t u) sl (a || b) := fun G H σ k f Q q => h1 G H σ k f _ fun G1 H1 n1 => by
  cases a with
  | true => exact q G1 H1 n1
  | false =>
    show u σ H1 Q
    exact h2 rfl G1 H1 σ n1.k (FrD.mono n1.g f) Q fun G2 H2 n2 => q G2 H2 (n1.trans n2)
theorem et_not {a : Bool} (h : EvT K t sl a) : EvT K (tNot t) sl (!a) := fun G H σ k f Q q => h G H σ k f _ fun G1 H1 n1 => q G1 H1 n1
theorem ev_andV {a b : Bool} (h1 : Ev K ta sl (.bl a)) (h2 : a = true → Ev K tb sl (.bl b)) : Ev K (tAndV ta tb) sl (.bl (a && b)) := fun G H σ k f Q q => h1 G H σ k f _ fun v G1 H1 n1 r1 => by
  cases r1
  refine ⟨a, rfl, ?_⟩
  cases a with
  | true =>
    show tb σ H1 Q
    exact h2 rfl G1 H1 σ n1.k (FrD.mono n1.g f) Q fun v G2 H2 n2 => q v G2 H2 (n1.trans n2)
  | false => exact q _ G1 H1 n1 (.bl _)
theorem ev_orV {a b : Bool} (h1 : Ev K ta sl (.bl a)) (h2 : a = false → Ev K tb sl (.bl b)) : Ev K (tOrV ta tb) sl (.bl (a || b)) := fun G H σ k f Q q => h1 G H σ k f _ fun v G1 H1 n1 r1 => by
  cases r1
  refine ⟨a, rfl, ?_⟩
  cases a with
  | true => exact q _ G1 H1 n1 (.bl _)
  | false =>
    show tb σ H1 Q
    exact h2 rfl G1 H1 σ n1.k (FrD.mono n1.g f) Q fun v G2 H2 n2 => q v G2 H2 (n1.trans n2)
theorem ev_notV {a : Bool} (h1 : Ev K ta sl (.bl a)) : Ev K (tNotV ta) sl (.bl (!a)) := fun G H σ k f Q q => h1 G H σ k f _ fun v G1 H1 n1 r1 => by
  cases r1
  exact ⟨a, rfl, q _ G1 H1 n1 (.bl _)⟩
theorem ev_if {b : Bool} (h : EvT K t sl b) (h1 : b = true → Ev K ta sl x) (h2 : b = false → Ev K tb sl x) : Ev K (tIf t ta tb) sl x := fun G H σ k f Q q => h G H σ k f _ fun G1 H1 n1 => by
  cases b with
  | true =>
    show ta σ H1 Q
    exact h1 rfl G1 H1 σ n1.k (FrD.mono n1.g f) Q fun v G2 H2 n2 => q v G2 H2 (n1.trans n2)
  | false =>
    show tb σ H1 Q
    exact h2 rfl G1 H1 σ n1.k (FrD.mono n1.g f) Q fun v G2 H2 n2 => q v G2 H2 (n1.trans n2)
end

/-! ### statements that change nothing but slots: Nt goes on with other slots, Rt hands back -/
def Nt (K : PySem.W.Frag) (ts : TS) (sl sl2 : List Sl) : Prop := ∀ (G H : Hp) (σ : L2.St), Ex G H → FrD K G σ sl → ∀ D : Ends, (∀ σ2 G2 H2, Nx G H G2 H2 → FrD K G2 σ2 sl2 → D.nx σ2 H2) → ts D σ H
def Rt (K : PySem.W.Frag) (ts : TS) (sl : List Sl) (x : Dt) : Prop := ∀ (G H : Hp) (σ : L2.St), Ex G H → FrD K G σ sl → ∀ D : Ends, (∀ v G2 H2, Nx G H G2 H2 → Rp K G2 v x → D.rt v H2) → ts D σ H
section
variable {K : PySem.W.Frag} {sl sl1 sl2 : List Sl} {te : TE} {tc : TT} {x y : Dt} {t u : TS}
theorem nt_next : Nt K tNext sl sl := fun G H σ k f D q => q σ G H (.refl k) f
theorem nt_asg {i : Nat} (h : Ev K te sl x) : Nt K (tAsg te (gName i)) sl (sl.set i (.d x)) := fun G H σ k f D q =>
  h G H σ k f _ fun v G1 H1 n1 r1 => q _ G1 H1 n1 (frd_set (.d r1) i (FrD.mono n1.g f))
theorem nt_par {i j : Nat} {ta : TA} (h : EvA K ta sl [x, y]) : Nt K (tPar i j ta) sl ((sl.set i (.d x)).set j (.d y)) := fun G H σ k f D q =>
  h G H σ k f _ fun vs G1 H1 n1 r1 => by
    obtain ⟨v, w, rfl, h1, h2⟩ := rps2 r1
    exact ⟨v, w, rfl, q _ G1 H1 n1 (frd_set (.d h2) j (frd_set (.d h1) i (FrD.mono n1.g f)))⟩
/-- a, b = a pair -/
theorem nt_unp {i j : Nat} (h : Ev K te sl (.tup [x, y])) : Nt K (tAsg te (gTup K 2 (gCons (gName i) (gCons (gName j) gNil)))) sl ((sl.set i (.d x)).set j (.d y)) := fun G H σ k f D q =>
  h G H σ k f _ fun v G1 H1 n1 r1 => by
    cases r1 with
    | tup hs rs =>
      obtain ⟨v, w, rfl, h1, h2⟩ := rps2 rs
      exact ⟨_, _, rfl, Evl.ex_t n1.k hs, rfl, v, [w], rfl, w, [], rfl, rfl, q _ G1 H1 n1 (frd_set (.d h2) j (frd_set (.d h1) i (FrD.mono n1.g f)))⟩
theorem nt_drop (h : Ev K te sl x) : Nt K (tDrop te) sl sl := fun G H σ k f D q => h G H σ k f _ fun v G1 H1 n1 r1 => q _ G1 H1 n1 (FrD.mono n1.g f)
theorem nt_seq (h1 : Nt K t sl sl1) (h2 : Nt K u sl1 sl2) : Nt K (tSeq t u) sl sl2 := fun G H σ k f D q =>
  h1 G H σ k f _ fun σ1 G1 H1 n1 f1 => h2 G1 H1 σ1 n1.k f1 D fun σ2 G2 H2 n2 f2 => q σ2 G2 H2 (n1.trans n2) f2
theorem rt_seq (h1 : Nt K t sl sl1) (h2 : Rt K u sl1 x) : Rt K (tSeq t u) sl x := fun G H σ k f D q =>
  h1 G H σ k f _ fun σ1 G1 H1 n1 f1 => h2 G1 H1 σ1 n1.k f1 D fun v G2 H2 n2 r2 => q v G2 H2 (n1.trans n2) r2
theorem rt_seq1 (h1 : Rt K t sl x) : Rt K (tSeq t u) sl x := fun G H σ k f D q => h1 G H σ k f _ q
theorem rt_ret (h : Ev K te sl x) : Rt K (tRet te) sl x := fun G H σ k f D q => h G H σ k f _ q
theorem rt_is (h : Rt K t sl x) (e : x = y) : Rt K t sl y := e ▸ h
theorem nt_is (h : Nt K t sl sl1) (e : sl1 = sl2) : Nt K t sl sl2 := e ▸ h
theorem nt_if {b : Bool} (h : EvT K tc sl b) (h1 : b = true → Nt K t sl sl2) (h2 : b = false → Nt K u sl sl2) : Nt K (tIfS tc t u) sl sl2 := fun G H σ k f D q => h G H σ k f _ fun G1 H1 n1 => by
  cases b with
  | true =>
    show t D σ H1
    exact h1 rfl G1 H1 σ n1.k (FrD.mono n1.g f) D fun σ2 G2 H2 n2 => q σ2 G2 H2 (n1.trans n2)
  | false =>
    show u D σ H1
    exact h2 rfl G1 H1 σ n1.k (FrD.mono n1.g f) D fun σ2 G2 H2 n2 => q σ2 G2 H2 (n1.trans n2)
theorem rt_if {b : Bool} (h : EvT K tc sl b) (h1 : b = true → Rt K t sl x) (h2 : b = false → Rt K u sl x) : Rt K (tIfS tc t u) sl x := fun G H σ k f D q => h G H σ k f _ fun G1 H1 n1 => by
  cases b with
  | true =>
    show t D σ H1
    exact h1 rfl G1 H1 σ n1.k (FrD.mono n1.g f) D fun v G2 H2 n2 => q v G2 H2 (n1.trans n2)
  | false =>
    show u D σ H1
    exact h2 rfl G1 H1 σ n1.k (FrD.mono n1.g f) D fun v G2 H2 n2 => q v G2 H2 (n1.trans n2)
/-- if c: .. return; then the rest -/
theorem rt_cond {b : Bool} (h : EvT K tc sl b) (h1 : b = true → Rt K t sl x) (h2 : b = false → Rt K u sl x) : Rt K (tSeq (tIfS tc t tNext) u) sl x := fun G H σ k f D q => h G H σ k f _ fun G1 H1 n1 => by
  cases b with
  | true =>
    show t { D with nx := u D } σ H1
    exact h1 rfl G1 H1 σ n1.k (FrD.mono n1.g f) _ fun v G2 H2 n2 => q v G2 H2 (n1.trans n2)
  | false =>
    show u D σ H1
    exact h2 rfl G1 H1 σ n1.k (FrD.mono n1.g f) D fun v G2 H2 n2 => q v G2 H2 (n1.trans n2)
/-- the test is never true, the rest hands back -/
theorem rt_no {b : Bool} (h : EvT K tc sl b) (e : b = false) (k : Rt K u sl x) : Rt K (tSeq (tIfS tc t tNext) u) sl x := by
  subst e
  exact rt_cond h (fun z => by cases z) fun _ => k
theorem rt_yes {b : Bool} (h : EvT K tc sl b) (e : b = true) (k : Rt K t sl x) : Rt K (tSeq (tIfS tc t tNext) u) sl x := by
  subst e
  exact rt_cond h (fun _ => k) fun z => by cases z
/-- a while whose slots are told by a state: I holds, μ falls -/
theorem nt_while {α : Type} (S : α → List Sl) (I : α → Prop) (μ : α → Nat) (a0 : α) (i0 : I a0) (e0 : sl = S a0)
    (hs : ∀ a, I a → ∃ b, EvT K tc (S a) b ∧ (b = true → ∃ a', I a' ∧ μ a' < μ a ∧ Nt K t (S a) (S a')) ∧ (b = false → S a = sl2)) : Nt K (tWhile tc t) sl sl2 := fun G H σ k f D q => by
  subst e0
  refine ⟨fun m σ' H' => ∃ a G', m = μ a ∧ I a ∧ Nx G H G' H' ∧ FrD K G' σ' (S a), ⟨μ a0, a0, G, rfl, i0, .refl k, f⟩, ?_⟩
  rintro m σ1 H1 ⟨a, G1, rfl, ia, n1, f1⟩
  obtain ⟨b, hb, ht, hf⟩ := hs a ia
  refine hb G1 H1 σ1 n1.k f1 _ fun G2 H2 n2 => ?_
  cases b with
  | true =>
    obtain ⟨a', ia', lt, nt⟩ := ht rfl
    refine ⟨fun σ' H' => ∃ G', Nx G H G' H' ∧ FrD K G' σ' (S a'), fun σ' H' ⟨G', n', f'⟩ => ⟨μ a', lt, a', G', rfl, ia', n', f'⟩, ?_⟩
    exact nt G2 H2 σ1 n2.k (FrD.mono n2.g f1) _ fun σ3 G3 H3 n3 f3 => ⟨G3, (n1.trans n2).trans n3, f3⟩
  | false =>
    show D.nx σ1 H2
    have e := hf rfl
    rw [e] at f1
    exact q σ1 G2 H2 (n1.trans n2) (FrD.mono n2.g f1)
/-- for x in range(n) -/
theorem nt_for {ta : TA} {j : Nat} {n : Int} (S : Nat → List Sl) (h : EvA K ta sl [.int n]) (hn : 0 ≤ n ∧ n ≤ 100000) (e0 : sl = S 0) (hs : ∀ i : Nat, (i : Int) < n → Nt K t ((S i).set j (.d (.int i))) (S (i + 1))) : Nt K (tFor (iRng1 ta) (gName j) t) sl (S n.toNat) := fun G H σ k f D q => by
  refine h G H σ k f _ fun vs G1 H1 n1 r1 => ?_
  obtain ⟨v, rfl, r2⟩ := rps1 r1
  cases r2
  refine ⟨n, rfl, by omega, by omega, for_range (lo := 0) (n := n.toNat) (fun i σ' H' => ∃ G', Nx G H G' H' ∧ FrD K G' σ' (S i)) ⟨G1, n1, by rw [← e0]; exact FrD.mono n1.g f⟩ ?_ ?_⟩
  · rintro i σ2 H2 hi ⟨G2, n2, f2⟩
    have e : (0 : Int) + (i : Int) = (i : Int) := Int.zero_add _
    rw [e]
    refine hs i (by omega) G2 H2 _ n2.k (frd_set (.d (.int _)) j f2) _ fun σ3 G3 H3 n3 f3 => ⟨G3, n2.trans n3, f3⟩
  · rintro σ2 H2 ⟨G2, n2, f2⟩
    exact q σ2 G2 H2 n2 f2
end

/-! ### a def by its body -/
/-- a def of the module -/
structure Dd (K : PySem.W.Frag) (mg : Str → Option Value) (x : Str) (st : Stmt) (ps : List Str) : Prop where
  ex : ∃ (f : Addr) (fd : FuncData), Fun K x x st f fd ∧ mg x = some (.ref f) ∧ Binds K fd ps []
/-- a def that may be called by its name -/
structure Has (P : Program) (w : World) (K : PySem.W.Frag) (mg : Str → Option Value) (base : Heap) (CX : CXT) (k : Nat) (x : Str) (ps : List Str) (sp : Sp) : Prop where
  ex : ∃ (f : Addr) (fd : FuncData), FnOk P w K mg base CX k f fd ps sp ∧ mg x = some (.ref f) ∧ PySem.W.keepIn K (.ref f) = true ∧ Binds K fd ps []
section
variable {P : Program} {w : World} {K : PySem.W.Frag} {mg : Str → Option Value} {base : Heap} {x : Str} {st : Stmt} {N ps : List Str} {k : Nat}
theorem start_ok {G : Hp} {vs : List V} {ds : List Dt} (r : Rps K G vs ds) (hl : ds.length = ps.length) : FrD K G (L2.start N vs) (ds.map Sl.d ++ List.replicate (N.length - ps.length) .no) := by
  unfold L2.start
  rw [r.length, hl]
  exact frd_start _ r
/-- a def that changes nothing and hands back on every way -/
theorem Dd.pure {R : List Dt → Dt → Prop} {t : TS} (D : Dd K mg x st ps) (S : FnScope N ps (defScope st)) (hl : ∀ ds d, R ds d → ds.length = ps.length)
    (h1 : ∀ (f : Addr) (cdv : Value) (A : Around) (outer : List Env) (s : Shared) (H : Hp) (E : XK), Room k (A.deeper (envOfC x (defScope st) s.heap.objs.size f cdv)) → PSs (cxOf CX0 P w K mg base N x (defScope st) f cdv A outer s H E).nox (defBody st) t)
    (h2 : ∀ ds d, R ds d → Rt K t (ds.map Sl.d ++ List.replicate (N.length - ps.length) .no) d) : Has P w K mg base CX0 (k + 1) x ps (spP K R) := by
  obtain ⟨f, fd, F, hm, b⟩ := D.ex
  refine ⟨f, fd, F.ok S (fun vs H Q E h => ?_) (fun cdv A outer s H vs Q E hr h => ⟨t, h1 f cdv A outer s H E hr, ?_⟩), hm, F.kp, b⟩
  · obtain ⟨ds, d, G, _, r, hR, _⟩ := h
    rw [r.length]
    exact hl ds d hR
  · obtain ⟨ds, d, G, kG, r, hR, q⟩ := h
    exact h2 ds d hR G H _ kG (start_ok r (hl ds d hR)) _ q
/-- .. at its own place -/
theorem fn_pure {R : List Dt → Dt → Prop} {t : TS} {f : Addr} {fd : FuncData} (F : Fun K x x st f fd) (S : FnScope N ps (defScope st)) (hl : ∀ ds d, R ds d → ds.length = ps.length)
    (h1 : ∀ (f : Addr) (cdv : Value) (A : Around) (outer : List Env) (s : Shared) (H : Hp) (E : XK), Room k (A.deeper (envOfC x (defScope st) s.heap.objs.size f cdv)) → PSs (cxOf CX0 P w K mg base N x (defScope st) f cdv A outer s H E).nox (defBody st) t)
    (h2 : ∀ ds d, R ds d → Rt K t (ds.map Sl.d ++ List.replicate (N.length - ps.length) .no) d) : FnOk P w K mg base CX0 (k + 1) f fd ps (spP K R) := by
  refine F.ok S (fun vs H Q E h => ?_) (fun cdv A outer s H vs Q E hr h => ⟨t, h1 f cdv A outer s H E hr, ?_⟩)
  · obtain ⟨ds, d, G, _, r, hR, _⟩ := h
    rw [r.length]
    exact hl ds d hR
  · obtain ⟨ds, d, G, kG, r, hR, q⟩ := h
    exact h2 ds d hR G H _ kG (start_ok r (hl ds d hR)) _ q
theorem rps_ints {H : Hp} : ∀ ns : List Int, Rps K H (ns.map V.int) (ns.map Dt.int)
  | [] => .nil
  | n :: r => .cons (.int n) (rps_ints r)
/-- any promise -/
theorem Dd.any {sp : Sp} {t : TS} (D : Dd K mg x st ps) (S : FnScope N ps (defScope st)) (hl : ∀ vs H Q E, sp vs H Q E → vs.length = ps.length)
    (h1 : ∀ (f : Addr) (cdv : Value) (A : Around) (outer : List Env) (s : Shared) (H : Hp) (E : XK), Room k (A.deeper (envOfC x (defScope st) s.heap.objs.size f cdv)) → PSs (cxOf CX0 P w K mg base N x (defScope st) f cdv A outer s H E).nox (defBody st) t)
    (h2 : ∀ vs H Q E, sp vs H Q E → t { nx := fun _ H' => Q .non H', rt := Q } (L2.start N vs) H) : Has P w K mg base CX0 (k + 1) x ps sp := by
  obtain ⟨f, fd, F, hm, b⟩ := D.ex
  exact ⟨f, fd, F.ok S hl (fun cdv A outer s H vs Q E hr h => ⟨t, h1 f cdv A outer s H E hr, h2 vs H Q E h⟩), hm, F.kp, b⟩
end
section
variable {X : Cx} {CX : CXT} {k j : Nat} {x : Str} {ps : List Str} {sp : Sp} {p pos : Pos} {e : Expr} {es : List Expr} {t : TA} {E : XK}
theorem pe_h (c : Has X.prog X.w X.K X.mg X.base CX k x ps sp) (hr : Room j X.A) (hk : k ≤ j) (hx : Passes CX X E) (ha : PA X (e :: es) t) (hg : Gl X x := by rfl)
    (hdb : (x == ("__debug__" : Str)) = false := by decide) (he : starEach (e :: es) X.env = (false, eval e X.env) :: starEach es X.env := by rfl) (hpl : (backTo pos (starEach es X.env)).any (·.1) = false := by rfl) :
    PE X (.Call (.Name x p) (e :: es) [] pos) (tCall sp [] E t) := by
  obtain ⟨f, fd, F, hm, kp, b⟩ := c.ex
  exact pe_call F (hr.mono hk) hg hm kp b .nil hx ha hdb he hpl
theorem op_fdivA : OpR X (binaryOp .FloorDiv) (rI CDivA fun i j => .int (i.fdiv j)) := opI fun i j _ _ _ _ _ hc q => floordiv_int hc.1 q (.inl (PyProof.noPylong_of_log2 hc.2))
theorem op_mulA : OpR X (binaryOp .Mult) (rI IntMulOk fun i j => .int (i * j)) := opI fun _ _ _ _ _ _ _ hc q => mul_int q hc
theorem ixK {K : PySem.W.Frag} (e : X.K = K) : IxR X (rIx K) := e ▸ ix_seq
theorem eqK {K : PySem.W.Frag} (e : X.K = K) (hu : X.A.units + 64 < cLine) : OpR X (compareOp .Eq) (rEqD K) := e ▸ op_eqD hu
theorem neK {K : PySem.W.Frag} (e : X.K = K) (hu : X.A.units + 64 < cLine) : OpR X (compareOp .NotEq) (rNeD K) := e ▸ op_neD hu
theorem lenK {K : PySem.W.Frag} (e : X.K = K) : CallR X (.builtin "len") (rLenS K) := e ▸ call_len_seq
theorem isiK {K : PySem.W.Frag} (e : X.K = K) : CallR X (.builtin "isinstance") (rIsi K) := e ▸ call_isi
theorem lstK {K : PySem.W.Frag} {tg l : Expr} {tl : TE} (e : X.K = K) (hl : PE X l tl) : PI X tg l (iList K tl) := e ▸ pi_list hl
theorem tupK {K : PySem.W.Frag} {es : List Expr} {k : Nat} {t : TGs} {n : Nat} {pos : Pos} (e : X.K = K) (hc : X.calm = true) (h : PGs X es t) (hn : (assignEach es X.env).length = n := by rfl) (hst : (assignEach es X.env).findIdx? (·.1) = none := by rfl) : PG X (.Tuple es k pos) (gTup K n t) := e ▸ pg_tup hc h hn hst
theorem cr_len : CallR X (.builtin "len") (rLenS X.K) := call_len_seq
theorem cr_abs : CallR X (.builtin "abs") rAbs := call_abs
theorem cr_max (hc : X.calm = true) : CallR X (.builtin "max") rMax2 := call_max2 hc
theorem cr_min (hc : X.calm = true) : CallR X (.builtin "min") rMin2 := call_min2 hc
def rIsqrt : List V → Hp → VK → Prop := fun vs H Q => ∃ a : Int, vs = [.int a] ∧ 0 ≤ a ∧ a.toNat.log2 < 13000 ∧ Q (.int ((PySem.Float64.isqrt a.toNat : Nat) : Int)) H
theorem cr_isqrt : CallR X (.builtin "math.isqrt") rIsqrt := by
  intro pins s σ H vs us Q I r h
  obtain ⟨a, rfl, h0, h1, q⟩ := h
  obtain ⟨u, rfl, t, rfl⟩ := vals1 r
  exact call_function_meets PySem.W.MGF.kind_isqrt PySem.W.MGF.plain_isqrt PySem.W.MGF.entry_isqrt (PySem.W.MGF.args_isqrt _) (PySem.W.mg_run_isqrt a t (by omega) (by omega) (by omega)).meets ⟨.int _, H, I.tok _, ⟨_, rfl⟩, q⟩
end
end Z
namespace Z
open PySem PySem.Spec PyProof.Rows L2
open Evl (Ex)

/-! ### pots: lists of one int, at addresses that are not known for good -/
def Pots (ps : List Addr) (G H : Hp) : Prop := ∀ p ∈ ps, G p = none ∧ ∃ n : Int, H p = some (.lst [.int n])
structure NxP (ps : List Addr) (G H G2 H2 : Hp) : Prop where
  g : Ex G G2
  k : Ex G2 H2
  h : ∀ a o, a ∉ ps → H a = some o → H2 a = some o
  t : ∀ a, H a ≠ none → H2 a ≠ none
  f : ∀ a, G a = none → H a ≠ none → G2 a = none
theorem NxP.refl {ps : List Addr} {G H : Hp} (k : Ex G H) : NxP ps G H G H := ⟨Ex.refl G, k, fun _ _ _ h => h, fun _ h => h, fun _ h _ => h⟩
theorem NxP.trans {ps : List Addr} {G H G2 H2 G3 H3 : Hp} (a : NxP ps G H G2 H2) (b : NxP ps G2 H2 G3 H3) : NxP ps G H G3 H3 :=
  ⟨a.g.trans b.g, b.k, fun x o hx e => b.h x o hx (a.h x o hx e), fun x h => b.t x (a.t x h), fun x h1 h2 => b.f x (a.f x h1 h2) (a.t x h2)⟩
theorem Nx.p {ps : List Addr} {G H G2 H2 : Hp} (n : Nx G H G2 H2) : NxP ps G H G2 H2 := ⟨n.g, n.k, fun a o _ e => n.h a o e, fun _ h => ne_none n.h h, n.f⟩
theorem NxP.nx {G H G2 H2 : Hp} (n : NxP [] G H G2 H2) : Nx G H G2 H2 := ⟨n.g, fun a o e => n.h a o (by simp) e, n.k, n.f⟩
theorem Pots.nx {ps : List Addr} {G H G2 H2 : Hp} (m : Pots ps G H) (n : Nx G H G2 H2) : Pots ps G2 H2 := fun p hp => by
  obtain ⟨h1, i, h2⟩ := m p hp
  exact ⟨n.f p h1 (by rw [h2]; intro z; cases z), i, n.h p _ h2⟩
theorem Pots.nil {G H : Hp} : Pots [] G H := fun p hp => by cases hp

/-! ### promises of defs that draw from a pot -/
/-- hands back a new pot -/
def spNew (K : PySem.W.Frag) (C : List Dt → Prop) : Sp := fun vs H Q _ => ∃ (ds : List Dt) (G : Hp), Ex G H ∧ Rps K G vs ds ∧ C ds ∧
  ∀ p n G2 H2, Nx G H G2 H2 → H p = none → G2 p = none → H2 p = some (.lst [.int n]) → Q (.ref p) H2
/-- a number from 0 up to far -/
def spTake : Sp := fun vs H Q _ => ∃ (p : Addr) (n f : Int), vs = [.ref p, .int f] ∧ H p = some (.lst [.int n]) ∧ 0 < f ∧ f.natAbs.log2 < 9000 ∧
  ∀ m n' : Int, 0 ≤ m → m < f → Q (.int m) (upd H p (.lst [.int n']))
/-- what R tells may come, drawn from the pot that is handed in first -/
def spM (K : PySem.W.Frag) (C : List Dt → Prop) (R : List Dt → Dt → Prop) : Sp := fun vs H Q _ => ∃ (p : Addr) (ws : List V) (ds : List Dt) (G : Hp), vs = .ref p :: ws ∧ Ex G H ∧ Rps K G ws ds ∧ C ds ∧ Pots [p] G H ∧
  ∀ v x G2 H2, R ds x → NxP [p] G H G2 H2 → Pots [p] G2 H2 → Rp K G2 v x → Q v H2

/-! ### expressions, where pots may be drawn from: what may come is R -/
def Ep (K : PySem.W.Frag) (te : TE) (sl : List Sl) (ps : List Addr) (R : Dt → Prop) : Prop := ∀ (G H : Hp) (σ : L2.St), Ex G H → FrD K G σ sl → Pots ps G H → ∀ Q : VK, (∀ v x G2 H2, R x → NxP ps G H G2 H2 → Pots ps G2 H2 → Rp K G2 v x → Q v H2) → te σ H Q
def EpA (K : PySem.W.Frag) (ta : TA) (sl : List Sl) (ps : List Addr) (R : List Dt → Prop) : Prop := ∀ (G H : Hp) (σ : L2.St), Ex G H → FrD K G σ sl → Pots ps G H → ∀ Q : List V → Hp → Prop, (∀ vs xs G2 H2, R xs → NxP ps G H G2 H2 → Pots ps G2 H2 → Rps K G2 vs xs → Q vs H2) → ta σ H Q
section
variable {K : PySem.W.Frag} {sl : List Sl} {ps : List Addr} {ta tb te tc : TE} {x y z : Dt} {r : R2} {R : Dt → Prop} {RA : List Dt → Prop} {tr : TA}
theorem ep_ev (h : Ev K te sl x) (hR : R x) : Ep K te sl ps R := fun G H σ k f m Q q => h G H σ k f Q fun v G2 H2 n r => q v x G2 H2 hR n.p (m.nx n) r
theorem ep_op (h : Ep K ta sl ps fun x => Ep K tb sl ps fun y => ∃ z, R2D K r x y z ∧ R z) : Ep K (tOp r ta tb) sl ps R := fun G H σ k f m Q q =>
  h G H σ k f m _ fun v x G1 H1 h1 n1 m1 r1 => h1 G1 H1 σ n1.k (FrD.mono n1.g f) m1 _ fun w y G2 H2 ⟨z, hr, hR⟩ n2 m2 r2 => hr G2 H2 n2.k v w (r1.mono n2.g) r2 Q fun u G3 H3 n3 r3 => q u z G3 H3 hR ((n1.trans n2).trans n3.p) (m2.nx n3) r3
theorem ep_un {r : V → Hp → VK → Prop} (h : Ep K ta sl ps fun x => ∃ z, R1D K r x z ∧ R z) : Ep K (tUn r ta) sl ps R := fun G H σ k f m Q q =>
  h G H σ k f m _ fun v x G1 H1 ⟨z, hr, hR⟩ n1 m1 r1 => hr G1 H1 n1.k v r1 Q fun u G3 H3 n3 r3 => q u z G3 H3 hR (n1.trans n3.p) (m1.nx n3) r3
theorem epa_nil (h : RA []) : EpA K tNil sl ps RA := fun G H σ k f m Q q => q _ _ G H h (.refl k) m .nil
theorem epa_cons (h : Ep K ta sl ps fun x => EpA K tr sl ps fun xs => RA (x :: xs)) : EpA K (tCons ta tr) sl ps RA := fun G H σ k f m Q q =>
  h G H σ k f m _ fun v x G1 H1 h1 n1 m1 r1 => h1 G1 H1 σ n1.k (FrD.mono n1.g f) m1 _ fun vs xs G2 H2 h2 n2 m2 r2 => q _ _ G2 H2 h2 (n1.trans n2) m2 (.cons (r1.mono n2.g) r2)
theorem epa_ev {xs : List Dt} (h : EvA K tr sl xs) (hR : RA xs) : EpA K tr sl ps RA := fun G H σ k f m Q q => h G H σ k f Q fun v G2 H2 n r => q v xs G2 H2 hR n.p (m.nx n) r
theorem ep_tup (h : EpA K tr sl ps fun xs => xs.length ≤ 100000 ∧ R (.tup xs)) : Ep K (tTup tr) sl ps R := fun G H σ k f m Q q =>
  h G H σ k f m _ fun vs xs G1 H1 ⟨hn, hR⟩ n1 m1 r1 => ⟨by rw [r1.length]; exact sz_ok hn, fun p hp => q _ _ _ _ hR (n1.trans (Nx.new n1.k hp).p) (m1.nx (Nx.new n1.k hp)) (.tup (.inl (.inl upd_same)) (r1.mono (Ex.new (free_of n1.k hp))))⟩
theorem ep_lst (h : EpA K tr sl ps fun xs => xs.length ≤ 100000 ∧ R (.lst xs)) : Ep K (tLst tr) sl ps R := fun G H σ k f m Q q =>
  h G H σ k f m _ fun vs xs G1 H1 ⟨hn, hR⟩ n1 m1 r1 => ⟨by rw [r1.length]; exact sz_ok hn, fun p hp => q _ _ _ _ hR (n1.trans (Nx.new n1.k hp).p) (m1.nx (Nx.new n1.k hp)) (.lst (.inl (.inl upd_same)) (r1.mono (Ex.new (free_of n1.k hp))))⟩
theorem ep_call {RF : List Dt → Dt → Prop} {E : XK} (h : EpA K tr sl ps fun xs => ∃ x, RF xs x ∧ R x) : Ep K (tCall (spP K RF) [] E tr) sl ps R := fun G H σ k f m Q q =>
  h G H σ k f m _ fun vs xs G1 H1 ⟨x, hr, hR⟩ n1 m1 r1 => ⟨xs, x, G1, n1.k, rps_nil r1, hr, fun v G2 H2 n2 r2 => q v x G2 H2 hR (n1.trans n2.p) (m1.nx n2) r2⟩
theorem ep_callX {RF : List Dt → Dt → Prop} {XF : List Dt → Value → Prop} {E : XK} (h : EpA K tr sl ps fun xs => ∃ x, RF xs x ∧ R x) : Ep K (tCall (spX K RF XF) [] E tr) sl ps R := fun G H σ k f m Q q =>
  h G H σ k f m _ fun vs xs G1 H1 ⟨x, hr, hR⟩ n1 m1 r1 => ⟨xs, G1, n1.k, rps_nil r1, .inl ⟨x, hr, fun v G2 H2 n2 r2 => q v x G2 H2 hR (n1.trans n2.p) (m1.nx n2) r2⟩⟩
theorem ep_cb {rc : List V → Hp → VK → Prop} (h : EpA K tr sl ps fun xs => ∃ x, RcD K rc xs x ∧ R x) : Ep K (tCB rc tr) sl ps R := fun G H σ k f m Q q =>
  h G H σ k f m _ fun vs xs G1 H1 ⟨x, hr, hR⟩ n1 m1 r1 => hr G1 H1 n1.k vs r1 Q fun u G2 H2 n2 r2 => q u x G2 H2 hR (n1.trans n2.p) (m1.nx n2) r2
/-- a draw -/
theorem ep_take {i : Nat} {p : Addr} {E : XK} (hi : sl[i]? = some (.raw (.ref p))) (hp : p ∈ ps) (h : Ep K tb sl ps fun y => ∃ f : Int, y = .int f ∧ 0 < f ∧ f.natAbs.log2 < 9000 ∧ ∀ m : Int, 0 ≤ m → m < f → R (.int m)) :
    Ep K (tCall spTake [] E (tCons (tVar i) (tCons tb tNil))) sl ps R := fun G H σ k f m Q q => by
  refine ⟨.ref p, frd_raw f hi, ?_⟩
  refine h G H σ k f m _ fun w y G1 H1 ⟨fr, ey, h0, h9, hR⟩ n1 m1 r1 => ?_
  subst ey
  cases r1
  obtain ⟨gp, n, hn⟩ := m1 p hp
  refine ⟨p, n, fr, rfl, hn, h0, h9, fun a n' a0 a1 => ?_⟩
  refine q _ _ G1 (upd H1 p (.lst [.int n'])) (hR a a0 a1) (n1.trans ⟨Ex.refl _, fun b o e => ?_, fun b o hb e => ?_, fun b hb => ?_, fun b e _ => e⟩) (fun c hc => ?_) (.int _)
  · have nb : b ≠ p := fun z => by
      rw [z, gp] at e
      cases e
    rw [upd_ne nb]
    exact n1.k b o e
  · have nb : b ≠ p := fun z => hb (z ▸ hp)
    rw [upd_ne nb]
    exact e
  · by_cases nb : b = p
    · rw [nb, upd_same]
      intro z
      cases z
    · rw [upd_ne nb]
      exact hb
  · by_cases nb : c = p
    · subst nb
      exact ⟨gp, n', upd_same⟩
    · rw [upd_ne nb]
      exact m1 c hc
theorem Pots.one {G H : Hp} (m : Pots ps G H) {p : Addr} (hp : p ∈ ps) : Pots [p] G H := fun c hc => by
  have e : c = p := by simpa using hc
  subst e
  exact m c hp
theorem NxP.wide {p : Addr} {G H G2 H2 : Hp} (n : NxP [p] G H G2 H2) (hp : p ∈ ps) : NxP ps G H G2 H2 := ⟨n.g, n.k, fun a o ha e => n.h a o (fun z => by
  have e2 : a = p := by simpa using z
  rw [e2] at ha
  exact ha hp) e, n.t, n.f⟩
theorem Pots.after {p : Addr} {G H G2 H2 : Hp} (m : Pots ps G H) (n : NxP [p] G H G2 H2) (mp : Pots [p] G2 H2) : Pots ps G2 H2 := fun c hc => by
  by_cases e : c = p
  · subst e
    exact mp c (by simp)
  · obtain ⟨h1, i, h2⟩ := m c hc
    exact ⟨n.f c h1 (by rw [h2]; intro z; cases z), i, n.h c _ (by simpa using e) h2⟩
theorem ep_callM {i : Nat} {p : Addr} {E : XK} {C : List Dt → Prop} {RF : List Dt → Dt → Prop} (hi : sl[i]? = some (.raw (.ref p))) (hp : p ∈ ps) (h : EpA K tr sl ps fun ds => C ds ∧ ∀ x, RF ds x → R x) :
    Ep K (tCall (spM K C RF) [] E (tCons (tVar i) tr)) sl ps R := fun G H σ k f m Q q => by
  refine ⟨.ref p, frd_raw f hi, ?_⟩
  refine h G H σ k f m _ fun ws ds G1 H1 ⟨hC, hR⟩ n1 m1 r1 => ?_
  refine ⟨p, ws, ds, G1, by rw [List.append_nil], n1.k, r1, hC, m1.one hp, fun v x G2 H2 hx n2 m2 r2 => ?_⟩
  exact q v x G2 H2 (hR x hx) (n1.trans (n2.wide hp)) (m1.after n2 m2) r2
end

/-- forgetting slots -/
inductive Wk : Sl → Sl → Prop
  | same (s : Sl) : Wk s s
  | no (s : Sl) : Wk s .no
theorem frd_wk {K : PySem.W.Frag} {G : Hp} : ∀ {σ : L2.St} {sl sl2 : List Sl}, FrD K G σ sl → Paired Wk sl sl2 → FrD K G σ sl2
  | _, _, _, .nil, .nil => .nil
  | _, _, _, .cons h t, .cons w r => .cons (by cases w with
    | same => exact h
    | no => exact .no _) (frd_wk t r)
/-! ### statements, where pots may be drawn from: Ip goes on, Ir hands back -/
def Ip (K : PySem.W.Frag) (ts : TS) (sl : List Sl) (ps : List Addr) (N : List Sl → Prop) : Prop := ∀ (G H : Hp) (σ : L2.St), Ex G H → FrD K G σ sl → Pots ps G H → ∀ D : Ends, (∀ σ2 sl2 G2 H2, N sl2 → NxP ps G H G2 H2 → Pots ps G2 H2 → FrD K G2 σ2 sl2 → D.nx σ2 H2) → ts D σ H
def Ir (K : PySem.W.Frag) (ts : TS) (sl : List Sl) (ps : List Addr) (R : Dt → Prop) : Prop := ∀ (G H : Hp) (σ : L2.St), Ex G H → FrD K G σ sl → Pots ps G H → ∀ D : Ends, (∀ v x G2 H2, R x → NxP ps G H G2 H2 → Pots ps G2 H2 → Rp K G2 v x → D.rt v H2) → ts D σ H
section
variable {K : PySem.W.Frag} {sl sl1 sl2 : List Sl} {ps : List Addr} {te : TE} {tc : TT} {x y : Dt} {t u : TS} {N : List Sl → Prop} {R : Dt → Prop}
theorem ip_nt (h : Nt K t sl sl1) (k : Ip K u sl1 ps N) : Ip K (tSeq t u) sl ps N := fun G H σ e f m D q =>
  h G H σ e f _ fun σ1 G1 H1 n1 f1 => k G1 H1 σ1 n1.k f1 (m.nx n1) D fun σ2 sl2 G2 H2 h2 n2 m2 f2 => q σ2 sl2 G2 H2 h2 (n1.p.trans n2) m2 f2
theorem ip_end (h : Nt K t sl sl1) (k : N sl1) : Ip K t sl ps N := fun G H σ e f m D q =>
  h G H σ e f _ fun σ1 G1 H1 n1 f1 => q σ1 sl1 G1 H1 k n1.p (m.nx n1) f1
theorem ip_asg {i : Nat} (h : Ep K te sl ps fun x => Ip K u (sl.set i (.d x)) ps N) : Ip K (tSeq (tAsg te (gName i)) u) sl ps N := fun G H σ e f m D q =>
  h G H σ e f m _ fun v x G1 H1 h1 n1 m1 r1 => h1 G1 H1 _ n1.k (frd_set (.d r1) i (FrD.mono n1.g f)) m1 D fun σ2 sl2 G2 H2 h2 n2 m2 f2 => q σ2 sl2 G2 H2 h2 (n1.trans n2) m2 f2
theorem ip_asg1 {i : Nat} (h : Ep K te sl ps fun x => N (sl.set i (.d x))) : Ip K (tAsg te (gName i)) sl ps N := fun G H σ e f m D q =>
  h G H σ e f m _ fun v x G1 H1 h1 n1 m1 r1 => q _ _ G1 H1 h1 n1 m1 (frd_set (.d r1) i (FrD.mono n1.g f))
theorem ip_par {i j : Nat} {ta : TA} (h : EpA K ta sl ps fun xs => ∃ x y, xs = [x, y] ∧ Ip K u ((sl.set i (.d x)).set j (.d y)) ps N) : Ip K (tSeq (tPar i j ta) u) sl ps N := fun G H σ e f m D q =>
  h G H σ e f m _ fun vs xs G1 H1 ⟨x, y, ex, h1⟩ n1 m1 r1 => by
    subst ex
    obtain ⟨v, w, rfl, a1, a2⟩ := rps2 r1
    exact ⟨v, w, rfl, h1 G1 H1 _ n1.k (frd_set (.d a2) j (frd_set (.d a1) i (FrD.mono n1.g f))) m1 D fun σ2 sl2 G2 H2 h2 n2 m2 f2 => q σ2 sl2 G2 H2 h2 (n1.trans n2) m2 f2⟩
theorem ip_cond {b : Bool} (h : EvT K tc sl b) (h1 : b = true → Ip K (tSeq t u) sl ps N) (h2 : b = false → Ip K u sl ps N) : Ip K (tSeq (tIfS tc t tNext) u) sl ps N := fun G H σ e f m D q => h G H σ e f _ fun G1 H1 n1 => by
  cases b with
  | true =>
    show t { D with nx := u D } σ H1
    exact h1 rfl G1 H1 σ n1.k (FrD.mono n1.g f) (m.nx n1) D fun σ2 sl2 G2 H2 h2 n2 m2 f2 => q σ2 sl2 G2 H2 h2 (n1.p.trans n2) m2 f2
  | false =>
    show u D σ H1
    exact h2 rfl G1 H1 σ n1.k (FrD.mono n1.g f) (m.nx n1) D fun σ2 sl2 G2 H2 h2 n2 m2 f2 => q σ2 sl2 G2 H2 h2 (n1.p.trans n2) m2 f2
/-- the test is never true -/
theorem ip_no (h : EvT K tc sl false) (h2 : Ip K u sl ps N) : Ip K (tSeq (tIfS tc t tNext) u) sl ps N := ip_cond h (fun z => by cases z) fun _ => h2
theorem ip_no1 (h : EvT K tc sl false) (h2 : N sl) : Ip K (tIfS tc t tNext) sl ps N := ip_end (nt_if h (fun z => by cases z) fun _ => nt_next) h2
theorem nt_no (h : EvT K tc sl false) : Nt K (tIfS tc t tNext) sl sl := nt_if h (fun z => by cases z) fun _ => nt_next
/-- a new pot -/
theorem ip_pot {i : Nat} {ta : TA} {xs : List Dt} {E : XK} {C : List Dt → Prop} (h : EvA K ta sl xs) (hC : C xs) (k : ∀ p, Ip K u (sl.set i (.raw (.ref p))) (p :: ps) N) : Ip K (tSeq (tAsg (tCall (spNew K C) [] E ta) (gName i)) u) sl ps N := fun G H σ e f m D q =>
  h G H σ e f _ fun vs G1 H1 n1 r1 => ⟨xs, G1, n1.k, rps_nil r1, hC, fun p n G2 H2 n2 p1 g2 p2 => by
    have n12 := n1.trans n2
    have m2 : Pots (p :: ps) G2 H2 := fun c hc => by
      rcases List.mem_cons.mp hc with z | z
      · subst z
        exact ⟨g2, n, p2⟩
      · exact (m.nx n12) c z
    have hp : H p = none := by
      cases z : H p with
      | none => rfl
      | some o =>
        rw [n1.h p o z] at p1
        cases p1
    refine k p G2 H2 _ n2.k (frd_set (.raw _) i (FrD.mono n12.g f)) m2 D fun σ3 sl3 G3 H3 h3 n3 m3 f3 => q σ3 sl3 G3 H3 h3 ⟨n12.g.trans n3.g, n3.k, fun a o ha ea => ?_, fun a ha => n3.t a (ne_none n12.h ha), fun a h1 h2 => n3.f a (n12.f a h1 h2) (ne_none n12.h h2)⟩ (fun c hc => m3 c (List.mem_cons_of_mem _ hc)) f3
    have na : a ∉ p :: ps := fun z => by
      rcases List.mem_cons.mp z with z | z
      · rw [z, hp] at ea
        cases ea
      · exact ha z
    exact n3.h a o na (n12.h a o ea)⟩
theorem nt_ip (h : Ip K t sl [] N) (w : ∀ sl1, N sl1 → ∀ G σ, FrD K G σ sl1 → FrD K G σ sl2) : Nt K t sl sl2 := fun G H σ e f D q =>
  h G H σ e f .nil D fun σ1 sl1 G1 H1 h1 n1 _ f1 => q σ1 G1 H1 n1.nx (w sl1 h1 G1 σ1 f1)
theorem ir_nt (h : Nt K t sl sl1) (k : Ir K u sl1 ps R) : Ir K (tSeq t u) sl ps R := fun G H σ e f m D q =>
  h G H σ e f _ fun σ1 G1 H1 n1 f1 => k G1 H1 σ1 n1.k f1 (m.nx n1) D fun v x G2 H2 h2 n2 m2 r2 => q v x G2 H2 h2 (n1.p.trans n2) m2 r2
theorem ir_asg {i : Nat} (h : Ep K te sl ps fun x => Ir K u (sl.set i (.d x)) ps R) : Ir K (tSeq (tAsg te (gName i)) u) sl ps R := fun G H σ e f m D q =>
  h G H σ e f m _ fun v x G1 H1 h1 n1 m1 r1 => h1 G1 H1 _ n1.k (frd_set (.d r1) i (FrD.mono n1.g f)) m1 D fun v x G2 H2 h2 n2 m2 r2 => q v x G2 H2 h2 (n1.trans n2) m2 r2
theorem ir_unp {i j : Nat} (h : Ep K te sl ps fun x => ∃ a b, x = .tup [a, b] ∧ Ir K u ((sl.set i (.d a)).set j (.d b)) ps R) : Ir K (tSeq (tAsg te (gTup K 2 (gCons (gName i) (gCons (gName j) gNil)))) u) sl ps R := fun G H σ e f m D q =>
  h G H σ e f m _ fun v x G1 H1 ⟨a, b, ex, h1⟩ n1 m1 r1 => by
    subst ex
    cases r1 with
    | tup hs rs =>
      obtain ⟨v, w, rfl, a1, a2⟩ := rps2 rs
      exact ⟨_, _, rfl, Evl.ex_t n1.k hs, rfl, v, [w], rfl, w, [], rfl, rfl, h1 G1 H1 _ n1.k (frd_set (.d a2) j (frd_set (.d a1) i (FrD.mono n1.g f))) m1 D fun v x G2 H2 h2 n2 m2 r2 => q v x G2 H2 h2 (n1.trans n2) m2 r2⟩
theorem ip_unp {i j : Nat} (h : Ep K te sl ps fun x => ∃ a b, x = .tup [a, b] ∧ Ip K u ((sl.set i (.d a)).set j (.d b)) ps N) : Ip K (tSeq (tAsg te (gTup K 2 (gCons (gName i) (gCons (gName j) gNil)))) u) sl ps N := fun G H σ e f m D q =>
  h G H σ e f m _ fun v x G1 H1 ⟨a, b, ex, h1⟩ n1 m1 r1 => by
    subst ex
    cases r1 with
    | tup hs rs =>
      obtain ⟨v, w, rfl, a1, a2⟩ := rps2 rs
      exact ⟨_, _, rfl, Evl.ex_t n1.k hs, rfl, v, [w], rfl, w, [], rfl, rfl, h1 G1 H1 _ n1.k (frd_set (.d a2) j (frd_set (.d a1) i (FrD.mono n1.g f))) m1 D fun σ2 sl2 G2 H2 h2 n2 m2 f2 => q σ2 sl2 G2 H2 h2 (n1.trans n2) m2 f2⟩
/-- the test is never true -/
theorem ip_chk {b : Bool} (h : EvT K tc sl b) (e : b = false) (h2 : Ip K u sl ps N) : Ip K (tSeq (tIfS tc t tNext) u) sl ps N := by
  subst e
  exact ip_cond h (fun z => by cases z) fun _ => h2
theorem ir_ret (h : Ep K te sl ps R) : Ir K (tRet te) sl ps R := fun G H σ e f m D q => h G H σ e f m _ q
theorem ir_cond {b : Bool} (h : EvT K tc sl b) (h1 : b = true → Ir K t sl ps R) (h2 : b = false → Ir K u sl ps R) : Ir K (tSeq (tIfS tc t tNext) u) sl ps R := fun G H σ e f m D q => h G H σ e f _ fun G1 H1 n1 => by
  cases b with
  | true =>
    show t { D with nx := u D } σ H1
    exact h1 rfl G1 H1 σ n1.k (FrD.mono n1.g f) (m.nx n1) _ fun v x G2 H2 h2 n2 m2 r2 => q v x G2 H2 h2 (n1.p.trans n2) m2 r2
  | false =>
    show u D σ H1
    exact h2 rfl G1 H1 σ n1.k (FrD.mono n1.g f) (m.nx n1) D fun v x G2 H2 h2 n2 m2 r2 => q v x G2 H2 h2 (n1.p.trans n2) m2 r2
/-- for .. in a list of data (written here) -/
theorem nt_forL {tl : TE} {g : TG} {ds : List Dt} (h : Ev K tl sl (.lst ds)) (hs : ∀ d ∈ ds, ∀ (G H : Hp) (σ : L2.St) v, Ex G H → FrD K G σ sl → Rp K G v d → ∀ D : Ends, (∀ σ2 G2 H2, Nx G H G2 H2 → FrD K G2 σ2 sl → D.nx σ2 H2) → g v σ H fun σ2 H2 => t D σ2 H2) :
    Nt K (tFor (iList K tl) g t) sl sl := fun G H σ k f D q => h G H σ k f _ fun v G1 H1 n1 r1 => by
  cases r1 with
  | lst hl rs =>
    rename_i a xs
    refine ⟨a, rfl, ⟨_, Evl.ex_l n1.k hl⟩, for_list (K := K) (a := a) (xs := xs) (fun i σ' H' => ∃ G', Nx G H G' H' ∧ Ex G1 G' ∧ FrD K G' σ' sl) ⟨G1, n1, Ex.refl _, FrD.mono n1.g f⟩ (fun i σ' H' _ ⟨G', n', e', _⟩ => Evl.ex_l n'.k (Evl.ex_l e' hl)) ?_ ?_⟩
    · rintro i x σ2 H2 hi ⟨G2, n2, e2, f2⟩
      obtain ⟨d, hd, rd⟩ : ∃ d, ds[i]? = some d ∧ Rp K G1 x d := by
        have hlen := rs.length
        have hi2 : i < xs.length := (List.getElem?_eq_some_iff.mp hi).1
        have hd : ds[i]? = some ds[i] := List.getElem?_eq_getElem (by omega)
        obtain ⟨v, hv, rv⟩ := rs.get hd
        rw [hi] at hv
        cases hv
        exact ⟨_, hd, rv⟩
      refine hs d (List.mem_of_getElem? hd) G2 H2 σ2 x n2.k f2 (rd.mono e2) _ fun σ3 G3 H3 n3 f3 => ⟨G3, n2.trans n3, e2.trans n3.g, f3⟩
    · rintro σ2 H2 ⟨G2, n2, e2, f2⟩
      exact q σ2 G2 H2 n2 f2
/-- for x in range(n), what the slots hold told by I -/
theorem ip_for {ta : TA} {j : Nat} {n : Int} (I : Nat → List Sl → Prop) (h : EvA K ta sl [.int n]) (hn : n ≤ 100000 ∧ -100000 ≤ n) (h0 : I 0 sl) (hs : ∀ (i : Nat) sl', (i : Int) < n → I i sl' → Ip K t (sl'.set j (.d (.int i))) ps (I (i + 1))) : Ip K (tFor (iRng1 ta) (gName j) t) sl ps (I n.toNat) := fun G H σ k f m D q => by
  refine h G H σ k f _ fun vs G1 H1 n1 r1 => ?_
  obtain ⟨v, rfl, r2⟩ := rps1 r1
  cases r2
  refine ⟨n, rfl, by omega, by omega, for_range (lo := 0) (n := n.toNat) (fun i σ' H' => ∃ G' sl', I i sl' ∧ NxP ps G H G' H' ∧ Pots ps G' H' ∧ FrD K G' σ' sl') ⟨G1, sl, h0, n1.p, m.nx n1, FrD.mono n1.g f⟩ ?_ ?_⟩
  · rintro i σ2 H2 hi ⟨G2, sl2, i2, n2, m2, f2⟩
    have e : (0 : Int) + (i : Int) = (i : Int) := Int.zero_add _
    rw [e]
    refine hs i sl2 (by omega) i2 G2 H2 _ n2.k (frd_set (.d (.int _)) j f2) m2 _ fun σ3 sl3 G3 H3 i3 n3 m3 f3 => ⟨G3, sl3, i3, n2.trans n3, m3, f3⟩
  · rintro σ2 H2 ⟨G2, sl2, i2, n2, m2, f2⟩
    exact q σ2 sl2 G2 H2 i2 n2 m2 f2
theorem ip_while (I : Nat → List Sl → Prop) (m0 : Nat) (h0 : I m0 sl) (hs : ∀ m sl', I m sl' → ∃ b, EvT K tc sl' b ∧ (b = true → Ip K t sl' ps fun sl2 => ∃ m', m' < m ∧ I m' sl2) ∧ (b = false → N sl')) : Ip K (tWhile tc t) sl ps N := fun G H σ k f m D q => by
  refine ⟨fun l σ' H' => ∃ G' sl', I l sl' ∧ NxP ps G H G' H' ∧ Pots ps G' H' ∧ FrD K G' σ' sl', ⟨m0, G, sl, h0, .refl k, m, f⟩, ?_⟩
  rintro l σ1 H1 ⟨G1, sl1, i1, n1, m1, f1⟩
  obtain ⟨b, hb, ht, hf⟩ := hs l sl1 i1
  refine hb G1 H1 σ1 n1.k f1 _ fun G2 H2 n2 => ?_
  cases b with
  | true =>
    refine ⟨fun σ' H' => ∃ G' sl' l', l' < l ∧ I l' sl' ∧ NxP ps G H G' H' ∧ Pots ps G' H' ∧ FrD K G' σ' sl', fun σ' H' ⟨G', sl', l', lt, i', n', m', f'⟩ => ⟨l', lt, G', sl', i', n', m', f'⟩, ?_⟩
    exact ht rfl G2 H2 σ1 n2.k (FrD.mono n2.g f1) (m1.nx n2) _ fun σ3 sl3 G3 H3 ⟨l', lt, i'⟩ n3 m3 f3 => ⟨G3, sl3, l', lt, i', (n1.trans n2.p).trans n3, m3, f3⟩
  | false =>
    exact q σ1 sl1 G2 H2 (hf rfl) (n1.trans n2.p) (m1.nx n2) (FrD.mono n2.g f1)
/-- for x, y in a list of pairs (written here) -/
theorem nt_for2 {tl : TE} {i j : Nat} {ds : List Dt} {a : Unit → Prop} (h : Ev K tl sl (.lst ds)) (C : Dt → Dt → Prop) (hd : ∀ d ∈ ds, ∃ x y, d = .tup [x, y] ∧ C x y) (hw : ∀ x y : Dt, C x y → True → Paired Wk ((sl.set i (.d x)).set j (.d y)) sl) (hs : ∀ x y, C x y → Nt K t ((sl.set i (.d x)).set j (.d y)) ((sl.set i (.d x)).set j (.d y))) :
    Nt K (tFor (iList K tl) (gTup K 2 (gCons (gName i) (gCons (gName j) gNil))) t) sl sl := nt_forL h fun d hm G H σ v k f r D q => by
  obtain ⟨x, y, rfl, hc⟩ := hd d hm
  cases r with
  | tup ht rs =>
    obtain ⟨v, w, rfl, h1, h2⟩ := rps2 rs
    refine ⟨_, _, rfl, Evl.ex_t k ht, rfl, v, [w], rfl, w, [], rfl, rfl, ?_⟩
    exact hs x y hc G H _ k (frd_set (.d h2) j (frd_set (.d h1) i f)) D fun σ2 G2 H2 n2 f2 => q σ2 G2 H2 n2 (frd_wk f2 (hw x y hc True.intro))
theorem ip_imp {N2 : List Sl → Prop} (h : Ip K t sl ps N) (w : ∀ s, N s → N2 s) : Ip K t sl ps N2 := fun G H σ k f m D q => h G H σ k f m D fun σ2 sl2 G2 H2 h2 => q σ2 sl2 G2 H2 (w sl2 h2)
theorem ip_seq (h : Ip K t sl ps fun s => Ip K u s ps N) : Ip K (tSeq t u) sl ps N := fun G H σ e f m D q =>
  h G H σ e f m _ fun σ1 sl1 G1 H1 k1 n1 m1 f1 => k1 G1 H1 σ1 n1.k f1 m1 D fun σ2 sl2 G2 H2 h2 n2 m2 f2 => q σ2 sl2 G2 H2 h2 (n1.trans n2) m2 f2
theorem rt_ip (h : Ip K t sl [] fun s => Rt K u s x) : Rt K (tSeq t u) sl x := fun G H σ e f D q =>
  h G H σ e f .nil _ fun σ1 sl1 G1 H1 k1 n1 m1 f1 => k1 G1 H1 σ1 n1.k f1 D fun v G2 H2 n2 r2 => q v G2 H2 (n1.nx.trans n2) r2
end
section
variable {P : Program} {w : World} {K : PySem.W.Frag} {mg : Str → Option Value} {base : Heap} {x : Str} {st : Stmt} {N ps : List Str} {k : Nat}
theorem Dd.newpot {C : List Dt → Prop} {t : TS} (D : Dd K mg x st ps) (S : FnScope N ps (defScope st)) (hl : ∀ ds, C ds → ds.length = ps.length)
    (h1 : ∀ (f : Addr) (cdv : Value) (A : Around) (outer : List Env) (s : Shared) (H : Hp) (E : XK), Room k (A.deeper (envOfC x (defScope st) s.heap.objs.size f cdv)) → PSs (cxOf CX0 P w K mg base N x (defScope st) f cdv A outer s H E).nox (defBody st) t)
    (h3 : ∀ ds, C ds → ∀ (G H : Hp) (σ : L2.St), Ex G H → FrD K G σ (ds.map Sl.d ++ List.replicate (N.length - ps.length) .no) → ∀ D : Ends, (∀ p n G2 H2, Nx G H G2 H2 → H p = none → G2 p = none → H2 p = some (.lst [.int n]) → D.rt (.ref p) H2) → t D σ H) : Has P w K mg base CX0 (k + 1) x ps (spNew K C) := by
  refine D.any S (fun vs H Q E h => ?_) h1 fun vs H Q E h => ?_
  · obtain ⟨ds, G, _, r, hC, _⟩ := h
    rw [r.length]
    exact hl ds hC
  · obtain ⟨ds, G, kG, r, hC, q⟩ := h
    exact h3 ds hC G H _ kG (start_ok r (hl ds hC)) _ q
/-- a def that draws from the pot that it is handed first -/
theorem Dd.draws {C : List Dt → Prop} {R : List Dt → Dt → Prop} {t : TS} (D : Dd K mg x st ps) (S : FnScope N ps (defScope st)) (hl : ∀ ds, C ds → ds.length + 1 = ps.length)
    (h1 : ∀ (f : Addr) (cdv : Value) (A : Around) (outer : List Env) (s : Shared) (H : Hp) (E : XK), Room k (A.deeper (envOfC x (defScope st) s.heap.objs.size f cdv)) → PSs (cxOf CX0 P w K mg base N x (defScope st) f cdv A outer s H E).nox (defBody st) t)
    (h2 : ∀ ds, C ds → ∀ p, Ir K t (Sl.raw (.ref p) :: (ds.map Sl.d ++ List.replicate (N.length - ps.length) .no)) [p] (R ds)) : Has P w K mg base CX0 (k + 1) x ps (spM K C R) := by
  refine D.any S (fun vs H Q E h => ?_) h1 fun vs H Q E h => ?_
  · obtain ⟨p, ws, ds, G, rfl, _, r, hC, _⟩ := h
    show ws.length + 1 = _
    rw [r.length]
    exact hl ds hC
  · obtain ⟨p, ws, ds, G, rfl, kG, r, hC, m, q⟩ := h
    have e : (V.ref p :: ws).length = ps.length := by
      show ws.length + 1 = _
      rw [r.length]
      exact hl ds hC
    have fr : FrD K G (L2.start N (.ref p :: ws)) (Sl.raw (.ref p) :: (ds.map Sl.d ++ List.replicate (N.length - ps.length) .no)) := by
      unfold L2.start
      rw [e]
      exact .cons (.raw _) (frd_start _ r)
    exact h2 ds hC p G H _ kG fr m _ q
end
end Z
namespace Z
open PySem PySem.Spec PyProof.Rows L2

/-! ### fractions: a rational number q as the data (top, bottom) -/
def fq (q : Rat) : Dt := .tup [.int q.num, .int (q.den : Int)]
/-- the sign-carrying divisor -/
def dvs (t b : Int) : Int := if b < 0 then -((Nat.gcd t.natAbs b.natAbs : Nat) : Int) else ((Nat.gcd t.natAbs b.natAbs : Nat) : Int)
theorem gcd_pos {t b : Int} (h : b ≠ 0) : 0 < Nat.gcd t.natAbs b.natAbs := Nat.gcd_pos_of_pos_right _ (Int.natAbs_pos.mpr h)
theorem dvs_ne {t b : Int} (h : b ≠ 0) : dvs t b ≠ 0 := by
  have := gcd_pos (t := t) h
  unfold dvs
  split <;> omega
theorem low_num {t b : Int} (h : b ≠ 0) : t.fdiv (dvs t b) = ((t : Rat) / (b : Rat)).num := by
  rw [← Rat.divInt_eq_div, Rat.num_divInt]
  have e : (Nat.gcd t.natAbs b.natAbs) = b.gcd t := by rw [Nat.gcd_comm]; rfl
  have dv : ((b.gcd t : Nat) : Int) ∣ t := Int.gcd_dvd_right _ _
  unfold dvs
  rw [e]
  split
  · rename_i hb
    rw [Int.fdiv_eq_ediv_of_dvd (Int.neg_dvd.mpr dv), Int.ediv_neg, Int.sign_eq_neg_one_of_neg hb, Int.neg_one_mul, Int.neg_ediv_of_dvd dv]
  · rw [Int.fdiv_eq_ediv_of_dvd dv, Int.sign_eq_one_of_pos (by omega), Int.one_mul]
theorem low_den {t b : Int} (h : b ≠ 0) : b.fdiv (dvs t b) = (((t : Rat) / (b : Rat)).den : Int) := by
  rw [← Rat.divInt_eq_div, Rat.den_divInt, if_neg h]
  have e : (Nat.gcd t.natAbs b.natAbs) = b.gcd t := by rw [Nat.gcd_comm]; rfl
  have dv : ((b.gcd t : Nat) : Int) ∣ b := Int.gcd_dvd_left _ _
  rw [Int.natCast_ediv]
  unfold dvs
  rw [e]
  split
  · rename_i hb
    rw [Int.fdiv_eq_ediv_of_dvd (Int.neg_dvd.mpr dv), Int.ediv_neg, show ((b.natAbs : Nat) : Int) = -b by omega, Int.neg_ediv_of_dvd dv]
  · rw [Int.fdiv_eq_ediv_of_dvd dv, show ((b.natAbs : Nat) : Int) = b by omega]
theorem low_fq {t b : Int} (h : b ≠ 0) : (Dt.tup [.int (t.fdiv (dvs t b)), .int (b.fdiv (dvs t b))]) = fq ((t : Rat) / (b : Rat)) := by
  rw [low_num h, low_den h]
  rfl
theorem den_pos (q : Rat) : (0 : Int) < (q.den : Int) := by
  have := q.den_pos
  omega
theorem den_ne (q : Rat) : (q.den : Int) ≠ 0 := by
  have := q.den_pos
  omega
theorem fq_self (q : Rat) : ((q.num : Rat) / ((q.den : Int) : Rat)) = q := by
  rw [← Rat.divInt_eq_div, Rat.num_divInt_den]
theorem q_add (x y : Rat) : (((x.num * (y.den : Int) + y.num * (x.den : Int) : Int) : Rat) / (((x.den : Int) * (y.den : Int) : Int) : Rat)) = x + y := by
  rw [← Rat.divInt_eq_div, ← Int.natCast_mul, Rat.divInt_ofNat, Rat.add_def']
theorem q_sub (x y : Rat) : (((x.num * (y.den : Int) - y.num * (x.den : Int) : Int) : Rat) / (((x.den : Int) * (y.den : Int) : Int) : Rat)) = x - y := by
  rw [← Rat.divInt_eq_div, ← Int.natCast_mul, Rat.divInt_ofNat, Rat.sub_def']
theorem q_mul (x y : Rat) : (((x.num * y.num : Int) : Rat) / (((x.den : Int) * (y.den : Int) : Int) : Rat)) = x * y := by
  rw [← Rat.divInt_eq_div, ← Int.natCast_mul, Rat.divInt_ofNat, Rat.mul_def']
theorem q_div (x y : Rat) : (((x.num * (y.den : Int) : Int) : Rat) / (((x.den : Int) * y.num : Int) : Rat)) = x / y := by
  rw [← Rat.divInt_eq_div, Rat.div_def, Rat.inv_def, ← Rat.divInt_mul_divInt, Rat.num_divInt_den]
theorem q_lt (x y : Rat) : decide (x.num * (y.den : Int) < y.num * (x.den : Int)) = decide (x < y) := by
  rw [decide_eq_decide, Rat.lt_iff]
theorem num_ne {q : Rat} : q.num ≠ 0 ↔ q ≠ 0 := not_congr Rat.num_eq_zero
/-! sizes -/
def Bt (n : Nat) (i : Int) : Prop := i.natAbs < 2 ^ n
def Bq (n : Nat) (q : Rat) : Prop := Bt n q.num ∧ Bt n (q.den : Int)
theorem Bt.mono {n m : Nat} {i : Int} (h : Bt n i) (le : n ≤ m) : Bt m i := Nat.lt_of_lt_of_le h (Nat.pow_le_pow_right (by decide) le)
theorem bt_mul {n m : Nat} {i j : Int} (h1 : Bt n i) (h2 : Bt m j) : Bt (n + m) (i * j) := by
  unfold Bt
  rw [Int.natAbs_mul, Nat.pow_add]
  exact Nat.mul_lt_mul'' h1 h2
theorem bt_add {n m k : Nat} {i j : Int} (h1 : Bt n i) (h2 : Bt m j) (hn : n + 1 ≤ k) (hm : m + 1 ≤ k) : Bt k (i + j) := by
  have a := h1.mono (show n ≤ k - 1 by omega)
  have b := h2.mono (show m ≤ k - 1 by omega)
  unfold Bt at *
  obtain ⟨l, rfl⟩ : ∃ l, k = l + 1 := ⟨k - 1, by omega⟩
  rw [Nat.add_sub_cancel] at a b
  rw [Nat.pow_succ]
  omega
theorem bt_neg {n : Nat} {i : Int} (h : Bt n i) : Bt n (-i) := by
  unfold Bt at *
  rw [Int.natAbs_neg]
  exact h
theorem bt_sub {n m k : Nat} {i j : Int} (h1 : Bt n i) (h2 : Bt m j) (hn : n + 1 ≤ k) (hm : m + 1 ≤ k) : Bt k (i - j) := by
  rw [Int.sub_eq_add_neg]
  exact bt_add h1 (bt_neg h2) hn hm
theorem log2_of {n : Nat} {i : Int} (h : Bt n i) (h0 : 0 < n) : i.natAbs.log2 < n := PySem.Flt.log2_lt_of h0 h
theorem mulok {n m : Nat} {i j : Int} (h1 : Bt n i) (h2 : Bt m j) (h : n + m + 2 ≤ 1000000) : IntMulOk i j := by
  have a := log2_of (h1.mono (Nat.le_succ n)) (Nat.succ_pos n)
  have b := log2_of (h2.mono (Nat.le_succ m)) (Nat.succ_pos m)
  exact CMulW.ok (show i.natAbs.log2 + j.natAbs.log2 < 1000000 by omega)
theorem divok {n : Nat} {i j : Int} (h0 : j ≠ 0) (h : Bt n j) (hn : n ≤ 9000) : CDivA i j := ⟨h0, by
  have a := log2_of (h.mono (Nat.le_succ n)) (Nat.succ_pos n)
  have b : j.natAbs.log2 < 9000 := by
    by_cases z : n = 0
    · subst z
      have : j.natAbs < 1 := h
      omega
    · have := log2_of h (by omega)
      omega
  exact b⟩
theorem bt_dvs {n : Nat} {t b : Int} (h : b ≠ 0) (hb : Bt n b) : Bt n (dvs t b) := by
  have h1 : Nat.gcd t.natAbs b.natAbs ≤ b.natAbs := Nat.gcd_le_right _ (Int.natAbs_pos.mpr h)
  unfold Bt at *
  unfold dvs
  split
  · rw [Int.natAbs_neg, Int.natAbs_natCast]
    omega
  · rw [Int.natAbs_natCast]
    omega
/-- the answer of a fraction in lowest terms is no longer than what it was made of -/
theorem bq_div {n : Nat} {t b : Int} (h : b ≠ 0) (ht : Bt n t) (hb : Bt n b) : Bq n ((t : Rat) / (b : Rat)) := by
  have hg := gcd_pos (t := t) h
  rw [← Rat.divInt_eq_div]
  constructor
  · unfold Bt at *
    rw [Rat.num_divInt]
    have e1 : (b.sign * t / ((b.gcd t : Nat) : Int)).natAbs ≤ (b.sign * t).natAbs := by
      rw [Int.natAbs_ediv_of_dvd (Int.dvd_mul_of_dvd_right (Int.gcd_dvd_right _ _))]
      exact Nat.div_le_self _ _
    rw [Int.natAbs_mul, Int.natAbs_sign_of_ne_zero h, Nat.one_mul] at e1
    omega
  · unfold Bt at *
    rw [Rat.den_divInt, if_neg h]
    have e1 : b.natAbs / b.gcd t ≤ b.natAbs := Nat.div_le_self _ _
    rw [Int.natAbs_natCast]
    omega
/-! == of such data -/
theorem py_fq (q : Rat) : py (fq q) = some (.tuple [.int q.num, .int (q.den : Int)]) := by
  simp only [fq, py, pys]
theorem sh_fq (a b : Int) : SeqAt.shaped (.tuple [.int a, .int b]) = true := by
  rfl
theorem eqv_fq (x y : Rat) : PyData.eqv (.tuple [.int x.num, .int (x.den : Int)]) (.tuple [.int y.num, .int (y.den : Int)]) = decide (x = y) := by
  simp only [PyData.eqv, PyData.eqvAll, Bool.and_true]
  by_cases h : x = y
  · subst h
    simp
  · rw [decide_eq_false h]
    by_cases h1 : x.num = y.num
    · have h2 : ¬ ((x.den : Int) = (y.den : Int)) := fun z => h (Rat.ext h1 (Int.ofNat.inj z))
      rw [beq_eq_false_iff_ne.mpr h2, Bool.and_false]
    · rw [beq_eq_false_iff_ne.mpr h1, Bool.false_and]
theorem r2_eqF {K : PySem.W.Frag} {x y : Rat} : R2D K (rEqD K) (fq x) (fq y) (.bl (decide (x = y))) := by
  have h := r2_eq (K := K) (py_fq x) (py_fq y) (sh_fq _ _) (sh_fq _ _)
  rwa [eqv_fq] at h
theorem ix0 {K : PySem.W.Frag} {a b : Dt} : R2D K (rIx K) (.tup [a, b]) (.int 0) a := r2_ixT rfl
theorem ix1 {K : PySem.W.Frag} {a b : Dt} : R2D K (rIx K) (.tup [a, b]) (.int 1) b := r2_ixT rfl
theorem fx0 {K : PySem.W.Frag} {q : Rat} : R2D K (rIx K) (fq q) (.int 0) (.int q.num) := r2_ixT rfl
theorem fx1 {K : PySem.W.Frag} {q : Rat} : R2D K (rIx K) (fq q) (.int 1) (.int (q.den : Int)) := r2_ixT rfl
/-! euclid -/
theorem fmod_nat (a b : Nat) : (a : Int).fmod (b : Int) = ((a % b : Nat) : Int) := by
  rw [Int.fmod_eq_emod_of_nonneg _ (Int.natCast_nonneg b)]
  rfl
/-- a whole root -/
theorem isq_unique {n a b : Nat} (h1 : a * a ≤ n) (h2 : n < (a + 1) * (a + 1)) (h3 : b * b ≤ n) (h4 : n < (b + 1) * (b + 1)) : a = b := by
  have u : a < b + 1 := Nat.lt_of_not_le fun z => by
    have := Nat.mul_le_mul z z
    omega
  have v : b < a + 1 := Nat.lt_of_not_le fun z => by
    have := Nat.mul_le_mul z z
    omega
  omega
def sq (n : Nat) : Nat := PySem.Float64.isqrt n
theorem sq_spec (n : Nat) : sq n * sq n ≤ n ∧ n < (sq n + 1) * (sq n + 1) := PySem.Float64.isqrt_spec n
theorem sq_is {n a : Nat} (h : a * a = n) : sq n = a := isq_unique (sq_spec n).1 (sq_spec n).2 (by omega) (by
  have : (a + 1) * (a + 1) = a * a + 2 * a + 1 := by
    rw [Nat.add_mul, Nat.mul_add, Nat.mul_one, Nat.one_mul]
    omega
  omega)
theorem bt_sq {n : Nat} {m : Nat} (h : Bt n (m : Int)) : Bt n (sq m : Int) := by
  unfold Bt at *
  rw [Int.natAbs_natCast] at *
  have h1 := (sq_spec m).1
  have h2 : sq m ≤ sq m * sq m := by
    by_cases z : sq m = 0
    · omega
    · exact Nat.le_mul_of_pos_right _ (by omega)
  omega
theorem rc_isqrt {K : PySem.W.Frag} {i : Int} (h0 : 0 ≤ i) (h1 : i.toNat.log2 < 13000) : RcD K rIsqrt [.int i] (.int (sq i.toNat : Int)) := fun G H k vs r Q q => by
  obtain ⟨v, rfl, h⟩ := rps1 r
  cases h
  exact ⟨i, rfl, h0, h1, q _ G H (.refl k) (.int _)⟩
theorem mulL {i j : Int} (h : -(2 ^ 64) < i ∧ i < 2 ^ 64) : IntMulOk i j := CMul.ok (.inl h)
theorem mulR {i j : Int} (h : -(2 ^ 64) < j ∧ j < 2 ^ 64) : IntMulOk i j := CMul.ok (.inr h)
theorem fmod_bd {a b : Int} (h : 0 < b) : 0 ≤ a.fmod b ∧ a.fmod b < b := ⟨Int.fmod_nonneg_of_pos a h, Int.fmod_lt_of_pos a h⟩
/-- the root of a fraction, as data -/
def rootD (x : Rat) : Dt := if x.num < 0 then .non else if sq x.num.toNat * sq x.num.toNat = x.num.toNat ∧ sq x.den * sq x.den = x.den then .tup [.int (sq x.num.toNat : Int), .int (sq x.den : Int)] else .non
theorem nat_sq_cop {a b : Nat} (h : Nat.gcd (a * a) (b * b) = 1) : Nat.gcd a b = 1 := by
  have d1 : Nat.gcd a b ∣ Nat.gcd (a * a) (b * b) := Nat.dvd_gcd (Nat.dvd_trans (Nat.gcd_dvd_left a b) (Nat.dvd_mul_right a a)) (Nat.dvd_trans (Nat.gcd_dvd_right a b) (Nat.dvd_mul_right b b))
  rw [h] at d1
  exact Nat.dvd_one.mp d1
/-- nought or above, times itself: the fraction -/
theorem rootD_or {x : Rat} (bx : Bq 4000 x) : rootD x = .non ∨ ∃ y : Rat, Bt 9000 (y.den : Int) ∧ rootD x = fq y := by
  unfold rootD
  by_cases h : x.num < 0
  · rw [if_pos h]
    exact .inl rfl
  · rw [if_neg h]
    by_cases h2 : sq x.num.toNat * sq x.num.toNat = x.num.toNat ∧ sq x.den * sq x.den = x.den
    · rw [if_pos h2]
      have hd : sq x.den ≠ 0 := fun z => by
        have := h2.2
        rw [z] at this
        have := x.den_pos
        omega
      have hc : Nat.gcd ((sq x.num.toNat : Int)).natAbs (sq x.den) = 1 := by
        rw [Int.natAbs_natCast]
        refine nat_sq_cop ?_
        rw [h2.1, h2.2]
        have := x.reduced
        unfold Nat.Coprime at this
        rw [show x.num.toNat = x.num.natAbs by omega]
        exact this
      refine .inr ⟨⟨(sq x.num.toNat : Int), sq x.den, hd, hc⟩, ?_, rfl⟩
      exact (bt_sq bx.2).mono (by decide)
    · rw [if_neg h2]
      exact .inl rfl
theorem num_sq (x : Rat) : (x * x).num = x.num * x.num := by
  have e : x * x = x ^ 2 := by rw [show (2 : Nat) = 1 + 1 from rfl, Rat.pow_succ, Rat.pow_one]
  rw [e, Rat.num_pow]
  rw [show (2 : Nat) = 1 + 1 from rfl, Int.pow_succ, Int.pow_succ, Int.pow_zero, Int.one_mul]
theorem den_sq (x : Rat) : (x * x).den = x.den * x.den := by
  have e : x * x = x ^ 2 := by rw [show (2 : Nat) = 1 + 1 from rfl, Rat.pow_succ, Rat.pow_one]
  rw [e, Rat.den_pow]
  exact Nat.pow_two x.den
theorem abs_parts (x : Rat) : x.abs.num = (x.num.natAbs : Int) ∧ x.abs.den = x.den := by
  rcases Rat.nonneg_total x with h | h
  · rw [Rat.abs_of_nonneg h]
    have := Rat.num_nonneg.mpr h
    exact ⟨by omega, rfl⟩
  · have h' : x ≤ 0 := by
      have := Rat.neg_le_neg h
      rwa [Rat.neg_neg] at this
    rw [Rat.abs_of_nonpos h']
    have := Rat.num_nonneg.mpr h
    rw [Rat.neg_num] at this
    exact ⟨by rw [Rat.neg_num]; omega, rfl⟩
theorem den_abs (x : Rat) : x.abs.den = x.den := (abs_parts x).2
theorem fq_abs (x : Rat) : fq x.abs = .tup [.int (x.num.natAbs : Int), .int (x.den : Int)] := by
  unfold fq
  rw [(abs_parts x).1, (abs_parts x).2]
theorem rootD_sq (x : Rat) : rootD (x * x) = fq x.abs := by
  unfold rootD
  rw [num_sq, den_sq]
  have h0 : ¬ x.num * x.num < 0 := by
    have : x.num * x.num = ((x.num.natAbs * x.num.natAbs : Nat) : Int) := Int.natAbs_mul_self.symm
    omega
  have e : (x.num * x.num).toNat = x.num.natAbs * x.num.natAbs := by
    rw [← Int.natAbs_mul_self]
    rfl
  rw [if_neg h0, e, sq_is (n := x.num.natAbs * x.num.natAbs) rfl, sq_is (n := x.den * x.den) rfl, if_pos ⟨rfl, rfl⟩]
  rw [fq_abs]
def R_low (ds : List Dt) (d : Dt) : Prop := ∃ t b : Int, ds = [.int t, .int b] ∧ b ≠ 0 ∧ Bt 9000 b ∧ d = fq ((t : Rat) / (b : Rat))
def R_sum (ds : List Dt) (d : Dt) : Prop := ∃ x y : Rat, ds = [fq x, fq y] ∧ Bq 4400 x ∧ Bq 4400 y ∧ d = fq (x + y)
def R_gap (ds : List Dt) (d : Dt) : Prop := ∃ x y : Rat, ds = [fq x, fq y] ∧ Bq 4400 x ∧ Bq 4400 y ∧ d = fq (x - y)
def R_prod (ds : List Dt) (d : Dt) : Prop := ∃ x y : Rat, ds = [fq x, fq y] ∧ Bq 4400 x ∧ Bq 4400 y ∧ d = fq (x * y)
def R_quot (ds : List Dt) (d : Dt) : Prop := ∃ x y : Rat, ds = [fq x, fq y] ∧ Bq 4400 x ∧ Bq 4400 y ∧ y ≠ 0 ∧ d = fq (x / y)
def R_less (ds : List Dt) (d : Dt) : Prop := ∃ x y : Rat, ds = [fq x, fq y] ∧ Bq 4400 x ∧ Bq 4400 y ∧ d = .bl (decide (x < y))
theorem q_scale {p t b : Int} (h : p ≠ 0) : (((p * t : Int) : Rat) / ((p * b : Int) : Rat)) = (t : Rat) / (b : Rat) := by
  rw [← Rat.divInt_eq_div, ← Rat.divInt_eq_div, Rat.divInt_mul_left h]
theorem r2_eqS {K : PySem.W.Frag} {a b : Str} (ha : SeqAt.shaped (.str a) = true) (hb : SeqAt.shaped (.str b) = true) : R2D K (rEqD K) (.str a) (.str b) (.bl (a == b)) := by
  have h := r2_eq (K := K) (x := .str a) (y := .str b) (p := .str a) (q := .str b) rfl rfl ha hb
  rwa [PyData.eqv] at h
theorem r2_neS {K : PySem.W.Frag} {a b : Str} (ha : SeqAt.shaped (.str a) = true) (hb : SeqAt.shaped (.str b) = true) : R2D K (rNeD K) (.str a) (.str b) (.bl (!(a == b))) := by
  have h := r2_ne (K := K) (x := .str a) (y := .str b) (p := .str a) (q := .str b) rfl rfl ha hb
  rwa [PyData.eqv] at h
theorem r2_eqB {K : PySem.W.Frag} {a b : Bool} : R2D K (rEqD K) (.bl a) (.bl b) (.bl (a == b)) := by
  have h := r2_eq (K := K) (x := .bl a) (y := .bl b) (p := .bool a) (q := .bool b) rfl rfl rfl rfl
  rwa [PyData.eqv] at h
theorem r2_neB {K : PySem.W.Frag} {a b : Bool} : R2D K (rNeD K) (.bl a) (.bl b) (.bl (!(a == b))) := by
  have h := r2_ne (K := K) (x := .bl a) (y := .bl b) (p := .bool a) (q := .bool b) rfl rfl rfl rfl
  rwa [PyData.eqv] at h
theorem bq_add {n m : Nat} {x y : Rat} (h1 : Bq n x) (h2 : Bq m y) : Bq (n + m + 1) (x + y) := by
  rw [← q_add]
  exact bq_div (Int.mul_ne_zero (den_ne x) (den_ne y)) (bt_add (bt_mul h1.1 h2.2) (bt_mul h2.1 h1.2) (by omega) (by omega)) ((bt_mul h1.2 h2.2).mono (by omega))
theorem bq_sub {n m : Nat} {x y : Rat} (h1 : Bq n x) (h2 : Bq m y) : Bq (n + m + 1) (x - y) := by
  rw [← q_sub]
  exact bq_div (Int.mul_ne_zero (den_ne x) (den_ne y)) (bt_sub (bt_mul h1.1 h2.2) (bt_mul h2.1 h1.2) (by omega) (by omega)) ((bt_mul h1.2 h2.2).mono (by omega))
theorem bq_mul {n m : Nat} {x y : Rat} (h1 : Bq n x) (h2 : Bq m y) : Bq (n + m) (x * y) := by
  rw [← q_mul]
  exact bq_div (Int.mul_ne_zero (den_ne x) (den_ne y)) (bt_mul h1.1 h2.1) (bt_mul h1.2 h2.2)
theorem bq_quo {n m : Nat} {x y : Rat} (h1 : Bq n x) (h2 : Bq m y) (y0 : y ≠ 0) : Bq (n + m) (x / y) := by
  rw [← q_div]
  exact bq_div (Int.mul_ne_zero (den_ne x) (num_ne.mpr y0)) (bt_mul h1.1 h2.2) (bt_mul h1.2 h2.1)
theorem Bq.mono {n m : Nat} {q : Rat} (h : Bq n q) (le : n ≤ m) : Bq m q := ⟨h.1.mono le, h.2.mono le⟩
theorem bq_one : Bq 1 1 := ⟨by show Int.natAbs 1 < 2 ^ 1; decide, by show Int.natAbs 1 < 2 ^ 1; decide⟩
theorem bq_zero : Bq 1 0 := ⟨by show Int.natAbs 0 < 2 ^ 1; decide, by show Int.natAbs 1 < 2 ^ 1; decide⟩
theorem bq_neg {n : Nat} {q : Rat} (h : Bq n q) : Bq n (-q) := ⟨by rw [Rat.neg_num]; exact bt_neg h.1, h.2⟩
theorem low_ok {t b : Int} (h : b ≠ 0) (hb : Bt 9000 b) : R_low [.int t, .int b] (fq ((t : Rat) / (b : Rat))) := ⟨t, b, rfl, h, hb, rfl⟩
theorem sum_ok {x y : Rat} (h1 : Bq 4400 x) (h2 : Bq 4400 y) : R_sum [fq x, fq y] (fq (x + y)) := ⟨x, y, rfl, h1, h2, rfl⟩
theorem gap_ok {x y : Rat} (h1 : Bq 4400 x) (h2 : Bq 4400 y) : R_gap [fq x, fq y] (fq (x - y)) := ⟨x, y, rfl, h1, h2, rfl⟩
theorem prod_ok {x y : Rat} (h1 : Bq 4400 x) (h2 : Bq 4400 y) : R_prod [fq x, fq y] (fq (x * y)) := ⟨x, y, rfl, h1, h2, rfl⟩
theorem less_ok {x y : Rat} (h1 : Bq 4400 x) (h2 : Bq 4400 y) : R_less [fq x, fq y] (.bl (decide (x < y))) := ⟨x, y, rfl, h1, h2, rfl⟩
theorem quot_ok {x y : Rat} (h1 : Bq 4400 x) (h2 : Bq 4400 y) (h : y ≠ 0) : R_quot [fq x, fq y] (fq (x / y)) := ⟨x, y, rfl, h1, h2, h, rfl⟩
end Z
namespace Z
open PySem PySem.Spec PyProof.Rows L2 RZ
open Evl (Ex)
def topS (i : Nat) : Stmt := PySem.Challenge.pw_seatclocks_k02_roots_told.main.body.getD i (.Pass ⟨0, 0, 0, 0⟩)
/-! ### small tactics over the words of this text: walk_at "ev" evaluates an expression's reading, "et" a test's, "ea" arguments', "bq" "bt" sizes, "rok" what a callee promises -/
local macro_rules | `(tactic| walk_at "bt0") => `(tactic| first
  | with_reducible assumption
  | exact (And.left (by assumption : Bq _ _))
  | exact (And.right (by assumption : Bq _ _))
  | (with_reducible apply bt_mul; walk_at "bt0"; walk_at "bt0"))
local macro_rules | `(tactic| walk_at "bt") => `(tactic| (apply Bt.mono; walk_at "bt0"; decide))
local macro_rules | `(tactic| walk_at "bq0") => `(tactic| first
  | with_reducible assumption
  | (with_reducible apply bq_add; walk_at "bq0"; walk_at "bq0")
  | (with_reducible apply bq_sub; walk_at "bq0"; walk_at "bq0")
  | (with_reducible apply bq_mul; walk_at "bq0"; walk_at "bq0")
  | (with_reducible apply bq_neg; walk_at "bq0")
  | (with_reducible apply bq_jn; walk_at "bq0"; walk_at "bq0"; walk_at "ne")
  | exact bq_one
  | exact bq_zero
  | (with_reducible apply bq_quo; walk_at "bq0"; walk_at "bq0"; walk_at "ne"))
local macro_rules | `(tactic| walk_at "bq") => `(tactic| (apply Bq.mono; walk_at "bq0"; decide))
local macro_rules | `(tactic| walk_at "ne") => `(tactic| first | assumption | exact den_ne _ | omega | decide | (apply num_ne.mpr; assumption))
local macro_rules | `(tactic| walk_at "mul") => `(tactic| first
  | exact mulL ⟨by decide, by decide⟩
  | exact mulR ⟨by decide, by decide⟩
  | exact mulL ⟨by omega, by omega⟩
  | exact mulR ⟨by omega, by omega⟩
  | (apply mulok; walk_at "bt0"; walk_at "bt0"; decide))
local macro_rules | `(tactic| walk_at "r2") => `(tactic| first
  | exact r2_add
  | exact r2_sub
  | exact fx0
  | exact fx1
  | exact ix0
  | exact ix1
  | exact r2_lt
  | exact r2_le
  | exact r2_gt
  | exact r2_ge
  | exact r2_eqI
  | exact r2_neI
  | exact r2_eqF
  | exact r2_isN
  | exact r2_notN
  | exact r2_eqB
  | exact r2_neB
  | exact r2_isB
  | exact r2_notB
  | exact r2_eqS (by decide +kernel) (by decide +kernel)
  | exact r2_neS (by decide +kernel) (by decide +kernel)
  | (apply r2_mul; walk_at "mul")
  | (apply r2_mod; walk_at "ne")
  | exact r2_pow ⟨by decide, by decide, by decide⟩
  | exact r2_ixT rfl
  | exact r2_ixL rfl
  | exact r2_cat (by exact Nat.le_of_ble_eq_true rfl))
local macro_rules | `(tactic| walk_at "rc") => `(tactic| first
  | exact rc_abs | exact rc_max | exact rc_min | exact rc_gcd | exact rc_lenT | exact rc_lenL | exact rc_intB)
local macro_rules | `(tactic| walk_at "kb") => `(tactic| first
  | exact kb_ii | exact kb_ib | exact kb_tt | exact kb_bb | exact kb_ss | exact kb_is | assumption)
local macro_rules | `(tactic| walk_at "rok") => `(tactic| first
  | exact low_ok (by walk_at "ne") (by walk_at "bt")
  | exact sum_ok (by walk_at "bq") (by walk_at "bq")
  | exact gap_ok (by walk_at "bq") (by walk_at "bq")
  | exact prod_ok (by walk_at "bq") (by walk_at "bq")
  | exact less_ok (by walk_at "bq") (by walk_at "bq")
  | exact quot_ok (by walk_at "bq") (by walk_at "bq") (by walk_at "ne")
  | exact joined_ok (by walk_at "jb") (by walk_at "ne"))
local macro_rules | `(tactic| walk_at "jb") => `(tactic| first | assumption | (refine ⟨_, _, by walk_at "bq0", by walk_at "bq0", ?_⟩; decide))
local macro_rules | `(tactic| walk_at "btd") => `(tactic| first | assumption | (apply Bt.mono; exact And.right (by assumption : Bq _ _); decide))
local macro_rules | `(tactic| walk_at "ea") => `(tactic| first
  | exact ea_nil
  | (apply ea_cons; walk_at "ev"; walk_at "ea"))
local macro_rules | `(tactic| walk_at "ev") => `(tactic| first
  | exact ev_var rfl
  | exact ev_int
  | exact ev_bl
  | exact ev_str
  | exact ev_non
  | exact ev_dct
  | (apply ev_isi; walk_at "ev"; walk_at "kb")
  | (apply ev_op; walk_at "ev"; walk_at "ev"; walk_at "r2")
  | (apply ev_un; walk_at "ev"; exact r1_neg)
  | (apply ev_tup; walk_at "ea"; (exact Nat.le_of_ble_eq_true rfl))
  | (apply ev_lst; walk_at "ea"; (exact Nat.le_of_ble_eq_true rfl))
  | (apply ev_callX; walk_at "ea"; walk_at "rok")
  | (apply ev_call; walk_at "ea"; walk_at "rok")
  | (apply ev_cb; walk_at "ea"; walk_at "rc")
  | (apply ev_andV; walk_at "ev"; (intro _; walk_at "ev"))
  | (apply ev_orV; walk_at "ev"; (intro _; walk_at "ev"))
  | (apply ev_notV; walk_at "ev"))
local macro_rules | `(tactic| walk_at "et") => `(tactic| first
  | (apply et_test; walk_at "ev")
  | (apply et_B; walk_at "ev")
  | (apply et_not; walk_at "et")
  | (apply et_and; walk_at "et"; (intro _; walk_at "et"))
  | (apply et_or; walk_at "et"; (intro _; walk_at "et")))

local macro_rules | `(tactic| walk_at "nt") => `(tactic| first
  | (apply nt_asg; walk_at "ev")
  | (apply nt_par; walk_at "ea"))

local macro_rules | `(tactic| walk_at "wk") => `(tactic| first
  | exact .nil
  | (refine .cons (.same _) ?_; walk_at "wk")
  | (refine .cons (.no _) ?_; walk_at "wk"))
abbrev s_root_of : Stmt := topS 2
theorem sc_root_of : FnScope ["one", "top", "bottom"] ["one"] (defScope s_root_of) := ⟨rfl, rfl, rfl, by decide +kernel, rfl, by decide +kernel, by decide +kernel⟩
abbrev s__law_cell_at : Stmt := topS 4
theorem sc__law_cell_at : FnScope ["_law_script", "_law_k"] ["_law_script", "_law_k"] (defScope s__law_cell_at) := ⟨rfl, rfl, rfl, by decide +kernel, rfl, by decide +kernel, by decide +kernel⟩
abbrev s__law_pot : Stmt := topS 5
theorem sc__law_pot : FnScope ["_law_cell", "_law_number", "_law_j", "_law_more"] ["_law_cell"] (defScope s__law_pot) := ⟨rfl, rfl, rfl, by decide +kernel, rfl, by decide +kernel, by decide +kernel⟩
abbrev s__law_take : Stmt := topS 6
theorem sc__law_take : FnScope ["_law_pot_here", "_law_far", "_law_found"] ["_law_pot_here", "_law_far"] (defScope s__law_take) := ⟨rfl, rfl, rfl, by decide +kernel, rfl, by decide +kernel, by decide +kernel⟩
abbrev s__law_low : Stmt := topS 7
theorem sc__law_low : FnScope ["_law_top", "_law_bottom", "_law_one", "_law_other"] ["_law_top", "_law_bottom"] (defScope s__law_low) := ⟨rfl, rfl, rfl, by decide +kernel, rfl, by decide +kernel, by decide +kernel⟩
abbrev s__law_frac : Stmt := topS 8
theorem sc__law_frac : FnScope ["_law_pot_here", "_law_way", "_law_top"] ["_law_pot_here"] (defScope s__law_frac) := ⟨rfl, rfl, rfl, by decide +kernel, rfl, by decide +kernel, by decide +kernel⟩
abbrev s__law_whole : Stmt := topS 9
theorem sc__law_whole : FnScope ["_law_thing"] ["_law_thing"] (defScope s__law_whole) := ⟨rfl, rfl, rfl, by decide +kernel, rfl, by decide +kernel, by decide +kernel⟩
abbrev s__law_good : Stmt := topS 10
theorem sc__law_good : FnScope ["_law_thing"] ["_law_thing"] (defScope s__law_good) := ⟨rfl, rfl, rfl, by decide +kernel, rfl, by decide +kernel, by decide +kernel⟩
abbrev s__law_same : Stmt := topS 11
theorem sc__law_same : FnScope ["_law_thing", "_law_due"] ["_law_thing", "_law_due"] (defScope s__law_same) := ⟨rfl, rfl, rfl, by decide +kernel, rfl, by decide +kernel, by decide +kernel⟩
abbrev s__law_prod : Stmt := topS 12
theorem sc__law_prod : FnScope ["_law_one", "_law_other"] ["_law_one", "_law_other"] (defScope s__law_prod) := ⟨rfl, rfl, rfl, by decide +kernel, rfl, by decide +kernel, by decide +kernel⟩
abbrev s__law_root : Stmt := topS 13
theorem sc__law_root : FnScope ["_law_number", "_law_found", "_law_bit"] ["_law_number"] (defScope s__law_root) := ⟨rfl, rfl, rfl, by decide +kernel, rfl, by decide +kernel, by decide +kernel⟩
abbrev s__law_rooted : Stmt := topS 14
theorem sc__law_rooted : FnScope ["_law_one", "_law_top", "_law_bottom"] ["_law_one"] (defScope s__law_rooted) := ⟨rfl, rfl, rfl, by decide +kernel, rfl, by decide +kernel, by decide +kernel⟩
abbrev s__law_right : Stmt := topS 15
theorem sc__law_right : FnScope ["_law_one", "_law_due", "_law_found"] ["_law_one"] (defScope s__law_right) := ⟨rfl, rfl, rfl, by decide +kernel, rfl, by decide +kernel, by decide +kernel⟩
abbrev s_law : Stmt := topS 16
theorem sc_law : FnScope ["_law_script", "_law_number", "_law_pot_here", "_law_one", "_law_square", "_law_top", "_law_bottom"] ["_law_script"] (defScope s_law) := ⟨rfl, rfl, rfl, by decide +kernel, rfl, by decide +kernel, by decide +kernel⟩
structure Txt (K : PySem.W.Frag) (mg : Str → Option Value) (ca fa ka : Nat → Addr) : Prop where
  d_root_of : Dd K mg "root_of" s_root_of ["one"]
  d__law_cell_at : Dd K mg "_law_cell_at" s__law_cell_at ["_law_script", "_law_k"]
  d__law_pot : Dd K mg "_law_pot" s__law_pot ["_law_cell"]
  d__law_take : Dd K mg "_law_take" s__law_take ["_law_pot_here", "_law_far"]
  d__law_low : Dd K mg "_law_low" s__law_low ["_law_top", "_law_bottom"]
  d__law_frac : Dd K mg "_law_frac" s__law_frac ["_law_pot_here"]
  d__law_whole : Dd K mg "_law_whole" s__law_whole ["_law_thing"]
  d__law_good : Dd K mg "_law_good" s__law_good ["_law_thing"]
  d__law_same : Dd K mg "_law_same" s__law_same ["_law_thing", "_law_due"]
  d__law_prod : Dd K mg "_law_prod" s__law_prod ["_law_one", "_law_other"]
  d__law_root : Dd K mg "_law_root" s__law_root ["_law_number"]
  d__law_rooted : Dd K mg "_law_rooted" s__law_rooted ["_law_one"]
  d__law_right : Dd K mg "_law_right" s__law_right ["_law_one"]
  d_law : Dd K mg "law" s_law ["_law_script"]
  m_abs : mg "abs" = none
  m_bool : mg "bool" = none
  m_int : mg "int" = none
  m_isinstance : mg "isinstance" = none
  m_len : mg "len" = none
  m_max : mg "max" = none
  m_min : mg "min" = none
  m_range : mg "range" = none
  m_tuple : mg "tuple" = none
  g_isqrt : mg "isqrt" = some (.builtin "math.isqrt")
section
variable {P : Program} {w : World} {K : PySem.W.Frag} {mg : Str → Option Value} {base : Heap} {ca fa ka : Nat → Addr}

def R_root_of (ds : List Dt) (d : Dt) : Prop := ∃ x : Rat, ds = [fq x] ∧ Bq 4000 x ∧ d = rootD x
theorem h_root_of (T : Txt K mg ca fa ka) : Has P w K mg base CX0 1 "root_of" ["one"] (spP K R_root_of) := by
  refine T.d_root_of.pure sc_root_of (fun ds d h => by obtain ⟨x, rfl, _⟩ := h; rfl) (fun f cdv A outer s H E hr => (pss_cons (ps_if (pt_cmpR op_lt (pe_ix (ixK (K := K) rfl) (pv 0) pe_int (fun _ _ => rfl)) pe_int (nomark _)) (pss_one (ps_ret pe_non)) pss_nil) (pss_cons (ps_set (i := 1) sc_root_of.nd rfl (Or.inl rfl) (pe_callBfun cr_isqrt (by rfl) T.g_isqrt (pa_cons (pe_ix (ixK (K := K) rfl) (pv 0) pe_int (fun _ _ => rfl)) pa_nil))) (pss_cons (ps_set (i := 2) sc_root_of.nd rfl (Or.inl rfl) (pe_callBfun cr_isqrt (by rfl) T.g_isqrt (pa_cons (pe_ix (ixK (K := K) rfl) (pv 0) pe_int (fun _ _ => rfl)) pa_nil))) (pss_cons (ps_if (PW.pt (pw_or (pt_cmpR (neK (K := K) rfl hr.units) (pe_op op_mulA (pv 1) (pv 1)) (pe_ix (ixK (K := K) rfl) (pv 0) pe_int (fun _ _ => rfl)) (nomark _)) (pw_or1 (pt_cmpR (neK (K := K) rfl hr.units) (pe_op op_mulA (pv 2) (pv 2)) (pe_ix (ixK (K := K) rfl) (pv 0) pe_int (fun _ _ => rfl)) (nomark _))))) (pss_one (ps_ret pe_non)) pss_nil) (pss_one (ps_ret (pe_tup (pa_cons (pv 1) (pa_cons (pv 2) pa_nil)))))))))) ?_
  rintro ds d ⟨x, rfl, ⟨bn, bd⟩, rfl⟩
  refine rt_cond (et_test (ev_op (ev_op (ev_var rfl) ev_int fx0) ev_int r2_lt)) (fun hb => ?_) (fun hb => ?_)
  · refine rt_is (rt_ret ev_non) ?_
    unfold rootD
    rw [if_pos (of_decide_eq_true hb)]
  · have h0 : ¬ x.num < 0 := of_decide_eq_false hb
    have hn : ((x.num.toNat : Nat) : Int) = x.num := Int.toNat_of_nonneg (by omega)
    have l1 : x.num.toNat.log2 < 13000 := by
      have := log2_of bn (by decide)
      rw [show x.num.toNat = x.num.natAbs by omega]
      omega
    have l2 : (x.den : Int).toNat.log2 < 13000 := by
      have := log2_of bd (by decide)
      rw [Int.natAbs_natCast] at this
      rw [Int.toNat_natCast]
      omega
    refine rt_seq (nt_asg (ev_cb (ea_cons (ev_op (ev_var rfl) ev_int fx0) ea_nil) (rc_isqrt (by omega) l1))) (rt_seq (nt_asg (ev_cb (ea_cons (ev_op (ev_var rfl) ev_int fx1) ea_nil) (rc_isqrt (by omega) l2))) ?_)
    have b1 : Bt 4000 (sq x.num.toNat : Int) := bt_sq (by rw [hn]; exact bn)
    have b2 : Bt 4000 (sq x.den : Int) := bt_sq bd
    refine rt_cond (et_or (et_test (ev_op (ev_op (ev_var rfl) (ev_var rfl) (r2_mul (mulok b1 b1 (by decide)))) (ev_op (ev_var rfl) ev_int fx0) r2_neI)) (fun _ => et_test (ev_op (ev_op (ev_var rfl) (ev_var rfl) (r2_mul (mulok (by exact b2) (by exact b2) (by decide)))) (ev_op (ev_var rfl) ev_int fx1) r2_neI))) (fun hb => ?_) (fun hb => ?_)
    · refine rt_is (rt_ret ev_non) ?_
      unfold rootD
      rw [if_neg h0, if_neg ?_]
      rintro ⟨e1, e2⟩
      have a1 : (sq x.num.toNat : Int) * (sq x.num.toNat : Int) = x.num := by rw [← Int.natCast_mul, e1, hn]
      have a2 : (sq x.den : Int) * (sq x.den : Int) = (x.den : Int) := by rw [← Int.natCast_mul, e2]
      change (!((sq x.num.toNat : Int) * (sq x.num.toNat : Int) == x.num) || !((sq x.den : Int) * (sq x.den : Int) == (x.den : Int))) = true at hb
      rw [a1, a2] at hb
      simp at hb
    · refine rt_is (rt_ret (ev_tup (ea_cons (ev_var rfl) (ea_cons (ev_var rfl) ea_nil)))) ?_
      change (!((sq x.num.toNat : Int) * (sq x.num.toNat : Int) == x.num) || !((sq x.den : Int) * (sq x.den : Int) == (x.den : Int))) = false at hb
      rw [Bool.or_eq_false_iff, Bool.not_eq_false', Bool.not_eq_false', beq_iff_eq, beq_iff_eq] at hb
      unfold rootD
      rw [if_neg h0, if_pos]
      · rfl
      · refine ⟨?_, ?_⟩
        · have := hb.1
          rw [← Int.natCast_mul] at this
          omega
        · have := hb.2
          rw [← Int.natCast_mul] at this
          omega


def R_cell_at (ds : List Dt) (d : Dt) : Prop := ∃ (ns : List Int) (k : Nat), ds = [.lst (ns.map Dt.int), .int k] ∧ d = .int (ns.getD k 0)
theorem cell_ok {ns : List Int} {k : Nat} : R_cell_at [.lst (ns.map Dt.int), .int k] (.int (ns.getD k 0)) := ⟨ns, k, rfl, rfl⟩
local macro_rules | `(tactic| walk_at "rok") => `(tactic| exact cell_ok)
theorem h__law_cell_at (T : Txt K mg ca fa ka) : Has P w K mg base CX0 1 "_law_cell_at" ["_law_script", "_law_k"] (spP K R_cell_at) := by
  refine T.d__law_cell_at.pure sc__law_cell_at (fun ds d h => by obtain ⟨ns, k, rfl, _⟩ := h; rfl) (fun f cdv A outer s H E hr => (pss_cons (ps_if (pt_cmpR op_lt (pv 1) (pe_callB (lenK (K := K) rfl) (by rfl) T.m_len (by decide +kernel) (pa_cons (pv 0) pa_nil)) (nomark _)) (pss_one (ps_ret (pe_ix (ixK (K := K) rfl) (pv 0) (pv 1) (fun _ _ => rfl)))) pss_nil) (pss_one (ps_ret pe_int)))) ?_
  rintro ds d ⟨ns, k, rfl, rfl⟩
  refine rt_cond (et_test (ev_op (ev_var rfl) (ev_cb (ea_cons (ev_var rfl) ea_nil) rc_lenL) r2_lt)) (fun hb => ?_) (fun hb => ?_)
  · have hk := of_decide_eq_true hb
    rw [List.length_map] at hk
    have hk' : k < ns.length := by omega
    refine rt_ret (ev_op (ev_var rfl) (ev_var rfl) (r2_ixL ?_))
    rw [List.getD_eq_getElem?_getD, List.getElem?_eq_getElem hk', Option.getD_some]
    exact atI_nat (by rw [List.getElem?_map, List.getElem?_eq_getElem hk']; rfl)
  · have hk := of_decide_eq_false hb
    rw [List.length_map] at hk
    refine rt_is (rt_ret ev_int) ?_
    rw [List.getD_eq_getElem?_getD, List.getElem?_eq_none (by omega), Option.getD_none]


theorem h__law_pot (T : Txt K mg ca fa ka) : Has P w K mg base CX0 1 "_law_pot" ["_law_cell"] (spNew K fun ds => ∃ c : Int, ds = [.int c]) := by
  refine T.d__law_pot.newpot sc__law_pot (fun ds h => by obtain ⟨c, rfl⟩ := h; rfl) (fun f cdv A outer s H E hr => (pss_cons (ps_if (pt_cmpR op_ge (pv 0) (pe_op op_pow pe_int pe_int) (nomark _)) (pss_one (ps_ret (pe_lst (pa_cons (pe_op op_sub (pv 0) (pe_op op_pow pe_int pe_int)) pa_nil)))) pss_nil) (pss_cons (ps_set (i := 1) sc__law_pot.nd rfl (Or.inl rfl) pe_int) (pss_cons (ps_for PassesOwn.never rfl (pi_range1 rfl T.m_range (pa_cons pe_int pa_nil)) (pg_name (i := 2) sc__law_pot.nd rfl (Or.inl rfl)) (pss_cons (ps_set (i := 3) sc__law_pot.nd rfl (Or.inl rfl) (pe_op op_modN (pe_op op_mulA (pe_op op_add (pe_op op_add (pe_op op_modN (pv 0) pe_int) (pe_op op_mulA pe_int (pv 2))) pe_int) pe_int) pe_int)) (pss_cons (ps_set (i := 3) sc__law_pot.nd rfl (Or.inl rfl) (pe_op op_modN (pe_op op_add (pe_op op_add (pe_op op_mulA (pv 3) (pv 3)) (pe_op op_mulA pe_int (pv 2))) pe_int) pe_int)) (pss_one (ps_set (i := 1) sc__law_pot.nd rfl (Or.inl rfl) (pe_op op_add (pe_op op_mulA (pv 1) pe_int) (pv 3))))))) (pss_one (ps_ret (pe_lst (pa_cons (pv 1) pa_nil)))))))) ?_
  rintro ds ⟨c, rfl⟩ G H σ k f D q
  have new : ∀ (e : Int) (te : TE) (sl : List Sl) (G1 H1 : Hp) (σ1 : L2.St), Nx G H G1 H1 → FrD K G1 σ1 sl → Ev K te sl (.int e) → tRet (tLst (tCons te tNil)) D σ1 H1 := fun e te sl G1 H1 σ1 n1 f1 h =>
    h G1 H1 σ1 n1.k f1 _ fun v G2 H2 n2 r2 => by
      cases r2
      refine ⟨sz_ok (by decide : 1 ≤ 100000), fun p hp => ?_⟩
      have n12 := n1.trans n2
      have hp0 : H p = none := free_of n12.h hp
      exact q p e G2 _ ⟨n12.g, n12.h.trans (Ex.new hp), n12.k.trans (Ex.new hp), n12.f⟩ hp0 (free_of n12.k hp) upd_same
  have ht : EvT K (tTest (tOp (rI0 fun i j => .bl (decide (j ≤ i))) (tVar 0) (tOp (rI CPow fun i j => .int (i ^ j.toNat)) (tC (.int 10)) (tC (.int 18))))) [.d (.int c), .no, .no, .no] (decide ((10 : Int) ^ (18 : Int).toNat ≤ c)) :=
    et_test (ev_op (ev_var rfl) (ev_op ev_int ev_int (r2_pow ⟨by decide, by decide, by decide⟩)) r2_ge)
  refine ht G H σ k f _ fun G1 H1 n1 => ?_
  by_cases hc : (10 : Int) ^ (18 : Int).toNat ≤ c
  · rw [decide_eq_true hc]
    exact new _ _ _ G1 H1 σ n1 (FrD.mono n1.g f) (ev_op (ev_var rfl) (ev_op ev_int ev_int (r2_pow ⟨by decide, by decide, by decide⟩)) r2_sub)
  · rw [decide_eq_false hc]
    refine iteF ?_
    dsimp only [tNext]
    refine (nt_asg ev_int : Nt K (tAsg (tC (.int 0)) (gName 1)) _ _) G1 H1 σ n1.k (FrD.mono n1.g f) _ fun σ2 G2 H2 n2 f2 => ?_
    refine (ip_for (K := K) (ps := []) (n := 64) (I := fun _ sl => ∃ (n : Int) (s2 s3 : Sl), sl = [.d (.int c), .d (.int n), s2, s3]) (ea_cons ev_int ea_nil) ⟨by decide, by decide⟩ ⟨0, _, _, rfl⟩ ?_) G2 H2 σ2 n2.k f2 .nil _ fun σ3 sl3 G3 H3 ⟨n, s2, s3, e⟩ n3 _ f3 => ?_
    · rintro i sl hi ⟨n, s2, s3, rfl⟩
      have p1 : IntMulOk ((c.fmod 2147483629 + 7919 * (i : Int) + 1)) 48271 := mulR ⟨by decide, by decide⟩
      refine ip_nt (nt_asg (ev_op (ev_op (ev_op (ev_op (ev_op (ev_var rfl) ev_int (r2_mod (by decide))) (ev_op ev_int (ev_var rfl) (r2_mul (mulL ⟨by decide, by decide⟩))) r2_add) ev_int r2_add) ev_int (r2_mul p1)) ev_int (r2_mod (by decide)))) ?_
      generalize hm : ((c.fmod 2147483629 + 7919 * (i : Int) + 1) * 48271).fmod 2147483647 = m
      have bm : -(2 ^ 64) < m ∧ m < 2 ^ 64 := by
        have := fmod_bd (a := (c.fmod 2147483629 + 7919 * (i : Int) + 1) * 48271) (b := 2147483647) (by decide)
        rw [hm] at this
        omega
      refine ip_nt (nt_asg (ev_op (ev_op (ev_op (ev_op (ev_var rfl) (ev_var rfl) (r2_mul (mulL bm))) (ev_op ev_int (ev_var rfl) (r2_mul (mulL ⟨by decide, by decide⟩))) r2_add) ev_int r2_add) ev_int (r2_mod (by decide)))) ?_
      exact ip_end (nt_asg (ev_op (ev_op (ev_var rfl) ev_int (r2_mul (mulR ⟨by decide, by decide⟩))) (ev_var rfl) r2_add)) ⟨_, _, _, rfl⟩
    · subst e
      exact new n _ _ G3 H3 σ3 ((n1.trans n2).trans n3.nx) f3 (ev_var rfl)


theorem h__law_take (T : Txt K mg ca fa ka) : Has P w K mg base CX0 1 "_law_take" ["_law_pot_here", "_law_far"] spTake := by
  refine T.d__law_take.any sc__law_take (fun vs H Q E h => by obtain ⟨p, n, f, rfl, _⟩ := h; rfl) (fun f cdv A outer s H E hr => (pss_cons (ps_set (i := 2) sc__law_take.nd rfl (Or.inl rfl) (pe_op op_modN (pe_ix (ixK (K := K) rfl) (pv 0) pe_int (fun _ _ => rfl)) (pv 1))) (pss_cons (ps_asg (pe_op op_fdivA (pe_ix (ixK (K := K) rfl) (pv 0) pe_int (fun _ _ => rfl)) (pv 1)) (pg_sub (pv 0) pe_int set_list)) (pss_one (ps_ret (pv 2)))))) ?_
  rintro vs H Q E ⟨p, n, f, rfl, hp, h0, h9, q⟩
  have at0 : atI [V.int n] 0 = some (.int n) := rfl
  refine ⟨.ref p, rfl, .inl ⟨p, [.int n], 0, .int n, rfl, rfl, .inl (.inl hp), at0, .int f, rfl, n, f, rfl, rfl, by omega, ?_⟩⟩
  refine ⟨.ref p, rfl, .inl ⟨p, [.int n], 0, .int n, rfl, rfl, .inl (.inl hp), at0, .int f, rfl, n, f, rfl, rfl, ⟨by omega, h9⟩, ?_⟩⟩
  refine ⟨.ref p, rfl, p, [.int n], 0, 0, rfl, rfl, hp, rfl, .int (n.fmod f), rfl, ?_⟩
  have b := fmod_bd (a := n) h0
  exact q _ _ b.1 b.2


theorem h__law_low (T : Txt K mg ca fa ka) : Has P w K mg base CX0 1 "_law_low" ["_law_top", "_law_bottom"] (spP K R_low) := by
  refine T.d__law_low.pure sc__law_low (fun ds d h => by obtain ⟨t, b, rfl, _⟩ := h; rfl) (fun f cdv A outer s H E hr => (pss_cons (ps_par (i := 2) (j := 3) rfl sc__law_low.nd rfl rfl (by decide) rfl rfl (pa_cons (pe_callB cr_abs (by rfl) T.m_abs (by decide +kernel) (pa_cons (pv 0) pa_nil)) (pa_cons (pe_callB cr_abs (by rfl) T.m_abs (by decide +kernel) (pa_cons (pv 1) pa_nil)) pa_nil)) (by rfl)) (pss_cons (ps_while PassesOwn.never (pt_cmpR op_gt (pv 3) pe_int (nomark _)) (pss_one (ps_par (i := 2) (j := 3) rfl sc__law_low.nd rfl rfl (by decide) rfl rfl (pa_cons (pv 3) (pa_cons (pe_op op_modN (pv 2) (pv 3)) pa_nil)) (by rfl)))) (pss_cons (ps_if (pt_cmpR op_lt (pv 1) pe_int (nomark _)) (pss_one (ps_set (i := 2) sc__law_low.nd rfl (Or.inl rfl) (pe_op op_sub pe_int (pv 2)))) pss_nil) (pss_one (ps_ret (pe_tup (pa_cons (pe_op op_fdivA (pv 0) (pv 2)) (pa_cons (pe_op op_fdivA (pv 1) (pv 2)) pa_nil))))))))) ?_
  rintro ds d ⟨t, b, rfl, hb0, hb, rfl⟩
  refine rt_seq (nt_par (ea_cons (ev_cb (ea_cons (ev_var rfl) ea_nil) rc_abs) (ea_cons (ev_cb (ea_cons (ev_var rfl) ea_nil) rc_abs) ea_nil))) ?_
  have g0 : 0 < Nat.gcd t.natAbs b.natAbs := gcd_pos hb0
  refine rt_seq (nt_while (sl2 := [.d (.int t), .d (.int b), .d (.int ((Nat.gcd t.natAbs b.natAbs : Nat) : Int)), .d (.int ((0 : Nat) : Int))]) (fun s : Nat × Nat => [.d (.int t), .d (.int b), .d (.int (s.1 : Int)), .d (.int (s.2 : Int))]) (fun s => Nat.gcd s.1 s.2 = Nat.gcd t.natAbs b.natAbs) (fun s => s.2) (t.natAbs, b.natAbs) rfl rfl ?_) ?_
  · rintro ⟨x, y⟩ hg
    refine ⟨_, et_test (ev_op (ev_var rfl) ev_int r2_gt), fun hy => ?_, fun hy => ?_⟩
    · have hy : (0 : Int) < (y : Int) := of_decide_eq_true hy
      refine ⟨(y, x % y), ?_, Nat.mod_lt _ (by omega), ?_⟩
      · rw [← hg]
        show Nat.gcd y (x % y) = Nat.gcd x y
        rw [Nat.gcd_comm y, ← Nat.gcd_rec y x, Nat.gcd_comm]
      · refine nt_is (nt_par (ea_cons (ev_var rfl) (ea_cons (ev_op (ev_var rfl) (ev_var rfl) (r2_mod (by omega))) ea_nil))) ?_
        rw [fmod_nat]
        rfl
    · have hy : ¬ (0 : Int) < (y : Int) := of_decide_eq_false hy
      have y0 : y = 0 := by omega
      subst y0
      rw [← hg]
      show _ = _
      rw [Nat.gcd_zero_right]
  · refine rt_seq (nt_if (sl2 := [.d (.int t), .d (.int b), .d (.int (dvs t b)), .d (.int ((0 : Nat) : Int))]) (et_test (ev_op (ev_var rfl) ev_int r2_lt)) (fun h => ?_) (fun h => ?_)) ?_
    · refine nt_is (nt_asg (ev_op ev_int (ev_var rfl) r2_sub)) ?_
      have e : dvs t b = 0 - ((Nat.gcd t.natAbs b.natAbs : Nat) : Int) := by
        unfold dvs
        rw [if_pos (of_decide_eq_true h)]
        omega
      rw [e]
      rfl
    · refine nt_is nt_next ?_
      have e : dvs t b = ((Nat.gcd t.natAbs b.natAbs : Nat) : Int) := by
        unfold dvs
        rw [if_neg (of_decide_eq_false h)]
      rw [e]
    · have dk : ∀ i, CDivA i (dvs t b) := fun i => divok (dvs_ne hb0) (bt_dvs hb0 hb) (by decide)
      exact rt_is (rt_ret (ev_tup (ea_cons (ev_op (ev_var rfl) (ev_var rfl) (r2_div (dk _))) (ea_cons (ev_op (ev_var rfl) (ev_var rfl) (r2_div (dk _))) ea_nil)))) (low_fq hb0)


theorem h__law_frac (T : Txt K mg ca fa ka) : Has P w K mg base CX0 2 "_law_frac" ["_law_pot_here"] (spM K (fun ds => ds = []) fun _ d => ∃ q, d = fq q ∧ Bq 110 q) := by
  refine T.d__law_frac.draws sc__law_frac (fun ds h => by subst h; rfl) (fun f cdv A outer s H E hr => (pss_cons (ps_set (i := 1) sc__law_frac.nd rfl (Or.inl rfl) (pe_h (h__law_take T) hr (by decide) pass0 (pa_cons (pv 0) (pa_cons pe_int pa_nil)))) (pss_cons (ps_if (pt_cmpR (eqK (K := K) rfl hr.units) (pv 1) pe_int (nomark _)) (pss_one (ps_ret (pe_tup (pa_cons pe_int (pa_cons pe_int pa_nil))))) pss_nil) (pss_cons (ps_if (pt_cmpR (eqK (K := K) rfl hr.units) (pv 1) pe_int (nomark _)) (pss_cons (ps_set (i := 2) sc__law_frac.nd rfl (Or.inl rfl) (pe_op op_sub (pe_h (h__law_take T) hr (by decide) pass0 (pa_cons (pv 0) (pa_cons (pe_op op_add (pe_op op_mulA pe_int (pe_op op_pow pe_int pe_int)) pe_int) pa_nil))) (pe_op op_pow pe_int pe_int))) (pss_one (ps_ret (pe_h (h__law_low T) hr (by decide) pass0 (pa_cons (pv 2) (pa_cons (pe_op op_add pe_int (pe_h (h__law_take T) hr (by decide) pass0 (pa_cons (pv 0) (pa_cons (pe_op op_pow pe_int pe_int) pa_nil)))) pa_nil)))))) pss_nil) (pss_cons (ps_set (i := 2) sc__law_frac.nd rfl (Or.inl rfl) (pe_op op_sub (pe_h (h__law_take T) hr (by decide) pass0 (pa_cons (pv 0) (pa_cons pe_int pa_nil))) pe_int)) (pss_one (ps_ret (pe_h (h__law_low T) hr (by decide) pass0 (pa_cons (pv 2) (pa_cons (pe_ix (ixK (K := K) rfl) (pe_lst (pa_cons pe_int (pa_cons pe_int (pa_cons pe_int (pa_cons pe_int (pa_cons pe_int (pa_cons pe_int pa_nil))))))) (pe_h (h__law_take T) hr (by decide) pass0 (pa_cons (pv 0) (pa_cons pe_int pa_nil))) (fun _ _ => rfl)) pa_nil)))))))))) ?_
  rintro ds rfl p
  have mem : p ∈ [p] := by simp
  refine ir_asg (ep_take rfl mem (ep_ev ev_int ⟨8, rfl, by decide, by decide, fun m m0 m1 => ?_⟩))
  refine ir_cond (et_test (ev_op (ev_var rfl) ev_int r2_eqI)) (fun _ => ?_) (fun _ => ?_)
  · exact ir_ret (ep_ev (ev_tup (ea_cons ev_int (ea_cons ev_int ea_nil))) ⟨0, rfl, (by show Int.natAbs 0 < 2 ^ 110; decide), (by show Int.natAbs 1 < 2 ^ 110; decide)⟩)
  refine ir_cond (et_test (ev_op (ev_var rfl) ev_int r2_eqI)) (fun _ => ?_) (fun _ => ?_)
  · have far : Ev K (tOp (rI0 fun i j => V.int (i + j)) (tOp (rI IntMulOk fun i j => V.int (i * j)) (tC (V.int 2)) (tOp (rI CPow fun i j => V.int (i ^ j.toNat)) (tC (V.int 10)) (tC (V.int 30)))) (tC (V.int 1))) [.raw (.ref p), .d (.int m), .no] (.int (2 * 10 ^ 30 + 1)) :=
      ev_op (ev_op ev_int (ev_op ev_int ev_int (r2_pow ⟨by decide, by decide, by decide⟩)) (r2_mul (mulL ⟨by decide, by decide⟩))) ev_int r2_add
    refine ir_asg (ep_op (ep_take rfl mem (ep_ev far ⟨_, rfl, by decide, by decide +kernel, fun n n0 n1 => ep_ev (ev_op ev_int ev_int (r2_pow ⟨by decide, by decide, by decide⟩)) ⟨_, r2_sub, ?_⟩⟩)))
    refine ir_ret (ep_call (epa_cons (ep_ev (ev_var rfl) (epa_cons (ep_op (ep_ev ev_int (ep_take rfl mem (ep_ev (ev_op ev_int ev_int (r2_pow ⟨by decide, by decide, by decide⟩)) ⟨10 ^ 30, rfl, by decide, by decide +kernel, fun l l0 l1 => ?_⟩))))))))
    have bl : Bt 110 (1 + l) := by
      show (1 + l).natAbs < 2 ^ 110
      omega
    refine ⟨_, r2_add, epa_nil ⟨_, ⟨_, _, rfl, by omega, bl.mono (by decide), rfl⟩, _, rfl, bq_div (by omega) ?_ bl⟩⟩
    show (n - 10 ^ (30 : Int).toNat).natAbs < 2 ^ 110
    have e : (10 : Int) ^ (30 : Int).toNat = 10 ^ 30 := rfl
    omega
  refine ir_asg (ep_op (ep_take rfl mem (ep_ev ev_int ⟨25, rfl, by decide, by decide, fun n n0 n1 => ep_ev ev_int ⟨_, r2_sub, ?_⟩⟩)))
  refine ir_ret (ep_call (epa_cons (ep_ev (ev_var rfl) (epa_cons (ep_op (ep_ev (ev_lst (ea_cons ev_int (ea_cons ev_int (ea_cons ev_int (ea_cons ev_int (ea_cons ev_int (ea_cons ev_int ea_nil))))))) (ep_take rfl mem (ep_ev ev_int ⟨6, rfl, by decide, by decide, fun l l0 l1 => ?_⟩))))))))
  have hl : ∃ b : Int, atI [Dt.int 1, .int 1, .int 2, .int 3, .int 4, .int 12] l = some (.int b) ∧ 0 < b ∧ b ≤ 12 := by
    obtain ⟨k, rfl⟩ : ∃ k : Nat, l = (k : Int) := ⟨l.toNat, by omega⟩
    match k, l1 with
    | 0, _ => exact ⟨1, rfl, by decide, by decide⟩
    | 1, _ => exact ⟨1, rfl, by decide, by decide⟩
    | 2, _ => exact ⟨2, rfl, by decide, by decide⟩
    | 3, _ => exact ⟨3, rfl, by decide, by decide⟩
    | 4, _ => exact ⟨4, rfl, by decide, by decide⟩
    | 5, _ => exact ⟨12, rfl, by decide, by decide⟩
    | k + 6, h => omega
  obtain ⟨b, hb, b0, b12⟩ := hl
  have bb : Bt 110 b := by
    show b.natAbs < 2 ^ 110
    omega
  refine ⟨_, r2_ixL hb, epa_nil ⟨_, ⟨_, _, rfl, by omega, bb.mono (by decide), rfl⟩, _, rfl, bq_div (by omega) ?_ bb⟩⟩
  show (n - 12).natAbs < 2 ^ 110
  omega


def R_whole (ds : List Dt) (d : Dt) : Prop := ∃ i : Int, ds = [.int i] ∧ d = .bl true
theorem h__law_whole (T : Txt K mg ca fa ka) : Has P w K mg base CX0 1 "_law_whole" ["_law_thing"] (spP K R_whole) := by
  refine T.d__law_whole.pure sc__law_whole (fun ds d h => by obtain ⟨x, rfl, _⟩ := h; rfl) (fun f cdv A outer s H E hr => (pss_one (ps_ret (pe_and (pe_callB (isiK (K := K) rfl) (by rfl) T.m_isinstance (by decide +kernel) (pa_cons (pv 0) (pa_cons (pe_bltn (v := .ty "int") (by rfl) T.m_int (by decide +kernel) rfl) pa_nil))) (pe_one (pe_not (pe_callB (isiK (K := K) rfl) (by rfl) T.m_isinstance (by decide +kernel) (pa_cons (pv 0) (pa_cons (pe_bltn (v := .ty "bool") (by rfl) T.m_bool (by decide +kernel) rfl) pa_nil))))))))) ?_
  rintro ds d ⟨i, rfl, rfl⟩
  exact rt_is (rt_ret (ev_andV (ev_isi (ev_var rfl) (by exact kb_ii)) (fun _ => ev_notV (ev_isi (ev_var rfl) (by exact kb_ib))))) rfl


def R_good (ds : List Dt) (d : Dt) : Prop := ∃ x : Rat, ds = [fq x] ∧ Bt 9000 (x.den : Int) ∧ d = .bl true
theorem h__law_good (T : Txt K mg ca fa ka) : Has P w K mg base CX0 2 "_law_good" ["_law_thing"] (spP K R_good) := by
  refine T.d__law_good.pure sc__law_good (fun ds d h => by obtain ⟨x, rfl, _⟩ := h; rfl) (fun f cdv A outer s H E hr => (pss_cons (ps_if (PW.pt (pw_or (pt_not (pt_val (pe_callB (isiK (K := K) rfl) (by rfl) T.m_isinstance (by decide +kernel) (pa_cons (pv 0) (pa_cons (pe_bltn (v := .ty "tuple") (by rfl) T.m_tuple (by decide +kernel) rfl) pa_nil))))) (pw_or (pt_cmpR (neK (K := K) rfl hr.units) (pe_callB (lenK (K := K) rfl) (by rfl) T.m_len (by decide +kernel) (pa_cons (pv 0) pa_nil)) pe_int (nomark _)) (pw_or (pt_not (pt_val (pe_h (h__law_whole T) hr (by decide) pass0 (pa_cons (pe_ix (ixK (K := K) rfl) (pv 0) pe_int (fun _ _ => rfl)) pa_nil)))) (pw_or1 (pt_not (pt_val (pe_h (h__law_whole T) hr (by decide) pass0 (pa_cons (pe_ix (ixK (K := K) rfl) (pv 0) pe_int (fun _ _ => rfl)) pa_nil))))))))) (pss_one (ps_ret pe_bl)) pss_nil) (pss_one (ps_ret (pe_and (pe_cmpR op_gt (pe_ix (ixK (K := K) rfl) (pv 0) pe_int (fun _ _ => rfl)) pe_int (nomark _)) (pe_one (pe_cmpR (eqK (K := K) rfl hr.units) (pe_h (h__law_low T) hr (by decide) pass0 (pa_cons (pe_ix (ixK (K := K) rfl) (pv 0) pe_int (fun _ _ => rfl)) (pa_cons (pe_ix (ixK (K := K) rfl) (pv 0) pe_int (fun _ _ => rfl)) pa_nil))) (pv 0) (nomark _)))))))) ?_
  rintro ds d ⟨x, rfl, hb, rfl⟩
  refine rt_cond (b := false) (et_is (et_or (et_not (et_B (ev_isi (ev_var rfl) (by exact kb_tt)))) (fun _ => et_or (et_test (ev_op (ev_cb (ea_cons (ev_var rfl) ea_nil) rc_lenT) ev_int r2_neI)) (fun _ => et_or (et_not (et_B (ev_call (ea_cons (ev_op (ev_var rfl) ev_int fx0) ea_nil) (by exact ⟨_, rfl, rfl⟩)))) (fun _ => et_not (et_B (ev_call (ea_cons (ev_op (ev_var rfl) ev_int fx1) ea_nil) (by exact ⟨_, rfl, rfl⟩))))))) rfl) (fun h => by cases h) (fun _ => ?_)
  refine rt_is (rt_ret (ev_andV (ev_op (ev_op (ev_var rfl) ev_int fx1) ev_int r2_gt) (fun _ => ev_op (ev_call (ea_cons (ev_op (ev_var rfl) ev_int fx0) (ea_cons (ev_op (ev_var rfl) ev_int fx1) ea_nil)) (by exact ⟨_, _, rfl, den_ne x, hb, rfl⟩)) (ev_var rfl) r2_eqF))) ?_
  rw [fq_self, decide_eq_true (show (0 : Int) < (x.den : Int) from den_pos x), decide_eq_true rfl]
  rfl


def R_same (ds : List Dt) (d : Dt) : Prop := ∃ x y : Rat, ds = [fq x, fq y] ∧ Bt 9000 (x.den : Int) ∧ d = .bl (decide (x = y))
theorem h__law_same (T : Txt K mg ca fa ka) : Has P w K mg base CX0 3 "_law_same" ["_law_thing", "_law_due"] (spP K R_same) := by
  refine T.d__law_same.pure sc__law_same (fun ds d h => by obtain ⟨x, y, rfl, _⟩ := h; rfl) (fun f cdv A outer s H E hr => (pss_one (ps_ret (pe_and (pe_h (h__law_good T) hr (by decide) pass0 (pa_cons (pv 0) pa_nil)) (pe_one (pe_cmpR (eqK (K := K) rfl hr.units) (pv 0) (pv 1) (nomark _))))))) ?_
  rintro ds d ⟨x, y, rfl, hb, rfl⟩
  exact rt_is (rt_ret (ev_andV (ev_call (ea_cons (ev_var rfl) ea_nil) (by exact ⟨x, rfl, hb, rfl⟩)) (fun _ => ev_op (ev_var rfl) (ev_var rfl) r2_eqF))) rfl


theorem h__law_prod (T : Txt K mg ca fa ka) : Has P w K mg base CX0 2 "_law_prod" ["_law_one", "_law_other"] (spP K R_prod) := by
  refine T.d__law_prod.pure sc__law_prod (fun ds d h => by obtain ⟨x, y, rfl, _⟩ := h; rfl) (fun f cdv A outer s H E hr => (pss_one (ps_ret (pe_h (h__law_low T) hr (by decide) pass0 (pa_cons (pe_op op_mulA (pe_ix (ixK (K := K) rfl) (pv 0) pe_int (fun _ _ => rfl)) (pe_ix (ixK (K := K) rfl) (pv 1) pe_int (fun _ _ => rfl))) (pa_cons (pe_op op_mulA (pe_ix (ixK (K := K) rfl) (pv 0) pe_int (fun _ _ => rfl)) (pe_ix (ixK (K := K) rfl) (pv 1) pe_int (fun _ _ => rfl))) pa_nil)))))) ?_
  rintro ds d ⟨x, y, rfl, bx, by_, rfl⟩
  refine rt_ret (ev_call (ea_cons (ev_op (ev_op (ev_var rfl) ev_int fx0) (ev_op (ev_var rfl) ev_int fx0) (r2_mul (mulok bx.1 by_.1 (by decide)))) (ea_cons (ev_op (ev_op (ev_var rfl) ev_int fx1) (ev_op (ev_var rfl) ev_int fx1) (r2_mul (mulok bx.2 by_.2 (by decide)))) ea_nil)) ⟨_, _, rfl, Int.mul_ne_zero (den_ne x) (den_ne y), (bt_mul bx.2 by_.2).mono (by decide), ?_⟩)
  rw [q_mul]


def R_root (ds : List Dt) (d : Dt) : Prop := ∃ m : Nat, ds = [.int (m : Int)] ∧ Bt 4400 (m : Int) ∧ d = .int (sq m : Int)
theorem h__law_root (T : Txt K mg ca fa ka) : Has P w K mg base CX0 1 "_law_root" ["_law_number"] (spP K R_root) := by
  refine T.d__law_root.pure sc__law_root (fun ds d h => by obtain ⟨x, rfl, _⟩ := h; rfl) (fun f cdv A outer s H E hr => (pss_cons (ps_set (i := 1) sc__law_root.nd rfl (Or.inl rfl) pe_int) (pss_cons (ps_set (i := 2) sc__law_root.nd rfl (Or.inl rfl) pe_int) (pss_cons (ps_while PassesOwn.never (pt_cmpR op_le (pe_op op_mulA (pv 2) (pv 2)) (pv 0) (nomark _)) (pss_one (ps_set (i := 2) sc__law_root.nd rfl (Or.inl rfl) (pe_op op_mulA pe_int (pv 2))))) (pss_cons (ps_while PassesOwn.never (pt_cmpR op_gt (pv 2) pe_int (nomark _)) (pss_cons (ps_if (pt_cmpR op_le (pe_op op_mulA (pe_op op_add (pv 1) (pv 2)) (pe_op op_add (pv 1) (pv 2))) (pv 0) (nomark _)) (pss_one (ps_set (i := 1) sc__law_root.nd rfl (Or.inl rfl) (pe_op op_add (pv 1) (pv 2)))) pss_nil) (pss_one (ps_set (i := 2) sc__law_root.nd rfl (Or.inl rfl) (pe_op op_fdivA (pv 2) pe_int))))) (pss_one (ps_ret (pv 1)))))))) ?_
  rintro ds d ⟨m, rfl, hm, rfl⟩
  have big : ∀ b : Nat, b ≤ 4 * m + 4 → Bt 4403 (b : Int) := fun b hb => by
    unfold Bt at *
    rw [Int.natAbs_natCast] at *
    have e : 2 ^ 4403 = 2 ^ 4400 * 8 := by rw [← Nat.pow_add 2 4400 3]
    generalize 2 ^ 4403 = X at *
    generalize 2 ^ 4400 = Y at *
    omega
  have sqle : ∀ b : Nat, b ≤ b * b := fun b => Nat.le_mul_self b
  refine rt_seq (nt_asg ev_int) (rt_seq (nt_asg ev_int) ?_)
  refine rt_ip (ip_while (fun l sl => ∃ b k : Nat, l = 2 * m + 2 - b ∧ b = 2 ^ k ∧ b ≤ 2 * m + 1 ∧ sl = [.d (.int m), .d (.int 0), .d (.int b)]) (2 * m + 1) ⟨1, 0, by omega, rfl, by omega, rfl⟩ ?_)
  rintro l sl ⟨b, k, hl, hk, hb, rfl⟩
  have b1 : 1 ≤ b := by rw [hk]; exact Nat.one_le_two_pow
  refine ⟨_, et_test (ev_op (ev_op (ev_var rfl) (ev_var rfl) (r2_mul (mulok (big b (by omega)) (big b (by omega)) (by decide)))) (ev_var rfl) r2_le), fun h => ?_, fun h => ?_⟩
  · have h : (b : Int) * (b : Int) ≤ (m : Int) := of_decide_eq_true h
    have h : b * b ≤ m := by rw [← Int.natCast_mul] at h; omega
    have := sqle b
    refine ip_end (nt_asg (ev_op ev_int (ev_var rfl) (r2_mul (mulL ⟨by decide, by decide⟩)))) ⟨2 * m + 2 - 2 * b, by omega, 2 * b, k + 1, rfl, by rw [Nat.pow_succ]; omega, by omega, ?_⟩
    rfl
  · have h : ¬ (b : Int) * (b : Int) ≤ (m : Int) := of_decide_eq_false h
    have h : m < b * b := by rw [← Int.natCast_mul] at h; omega
    refine rt_ip (ip_while (fun l sl => ∃ f c : Nat, l = c ∧ f * f ≤ m ∧ c ≤ 2 * m + 1 ∧ (c = 0 ∧ m < (f + 1) * (f + 1) ∨ ∃ k, c = 2 ^ k ∧ m < (f + 2 * c) * (f + 2 * c)) ∧ sl = [.d (.int m), .d (.int f), .d (.int c)]) b ⟨0, b, rfl, by omega, by omega, .inr ⟨k, hk, ?_⟩, rfl⟩ ?_)
    · have : b * b ≤ (0 + 2 * b) * (0 + 2 * b) := Nat.mul_le_mul (by omega) (by omega)
      omega
    · rintro l sl ⟨f, c, hl, hf, hc, ho, rfl⟩
      have := sqle f
      refine ⟨_, et_test (ev_op (ev_var rfl) ev_int r2_gt), fun h => ?_, fun h => ?_⟩
      · have h0 : (0 : Int) < (c : Int) := of_decide_eq_true h
        have fin : ∀ g : Nat, g * g ≤ m → m < (g + c) * (g + c) → (c / 2 = 0 ∧ m < (g + 1) * (g + 1) ∨ ∃ k, c / 2 = 2 ^ k ∧ m < (g + 2 * (c / 2)) * (g + 2 * (c / 2))) := fun g hg hg2 => by
          rcases ho with ⟨z, _⟩ | ⟨j, hj, _⟩
          · omega
          · cases j with
            | zero =>
              have c1 : c = 1 := by rw [hj] <;> rfl
              subst c1
              exact .inl ⟨rfl, hg2⟩
            | succ j =>
              rw [Nat.pow_succ] at hj
              refine .inr ⟨j, by omega, ?_⟩
              rw [show 2 * (c / 2) = c by omega]
              exact hg2
        have ho2 : m < (f + 2 * c) * (f + 2 * c) := by
          rcases ho with ⟨z, _⟩ | ⟨_, _, h⟩
          · omega
          · exact h
        have half : ((c : Int)).fdiv 2 = ((c / 2 : Nat) : Int) := by
          rw [Int.fdiv_eq_ediv_of_nonneg _ (by decide)]
          rfl
        have eb : ((f : Int) + (c : Int)) = ((f + c : Nat) : Int) := rfl
        have bfc : Bt 4403 ((f : Int) + (c : Int)) := by rw [eb]; exact big _ (by omega)
        have step : ∀ g : Nat, g * g ≤ m → m < (g + c) * (g + c) → Ip K (tAsg (tOp (rI CDivA fun i j => .int (i.fdiv j)) (tVar 2) (tC (.int 2))) (gName 2)) [.d (.int m), .d (.int g), .d (.int c)] [] fun sl2 => ∃ m', m' < l ∧ ∃ f c : Nat, m' = c ∧ f * f ≤ m ∧ c ≤ 2 * m + 1 ∧ (c = 0 ∧ m < (f + 1) * (f + 1) ∨ ∃ k, c = 2 ^ k ∧ m < (f + 2 * c) * (f + 2 * c)) ∧ sl2 = [.d (.int m), .d (.int f), .d (.int c)] := fun g hg hg2 => by
          refine ip_end (nt_asg (ev_op (ev_var rfl) ev_int (r2_div (divok (n := 2) (by decide) (by show Int.natAbs 2 < 2 ^ 2; decide) (by decide))))) ⟨c / 2, by omega, g, c / 2, rfl, hg, by omega, fin g hg hg2, ?_⟩
          rw [half] <;> rfl
        refine ip_nt (sl1 := [.d (.int m), .d (.int (if (f + c) * (f + c) ≤ m then f + c else f : Nat)), .d (.int c)]) (nt_if (et_test (ev_op (ev_op (ev_op (ev_var rfl) (ev_var rfl) r2_add) (ev_op (ev_var rfl) (ev_var rfl) r2_add) (r2_mul (mulok (by exact bfc) (by exact bfc) (by decide)))) (ev_var rfl) r2_le)) (fun h => ?_) (fun h => ?_)) ?_
        · have h : ((f : Int) + (c : Int)) * ((f : Int) + (c : Int)) ≤ (m : Int) := of_decide_eq_true h
          rw [eb, ← Int.natCast_mul] at h
          refine nt_is (nt_asg (ev_op (ev_var rfl) (ev_var rfl) r2_add)) ?_
          rw [if_pos (by omega)]
          rfl
        · have h : ¬ ((f : Int) + (c : Int)) * ((f : Int) + (c : Int)) ≤ (m : Int) := of_decide_eq_false h
          rw [eb, ← Int.natCast_mul] at h
          refine nt_is nt_next ?_
          rw [if_neg (by omega)]
        · by_cases hq : (f + c) * (f + c) ≤ m
          · rw [if_pos hq]
            exact step _ hq (by rw [show f + c + c = f + 2 * c by omega]; exact ho2)
          · rw [if_neg hq]
            exact step _ hf (by omega)
      · have h0 : ¬ (0 : Int) < (c : Int) := of_decide_eq_false h
        have c0 : c = 0 := by omega
        refine rt_is (rt_ret (ev_var rfl)) ?_
        have hf2 : m < (f + 1) * (f + 1) := by
          rcases ho with ⟨_, h⟩ | ⟨j, hj, _⟩
          · exact h
          · have := Nat.one_le_two_pow (n := j)
            omega
        rw [isq_unique (sq_spec m).1 (sq_spec m).2 hf hf2]


def R_rooted (ds : List Dt) (d : Dt) : Prop := ∃ x : Rat, ds = [fq x] ∧ Bq 4000 x ∧ d = rootD x
theorem h__law_rooted (T : Txt K mg ca fa ka) : Has P w K mg base CX0 2 "_law_rooted" ["_law_one"] (spP K R_rooted) := by
  refine T.d__law_rooted.pure sc__law_rooted (fun ds d h => by obtain ⟨x, rfl, _⟩ := h; rfl) (fun f cdv A outer s H E hr => (pss_cons (ps_if (pt_cmpR op_lt (pe_ix (ixK (K := K) rfl) (pv 0) pe_int (fun _ _ => rfl)) pe_int (nomark _)) (pss_one (ps_ret pe_non)) pss_nil) (pss_cons (ps_par (i := 1) (j := 2) rfl sc__law_rooted.nd rfl rfl (by decide) rfl rfl (pa_cons (pe_h (h__law_root T) hr (by decide) pass0 (pa_cons (pe_ix (ixK (K := K) rfl) (pv 0) pe_int (fun _ _ => rfl)) pa_nil)) (pa_cons (pe_h (h__law_root T) hr (by decide) pass0 (pa_cons (pe_ix (ixK (K := K) rfl) (pv 0) pe_int (fun _ _ => rfl)) pa_nil)) pa_nil)) (by rfl)) (pss_cons (ps_if (PW.pt (pw_or (pt_cmpR (neK (K := K) rfl hr.units) (pe_op op_mulA (pv 1) (pv 1)) (pe_ix (ixK (K := K) rfl) (pv 0) pe_int (fun _ _ => rfl)) (nomark _)) (pw_or1 (pt_cmpR (neK (K := K) rfl hr.units) (pe_op op_mulA (pv 2) (pv 2)) (pe_ix (ixK (K := K) rfl) (pv 0) pe_int (fun _ _ => rfl)) (nomark _))))) (pss_one (ps_ret pe_non)) pss_nil) (pss_one (ps_ret (pe_tup (pa_cons (pv 1) (pa_cons (pv 2) pa_nil))))))))) ?_
  rintro ds d ⟨x, rfl, ⟨bn, bd⟩, rfl⟩
  refine rt_cond (et_test (ev_op (ev_op (ev_var rfl) ev_int fx0) ev_int r2_lt)) (fun hb => ?_) (fun hb => ?_)
  · refine rt_is (rt_ret ev_non) ?_
    unfold rootD
    rw [if_pos (of_decide_eq_true hb)]
  · have h0 : ¬ x.num < 0 := of_decide_eq_false hb
    have hn : ((x.num.toNat : Nat) : Int) = x.num := Int.toNat_of_nonneg (by omega)
    have bn2 : Bt 4400 ((x.num.toNat : Nat) : Int) := by rw [hn]; exact bn.mono (by decide)
    refine rt_seq (nt_par (ea_cons (ev_call (ea_cons (ev_op (ev_var rfl) ev_int fx0) ea_nil) (by exact ⟨x.num.toNat, by rw [hn], bn2, rfl⟩)) (ea_cons (ev_call (ea_cons (ev_op (ev_var rfl) ev_int fx1) ea_nil) (by exact ⟨x.den, rfl, bd.mono (by decide), rfl⟩)) ea_nil))) ?_
    have b1 : Bt 4000 (sq x.num.toNat : Int) := bt_sq (by rw [hn]; exact bn)
    have b2 : Bt 4000 (sq x.den : Int) := bt_sq bd
    refine rt_cond (et_or (et_test (ev_op (ev_op (ev_var rfl) (ev_var rfl) (r2_mul (mulok b1 b1 (by decide)))) (ev_op (ev_var rfl) ev_int fx0) r2_neI)) (fun _ => et_test (ev_op (ev_op (ev_var rfl) (ev_var rfl) (r2_mul (mulok (by exact b2) (by exact b2) (by decide)))) (ev_op (ev_var rfl) ev_int fx1) r2_neI))) (fun hb => ?_) (fun hb => ?_)
    · refine rt_is (rt_ret ev_non) ?_
      unfold rootD
      rw [if_neg h0, if_neg ?_]
      rintro ⟨e1, e2⟩
      have a1 : (sq x.num.toNat : Int) * (sq x.num.toNat : Int) = x.num := by rw [← Int.natCast_mul, e1, hn]
      have a2 : (sq x.den : Int) * (sq x.den : Int) = (x.den : Int) := by rw [← Int.natCast_mul, e2]
      change (!((sq x.num.toNat : Int) * (sq x.num.toNat : Int) == x.num) || !((sq x.den : Int) * (sq x.den : Int) == (x.den : Int))) = true at hb
      rw [a1, a2] at hb
      simp at hb
    · refine rt_is (rt_ret (ev_tup (ea_cons (ev_var rfl) (ea_cons (ev_var rfl) ea_nil)))) ?_
      change (!((sq x.num.toNat : Int) * (sq x.num.toNat : Int) == x.num) || !((sq x.den : Int) * (sq x.den : Int) == (x.den : Int))) = false at hb
      rw [Bool.or_eq_false_iff, Bool.not_eq_false', Bool.not_eq_false', beq_iff_eq, beq_iff_eq] at hb
      have hq : sq x.num.toNat * sq x.num.toNat = x.num.toNat ∧ sq x.den * sq x.den = x.den := by
        refine ⟨?_, ?_⟩
        · have := hb.1
          rw [← Int.natCast_mul] at this
          omega
        · have := hb.2
          rw [← Int.natCast_mul] at this
          omega
      unfold rootD
      rw [if_neg h0, if_pos hq] <;> rfl


def R_right (ds : List Dt) (d : Dt) : Prop := ∃ x : Rat, ds = [fq x] ∧ Bq 4000 x ∧ d = .bl true
theorem h__law_right (T : Txt K mg ca fa ka) : Has P w K mg base CX0 4 "_law_right" ["_law_one"] (spP K R_right) := by
  refine T.d__law_right.pure sc__law_right (fun ds d h => by obtain ⟨x, rfl, _⟩ := h; rfl) (fun f cdv A outer s H E hr => (pss_cons (ps_set (i := 1) sc__law_right.nd rfl (Or.inl rfl) (pe_h (h__law_rooted T) hr (by decide) pass0 (pa_cons (pv 0) pa_nil))) (pss_cons (ps_set (i := 2) sc__law_right.nd rfl (Or.inl rfl) (pe_h (h_root_of T) hr (by decide) pass0 (pa_cons (pv 0) pa_nil))) (pss_cons (ps_if (pt_cmpR op_isN1 (pv 1) pe_non (nomark _)) (pss_one (ps_ret (pe_cmpR op_isN1 (pv 2) pe_non (nomark _)))) pss_nil) (pss_one (ps_ret (pe_h (h__law_same T) hr (by decide) pass0 (pa_cons (pv 2) (pa_cons (pv 1) pa_nil))))))))) ?_
  rintro ds d ⟨x, rfl, bx, rfl⟩
  refine rt_seq (nt_asg (ev_call (ea_cons (ev_var rfl) ea_nil) (by exact ⟨x, rfl, bx, rfl⟩))) (rt_seq (nt_asg (ev_call (ea_cons (ev_var rfl) ea_nil) (by exact ⟨x, rfl, bx, rfl⟩))) ?_)
  rcases rootD_or bx with e | ⟨y, by_, e⟩
  · rw [e]
    exact rt_cond (b := true) (et_test (ev_op (ev_var rfl) ev_non r2_isN)) (fun _ => rt_is (rt_ret (ev_op (ev_var rfl) ev_non r2_isN)) rfl) (fun h => by cases h)
  · rw [e]
    exact rt_cond (b := false) (et_test (ev_op (ev_var rfl) ev_non r2_isN)) (fun h => by cases h) (fun _ => rt_is (rt_ret (ev_call (ea_cons (ev_var rfl) (ea_cons (ev_var rfl) ea_nil)) (by exact ⟨y, y, rfl, by_, rfl⟩))) (by rw [decide_eq_true rfl]))


def R_law (ds : List Dt) (d : Dt) : Prop := ∃ ns : List Int, ds = [.lst (ns.map Dt.int)] ∧ ns.length ≤ 63 ∧ d = .bl true
theorem law_sp {K : PySem.W.Frag} {H : Hp} {a : Addr} {ns : List Int} {E : XK} (hl : ns.length ≤ 63) (hS : SqL K H a (ns.map V.int)) : spP K R_law [.ref a] H (fun v _ => v = .bl true) E :=
  ⟨_, _, H, Ex.refl H, .cons (.lst hS (rps_ints ns)) .nil, ⟨ns, rfl, hl, rfl⟩, fun v G2 H2 _ r => by
    cases r
    rfl⟩

theorem h_law (T : Txt K mg ca fa ka) {f : Addr} {fd : FuncData} (F : Fun K "law" "law" s_law f fd) : FnOk P w K mg base CX0 5 f fd ["_law_script"] (spP K R_law) := by
  refine fn_pure F sc_law (fun ds d h => by obtain ⟨x, rfl, _⟩ := h; rfl) (fun f cdv A outer s H E hr => (pss_cons (ps_if (PW.pt (pw_or (pt_not (pt_val (pe_h (h__law_same T) hr (by decide) pass0 (pa_cons (pe_h (h_root_of T) hr (by decide) pass0 (pa_cons (pe_tup (pa_cons pe_int (pa_cons pe_int pa_nil))) pa_nil)) (pa_cons (pe_tup (pa_cons pe_int (pa_cons pe_int pa_nil))) pa_nil))))) (pw_or (pt_cmpR op_notN1 (pe_h (h_root_of T) hr (by decide) pass0 (pa_cons (pe_tup (pa_cons (pe_un un_neg pe_int) (pa_cons pe_int pa_nil))) pa_nil)) pe_non (nomark _)) (pw_or1 (pt_cmpR op_notN1 (pe_h (h_root_of T) hr (by decide) pass0 (pa_cons (pe_tup (pa_cons pe_int (pa_cons pe_int pa_nil))) pa_nil)) pe_non (nomark _)))))) (pss_one (ps_ret pe_bl)) pss_nil) (pss_cons (ps_for PassesOwn.never rfl (pi_range1 rfl T.m_range (pa_cons (pe_callB (cr_max rfl) (by rfl) T.m_max (by decide +kernel) (pa_cons pe_int (pa_cons (pe_callB (cr_min rfl) (by rfl) T.m_min (by decide +kernel) (pa_cons (pe_callB (lenK (K := K) rfl) (by rfl) T.m_len (by decide +kernel) (pa_cons (pv 0) pa_nil)) (pa_cons pe_int pa_nil))) pa_nil))) pa_nil)) (pg_name (i := 1) sc_law.nd rfl (Or.inl rfl)) (pss_cons (ps_set (i := 2) sc_law.nd rfl (Or.inl rfl) (pe_h (h__law_pot T) hr (by decide) pass0 (pa_cons (pe_h (h__law_cell_at T) hr (by decide) pass0 (pa_cons (pv 0) (pa_cons (pv 1) pa_nil))) pa_nil))) (pss_cons (ps_set (i := 3) sc_law.nd rfl (Or.inl rfl) (pe_h (h__law_frac T) hr (by decide) pass0 (pa_cons (pv 2) pa_nil))) (pss_cons (ps_if (pt_cmpR op_gt (pe_callB (cr_max rfl) (by rfl) T.m_max (by decide +kernel) (pa_cons (pe_callB cr_abs (by rfl) T.m_abs (by decide +kernel) (pa_cons (pe_ix (ixK (K := K) rfl) (pv 3) pe_int (fun _ _ => rfl)) pa_nil)) (pa_cons (pe_ix (ixK (K := K) rfl) (pv 3) pe_int (fun _ _ => rfl)) pa_nil))) (pe_op op_pow pe_int pe_int) (nomark _)) (pss_one (ps_set (i := 3) sc_law.nd rfl (Or.inl rfl) (pe_h (h__law_low T) hr (by decide) pass0 (pa_cons (pe_op op_modN (pe_ix (ixK (K := K) rfl) (pv 3) pe_int (fun _ _ => rfl)) (pe_op op_pow pe_int pe_int)) (pa_cons (pe_op op_add pe_int (pe_op op_modN (pe_ix (ixK (K := K) rfl) (pv 3) pe_int (fun _ _ => rfl)) (pe_op op_pow pe_int pe_int))) pa_nil))))) pss_nil) (pss_cons (ps_set (i := 4) sc_law.nd rfl (Or.inl rfl) (pe_h (h__law_prod T) hr (by decide) pass0 (pa_cons (pv 3) (pa_cons (pv 3) pa_nil)))) (pss_cons (ps_if (pt_not (pt_val (pe_h (h__law_same T) hr (by decide) pass0 (pa_cons (pe_h (h_root_of T) hr (by decide) pass0 (pa_cons (pv 4) pa_nil)) (pa_cons (pe_tup (pa_cons (pe_callB cr_abs (by rfl) T.m_abs (by decide +kernel) (pa_cons (pe_ix (ixK (K := K) rfl) (pv 3) pe_int (fun _ _ => rfl)) pa_nil)) (pa_cons (pe_ix (ixK (K := K) rfl) (pv 3) pe_int (fun _ _ => rfl)) pa_nil))) pa_nil))))) (pss_one (ps_ret pe_bl)) pss_nil) (pss_cons (ps_for PassesOwn.never rfl (lstK (K := K) rfl (pe_lst (pa_cons (pe_tup (pa_cons (pe_op op_add (pe_ix (ixK (K := K) rfl) (pv 4) pe_int (fun _ _ => rfl)) pe_int) (pa_cons (pe_ix (ixK (K := K) rfl) (pv 4) pe_int (fun _ _ => rfl)) pa_nil))) (pa_cons (pe_tup (pa_cons (pe_op op_sub (pe_ix (ixK (K := K) rfl) (pv 4) pe_int (fun _ _ => rfl)) pe_int) (pa_cons (pe_ix (ixK (K := K) rfl) (pv 4) pe_int (fun _ _ => rfl)) pa_nil))) (pa_cons (pe_tup (pa_cons (pe_ix (ixK (K := K) rfl) (pv 4) pe_int (fun _ _ => rfl)) (pa_cons (pe_op op_add (pe_ix (ixK (K := K) rfl) (pv 4) pe_int (fun _ _ => rfl)) pe_int) pa_nil))) pa_nil))))) (tupK (K := K) (n := 2) rfl rfl (pgs_cons (pg_name (i := 5) sc_law.nd rfl (Or.inl rfl)) (pgs_cons (pg_name (i := 6) sc_law.nd rfl (Or.inl rfl)) pgs_nil))) (pss_one (ps_if (pt_not (pt_val (pe_h (h__law_right T) hr (by decide) pass0 (pa_cons (pe_h (h__law_low T) hr (by decide) pass0 (pa_cons (pv 5) (pa_cons (pv 6) pa_nil))) pa_nil)))) (pss_one (ps_ret pe_bl)) pss_nil))) (pss_one (ps_if (PW.pt (pw_or (pt_not (pt_val (pe_h (h__law_right T) hr (by decide) pass0 (pa_cons (pv 3) pa_nil)))) (pw_or1 (pt_not (pt_val (pe_h (h__law_right T) hr (by decide) pass0 (pa_cons (pe_h (h__law_low T) hr (by decide) pass0 (pa_cons (pe_op op_sub pe_int (pe_ix (ixK (K := K) rfl) (pv 4) pe_int (fun _ _ => rfl))) (pa_cons (pe_ix (ixK (K := K) rfl) (pv 4) pe_int (fun _ _ => rfl)) pa_nil))) pa_nil))))))) (pss_one (ps_ret pe_bl)) pss_nil))))))))) (pss_one (ps_ret pe_bl))))) ?_
  rintro ds d ⟨ns, rfl, hns, rfl⟩
  have e1 : rootD 0 = fq 0 := by
    have h := rootD_sq 0
    rw [Rat.mul_zero, Rat.abs_zero] at h
    exact h
  have e2 : rootD ⟨-4, 9, by decide, by decide⟩ = .non := rfl
  have e3 : rootD ⟨2, 1, by decide, by decide⟩ = .non := by
    unfold rootD
    rw [if_neg (by decide), if_neg (by decide +kernel)]
  have z0 : Bt 4000 0 := by show Int.natAbs 0 < 2 ^ 4000; exact Nat.two_pow_pos _
  have sm : ∀ i : Int, i.natAbs < 2 ^ 10 → Bt 4000 i := fun i hi => Bt.mono (n := 10) hi (by decide)
  refine rt_cond (b := false) (et_is (et_or (et_not (et_B (ev_call (ea_cons (ev_call (ea_cons (ev_tup (ea_cons ev_int (ea_cons ev_int ea_nil))) ea_nil) (by exact ⟨0, rfl, ⟨z0, sm 1 (by decide)⟩, rfl⟩)) (ea_cons (ev_tup (ea_cons ev_int (ea_cons ev_int ea_nil))) ea_nil)) (by exact ⟨0, 0, by rw [e1]; rfl, (sm 1 (by decide)).mono (by decide), rfl⟩)))) (fun _ => et_or (et_test (ev_op (ev_call (ea_cons (ev_tup (ea_cons (ev_un ev_int r1_neg) (ea_cons ev_int ea_nil))) ea_nil) (by exact ⟨⟨-4, 9, by decide, by decide⟩, rfl, ⟨sm _ (by decide), sm _ (by decide)⟩, e2.symm⟩)) ev_non r2_notN)) (fun _ => et_test (ev_op (ev_call (ea_cons (ev_tup (ea_cons ev_int (ea_cons ev_int ea_nil))) ea_nil) (by exact ⟨⟨2, 1, by decide, by decide⟩, rfl, ⟨sm _ (by decide), sm _ (by decide)⟩, e3.symm⟩)) ev_non r2_notN)))) (by simp [isNon])) (fun h => by cases h) (fun _ => ?_)
  refine rt_seq (nt_for (n := max 1 (min (ns.length : Int) 30)) (fun _ => [.d (.lst (ns.map Dt.int)), .no, .no, .no, .no, .no, .no]) ?_ (by omega) rfl (fun i hi => ?_)) (rt_ret ev_bl)
  · refine ea_cons (ev_is (ev_cb (ea_cons ev_int (ea_cons (ev_cb (ea_cons (ev_cb (ea_cons (ev_var rfl) ea_nil) rc_lenL) (ea_cons ev_int ea_nil)) rc_min) ea_nil)) rc_max) ?_) ea_nil
    rw [List.length_map]
  · refine nt_ip (N := fun sl => ∃ s1 s2 s3 s4 s5 s6, sl = [.d (.lst (ns.map Dt.int)), s1, s2, s3, s4, s5, s6]) ?_ (by
      rintro sl1 ⟨s1, s2, s3, s4, s5, s6, rfl⟩ G σ h
      exact frd_wk h (.cons (.same _) (.cons (.no _) (.cons (.no _) (.cons (.no _) (.cons (.no _) (.cons (.no _) (.cons (.no _) .nil))))))))
    refine ip_pot (ea_cons (ev_call (ea_cons (ev_var rfl) (ea_cons (ev_var rfl) ea_nil)) (by exact ⟨ns, i, rfl, rfl⟩)) ea_nil) (by exact ⟨_, rfl⟩) fun p => ?_
    refine ip_asg (ep_callM rfl (by simp) (epa_nil ⟨rfl, ?_⟩))
    rintro _ ⟨q0, rfl, b0⟩
    let c : Bool := decide ((10 : Int) ^ (18 : Int).toNat < max (q0.num.natAbs : Int) (q0.den : Int))
    let q : Rat := if c = true then ((q0.num.fmod (10 ^ (19 : Int).toNat) : Int) : Rat) / ((1 + (q0.den : Int).fmod (10 ^ (19 : Int).toNat) : Int) : Rat) else q0
    have e19 : (10 : Int) ^ (19 : Int).toNat = 10 ^ 19 := rfl
    have hf1 := fmod_bd (a := q0.num) (b := 10 ^ 19) (by decide)
    have hf2 := fmod_bd (a := (q0.den : Int)) (b := 10 ^ 19) (by decide)
    have hne : 1 + (q0.den : Int).fmod (10 ^ (19 : Int).toNat) ≠ 0 := by rw [e19]; omega
    have hB1 : Bt 110 (q0.num.fmod (10 ^ (19 : Int).toNat)) := by
      show Int.natAbs _ < 2 ^ 110
      rw [e19]
      omega
    have hB2 : Bt 110 (1 + (q0.den : Int).fmod (10 ^ (19 : Int).toNat)) := by
      show Int.natAbs _ < 2 ^ 110
      rw [e19]
      omega
    have qt : c = true → ((q0.num.fmod (10 ^ (19 : Int).toNat) : Int) : Rat) / ((1 + (q0.den : Int).fmod (10 ^ (19 : Int).toNat) : Int) : Rat) = q := fun h => (if_pos h).symm
    have qf : c = false → q = q0 := fun h => if_neg (by rw [h]; decide)
    have bq : Bq 110 q := by
      show Bq 110 (if c = true then _ else _)
      split
      · exact bq_div hne hB1 hB2
      · exact b0
    have pw : ∀ {sl : List Sl} {n : Int}, n = 18 ∨ n = 19 → Ev K (tOp (rI CPow fun i j => V.int (i ^ j.toNat)) (tC (.int 10)) (tC (.int n))) sl (.int (10 ^ n.toNat)) := fun h => ev_op ev_int ev_int (r2_pow (by rcases h with rfl | rfl <;> exact ⟨by decide, by decide, by decide⟩))
    refine ip_nt (sl1 := [.d (.lst (ns.map Dt.int)), .d (.int i), .raw (.ref p), .d (fq q), .no, .no, .no]) (nt_if (b := c) (et_test (ev_op (ev_cb (ea_cons (ev_cb (ea_cons (ev_op (ev_var rfl) ev_int fx0) ea_nil) rc_abs) (ea_cons (ev_op (ev_var rfl) ev_int fx1) ea_nil)) rc_max) (pw (.inl rfl)) r2_gt)) (fun h => ?_) (fun h => ?_)) ?_
    · refine nt_is (nt_asg (ev_call (ea_cons (ev_op (ev_op (ev_var rfl) ev_int fx0) (pw (.inr rfl)) (r2_mod (by rw [e19]; decide))) (ea_cons (ev_op ev_int (ev_op (ev_op (ev_var rfl) ev_int fx1) (pw (.inr rfl)) (r2_mod (by rw [e19]; decide))) r2_add) ea_nil)) (by exact ⟨_, _, rfl, hne, hB2.mono (by decide), rfl⟩))) ?_
      rw [← qt h]
      rfl
    · refine nt_is nt_next ?_
      rw [qf h]
      rfl
    clear qt qf
    generalize q = q at bq
    have bqq : Bq 4000 (q * q) := ⟨by rw [num_sq]; exact (bt_mul bq.1 bq.1).mono (by decide), by rw [den_sq, Int.natCast_mul]; exact (bt_mul bq.2 bq.2).mono (by decide)⟩
    refine ip_nt (nt_asg (ev_call (ea_cons (ev_var rfl) (ea_cons (ev_var rfl) ea_nil)) (by exact ⟨q, q, rfl, ⟨bq.1.mono (by decide), bq.2.mono (by decide)⟩, ⟨bq.1.mono (by decide), bq.2.mono (by decide)⟩, rfl⟩))) ?_
    refine ip_no (et_is (et_not (et_B (ev_call (ea_cons (ev_call (ea_cons (ev_var rfl) ea_nil) (by exact ⟨q * q, rfl, bqq, rfl⟩)) (ea_cons (ev_is (ev_tup (ea_cons (ev_cb (ea_cons (ev_op (ev_var rfl) ev_int fx0) ea_nil) rc_abs) (ea_cons (ev_op (ev_var rfl) ev_int fx1) ea_nil))) (fq_abs q).symm) ea_nil)) (by exact ⟨q.abs, q.abs, by rw [rootD_sq], by rw [den_abs]; exact bq.2.mono (by decide), rfl⟩)))) (by rw [decide_eq_true rfl]; rfl)) ?_
    have right : ∀ (sl : List Sl) (ta tb : TE) (a b : Int), b ≠ 0 → Bt 3000 a → Bt 3000 b → Ev K ta sl (.int a) → Ev K tb sl (.int b) → EvT K (tNot (tB (tCall (spP K R_right) [] E0 (tCons (tCall (spP K R_low) [] E0 (tCons ta (tCons tb tNil))) tNil)))) sl false := fun sl ta tb a b h0 ha hb h1 h2 =>
      et_is (et_not (et_B (ev_call (ea_cons (ev_call (ea_cons h1 (ea_cons h2 ea_nil)) (by exact ⟨a, b, rfl, h0, hb.mono (by decide), rfl⟩)) ea_nil) (by exact ⟨_, rfl, ⟨(bq_div h0 ha hb).1.mono (by decide), (bq_div h0 ha hb).2.mono (by decide)⟩, rfl⟩)))) rfl
    have one1 : Bt 1 1 := by show Int.natAbs 1 < 2 ^ 1; decide
    have b1 : Bt 230 (q * q).num := by rw [num_sq]; exact (bt_mul bq.1 bq.1).mono (by decide)
    have b2 : Bt 230 ((q * q).den : Int) := by rw [den_sq, Int.natCast_mul]; exact (bt_mul bq.2 bq.2).mono (by decide)
    refine ip_nt (nt_for2 (a := fun _ => True) (ev_lst (ea_cons (ev_tup (ea_cons (ev_op (ev_op (ev_var rfl) ev_int fx0) ev_int r2_add) (ea_cons (ev_op (ev_var rfl) ev_int fx1) ea_nil))) (ea_cons (ev_tup (ea_cons (ev_op (ev_op (ev_var rfl) ev_int fx0) ev_int r2_sub) (ea_cons (ev_op (ev_var rfl) ev_int fx1) ea_nil))) (ea_cons (ev_tup (ea_cons (ev_op (ev_var rfl) ev_int fx0) (ea_cons (ev_op (ev_op (ev_var rfl) ev_int fx1) ev_int r2_add) ea_nil))) ea_nil))))
      (fun x y => ∃ a b : Int, x = .int a ∧ y = .int b ∧ b ≠ 0 ∧ Bt 3000 a ∧ Bt 3000 b) ?_ (fun x y _ _ => .cons (.same _) (.cons (.same _) (.cons (.same _) (.cons (.same _) (.cons (.same _) (.cons (.no _) (.cons (.no _) .nil))))))) ?_) ?_
    · have dp := den_pos (q * q)
      intro d hd
      rcases List.mem_cons.mp hd with rfl | hd
      · exact ⟨_, _, rfl, _, _, rfl, rfl, den_ne _, bt_add b1 one1 (by decide) (by decide), b2.mono (by decide)⟩
      rcases List.mem_cons.mp hd with rfl | hd
      · exact ⟨_, _, rfl, _, _, rfl, rfl, den_ne _, bt_sub b1 one1 (by decide) (by decide), b2.mono (by decide)⟩
      rcases List.mem_cons.mp hd with rfl | hd
      · exact ⟨_, _, rfl, _, _, rfl, rfl, by omega, b1.mono (by decide), bt_add b2 one1 (by decide) (by decide)⟩
      · cases hd
    · rintro x y ⟨a, b, rfl, rfl, h0, ha, hb⟩
      exact nt_no (right _ _ _ a b h0 ha hb (ev_var rfl) (ev_var rfl))
    · refine ip_no1 (et_is (et_or (et_is (et_not (et_B (ev_call (ea_cons (ev_var rfl) ea_nil) (by exact ⟨q, rfl, ⟨bq.1.mono (by decide), bq.2.mono (by decide)⟩, rfl⟩)))) rfl) (fun _ => right _ _ _ (0 - (q * q).num) ((q * q).den : Int) (den_ne _) (by rw [Int.zero_sub]; exact (bt_neg b1).mono (by decide)) (b2.mono (by decide)) (ev_op ev_int (ev_op (ev_var rfl) ev_int fx0) r2_sub) (ev_op (ev_var rfl) ev_int fx1))) rfl) ?_
      exact ⟨_, _, _, _, _, _, rfl⟩

end
/-- the law over what the top has left -/
theorem all_mk {l : PySem.W.OpenLaw} {w : World} {K : PySem.W.Frag} {h : Heap} {mg : Str → Option Value} {fa : Addr} (X : K.In h) (G : h.Ns mainGlobals mg) (hfa : mg "law" = some (.ref fa))
    {f0 : Addr} {od0 an0 : Option Addr} {sl0 : Array (Option Value)} {oc0 kV0 dc0 pm0 cd0 ct0 : Value}
    (a0 : PySem.W.nsIn K mainGlobals "root_of" = some (some (.ref f0))) (l0 : K.lookup f0 = some ⟨oc0, od0, .func (PySem.W.fnOf "root_of" "root_of" (defArgs s_root_of) (defBody s_root_of) (defScope s_root_of) .none kV0 dc0 pm0 an0 cd0 ct0), sl0⟩) (c0 : PySem.W.codeIn K cd0 "root_of" = true) (k0 : PySem.W.keepIn K (.ref f0) = true)
    {f1 : Addr} {od1 an1 : Option Addr} {sl1 : Array (Option Value)} {oc1 kV1 dc1 pm1 cd1 ct1 : Value}
    (a1 : PySem.W.nsIn K mainGlobals "_law_cell_at" = some (some (.ref f1))) (l1 : K.lookup f1 = some ⟨oc1, od1, .func (PySem.W.fnOf "_law_cell_at" "_law_cell_at" (defArgs s__law_cell_at) (defBody s__law_cell_at) (defScope s__law_cell_at) .none kV1 dc1 pm1 an1 cd1 ct1), sl1⟩) (c1 : PySem.W.codeIn K cd1 "_law_cell_at" = true) (k1 : PySem.W.keepIn K (.ref f1) = true)
    {f2 : Addr} {od2 an2 : Option Addr} {sl2 : Array (Option Value)} {oc2 kV2 dc2 pm2 cd2 ct2 : Value}
    (a2 : PySem.W.nsIn K mainGlobals "_law_pot" = some (some (.ref f2))) (l2 : K.lookup f2 = some ⟨oc2, od2, .func (PySem.W.fnOf "_law_pot" "_law_pot" (defArgs s__law_pot) (defBody s__law_pot) (defScope s__law_pot) .none kV2 dc2 pm2 an2 cd2 ct2), sl2⟩) (c2 : PySem.W.codeIn K cd2 "_law_pot" = true) (k2 : PySem.W.keepIn K (.ref f2) = true)
    {f3 : Addr} {od3 an3 : Option Addr} {sl3 : Array (Option Value)} {oc3 kV3 dc3 pm3 cd3 ct3 : Value}
    (a3 : PySem.W.nsIn K mainGlobals "_law_take" = some (some (.ref f3))) (l3 : K.lookup f3 = some ⟨oc3, od3, .func (PySem.W.fnOf "_law_take" "_law_take" (defArgs s__law_take) (defBody s__law_take) (defScope s__law_take) .none kV3 dc3 pm3 an3 cd3 ct3), sl3⟩) (c3 : PySem.W.codeIn K cd3 "_law_take" = true) (k3 : PySem.W.keepIn K (.ref f3) = true)
    {f4 : Addr} {od4 an4 : Option Addr} {sl4 : Array (Option Value)} {oc4 kV4 dc4 pm4 cd4 ct4 : Value}
    (a4 : PySem.W.nsIn K mainGlobals "_law_low" = some (some (.ref f4))) (l4 : K.lookup f4 = some ⟨oc4, od4, .func (PySem.W.fnOf "_law_low" "_law_low" (defArgs s__law_low) (defBody s__law_low) (defScope s__law_low) .none kV4 dc4 pm4 an4 cd4 ct4), sl4⟩) (c4 : PySem.W.codeIn K cd4 "_law_low" = true) (k4 : PySem.W.keepIn K (.ref f4) = true)
    {f5 : Addr} {od5 an5 : Option Addr} {sl5 : Array (Option Value)} {oc5 kV5 dc5 pm5 cd5 ct5 : Value}
    (a5 : PySem.W.nsIn K mainGlobals "_law_frac" = some (some (.ref f5))) (l5 : K.lookup f5 = some ⟨oc5, od5, .func (PySem.W.fnOf "_law_frac" "_law_frac" (defArgs s__law_frac) (defBody s__law_frac) (defScope s__law_frac) .none kV5 dc5 pm5 an5 cd5 ct5), sl5⟩) (c5 : PySem.W.codeIn K cd5 "_law_frac" = true) (k5 : PySem.W.keepIn K (.ref f5) = true)
    {f6 : Addr} {od6 an6 : Option Addr} {sl6 : Array (Option Value)} {oc6 kV6 dc6 pm6 cd6 ct6 : Value}
    (a6 : PySem.W.nsIn K mainGlobals "_law_whole" = some (some (.ref f6))) (l6 : K.lookup f6 = some ⟨oc6, od6, .func (PySem.W.fnOf "_law_whole" "_law_whole" (defArgs s__law_whole) (defBody s__law_whole) (defScope s__law_whole) .none kV6 dc6 pm6 an6 cd6 ct6), sl6⟩) (c6 : PySem.W.codeIn K cd6 "_law_whole" = true) (k6 : PySem.W.keepIn K (.ref f6) = true)
    {f7 : Addr} {od7 an7 : Option Addr} {sl7 : Array (Option Value)} {oc7 kV7 dc7 pm7 cd7 ct7 : Value}
    (a7 : PySem.W.nsIn K mainGlobals "_law_good" = some (some (.ref f7))) (l7 : K.lookup f7 = some ⟨oc7, od7, .func (PySem.W.fnOf "_law_good" "_law_good" (defArgs s__law_good) (defBody s__law_good) (defScope s__law_good) .none kV7 dc7 pm7 an7 cd7 ct7), sl7⟩) (c7 : PySem.W.codeIn K cd7 "_law_good" = true) (k7 : PySem.W.keepIn K (.ref f7) = true)
    {f8 : Addr} {od8 an8 : Option Addr} {sl8 : Array (Option Value)} {oc8 kV8 dc8 pm8 cd8 ct8 : Value}
    (a8 : PySem.W.nsIn K mainGlobals "_law_same" = some (some (.ref f8))) (l8 : K.lookup f8 = some ⟨oc8, od8, .func (PySem.W.fnOf "_law_same" "_law_same" (defArgs s__law_same) (defBody s__law_same) (defScope s__law_same) .none kV8 dc8 pm8 an8 cd8 ct8), sl8⟩) (c8 : PySem.W.codeIn K cd8 "_law_same" = true) (k8 : PySem.W.keepIn K (.ref f8) = true)
    {f9 : Addr} {od9 an9 : Option Addr} {sl9 : Array (Option Value)} {oc9 kV9 dc9 pm9 cd9 ct9 : Value}
    (a9 : PySem.W.nsIn K mainGlobals "_law_prod" = some (some (.ref f9))) (l9 : K.lookup f9 = some ⟨oc9, od9, .func (PySem.W.fnOf "_law_prod" "_law_prod" (defArgs s__law_prod) (defBody s__law_prod) (defScope s__law_prod) .none kV9 dc9 pm9 an9 cd9 ct9), sl9⟩) (c9 : PySem.W.codeIn K cd9 "_law_prod" = true) (k9 : PySem.W.keepIn K (.ref f9) = true)
    {f10 : Addr} {od10 an10 : Option Addr} {sl10 : Array (Option Value)} {oc10 kV10 dc10 pm10 cd10 ct10 : Value}
    (a10 : PySem.W.nsIn K mainGlobals "_law_root" = some (some (.ref f10))) (l10 : K.lookup f10 = some ⟨oc10, od10, .func (PySem.W.fnOf "_law_root" "_law_root" (defArgs s__law_root) (defBody s__law_root) (defScope s__law_root) .none kV10 dc10 pm10 an10 cd10 ct10), sl10⟩) (c10 : PySem.W.codeIn K cd10 "_law_root" = true) (k10 : PySem.W.keepIn K (.ref f10) = true)
    {f11 : Addr} {od11 an11 : Option Addr} {sl11 : Array (Option Value)} {oc11 kV11 dc11 pm11 cd11 ct11 : Value}
    (a11 : PySem.W.nsIn K mainGlobals "_law_rooted" = some (some (.ref f11))) (l11 : K.lookup f11 = some ⟨oc11, od11, .func (PySem.W.fnOf "_law_rooted" "_law_rooted" (defArgs s__law_rooted) (defBody s__law_rooted) (defScope s__law_rooted) .none kV11 dc11 pm11 an11 cd11 ct11), sl11⟩) (c11 : PySem.W.codeIn K cd11 "_law_rooted" = true) (k11 : PySem.W.keepIn K (.ref f11) = true)
    {f12 : Addr} {od12 an12 : Option Addr} {sl12 : Array (Option Value)} {oc12 kV12 dc12 pm12 cd12 ct12 : Value}
    (a12 : PySem.W.nsIn K mainGlobals "_law_right" = some (some (.ref f12))) (l12 : K.lookup f12 = some ⟨oc12, od12, .func (PySem.W.fnOf "_law_right" "_law_right" (defArgs s__law_right) (defBody s__law_right) (defScope s__law_right) .none kV12 dc12 pm12 an12 cd12 ct12), sl12⟩) (c12 : PySem.W.codeIn K cd12 "_law_right" = true) (k12 : PySem.W.keepIn K (.ref f12) = true)
    {f13 : Addr} {od13 an13 : Option Addr} {sl13 : Array (Option Value)} {oc13 kV13 dc13 pm13 cd13 ct13 : Value}
    (a13 : PySem.W.nsIn K mainGlobals "law" = some (some (.ref f13))) (l13 : K.lookup f13 = some ⟨oc13, od13, .func (PySem.W.fnOf "law" "law" (defArgs s_law) (defBody s_law) (defScope s_law) .none kV13 dc13 pm13 an13 cd13 ct13), sl13⟩) (c13 : PySem.W.codeIn K cd13 "law" = true) (k13 : PySem.W.keepIn K (.ref f13) = true)
    (m_abs : PySem.W.nsIn K mainGlobals "abs" = some none)
    (m_bool : PySem.W.nsIn K mainGlobals "bool" = some none)
    (m_int : PySem.W.nsIn K mainGlobals "int" = some none)
    (m_isinstance : PySem.W.nsIn K mainGlobals "isinstance" = some none)
    (m_len : PySem.W.nsIn K mainGlobals "len" = some none)
    (m_max : PySem.W.nsIn K mainGlobals "max" = some none)
    (m_min : PySem.W.nsIn K mainGlobals "min" = some none)
    (m_range : PySem.W.nsIn K mainGlobals "range" = some none)
    (m_tuple : PySem.W.nsIn K mainGlobals "tuple" = some none)
    (g_isqrt : PySem.W.nsIn K mainGlobals "isqrt" = some (some (.builtin "math.isqrt")))
    : ∃ fd : FuncData, (∀ (s : Shared) (v : Value), BindsTo s fd ⟨[v], []⟩ [("_law_script", v)]) ∧ ∀ base : Heap, K.In base → base.Ns mainGlobals mg → FnOk l.prog w K mg base CX0 5 fa fd ["_law_script"] (spP K R_law) := by
  have F0 := fun_mk (st := s_root_of) l0 c0 k0
  have b0 := F0.binds (ps := ["one"]) fun _ _ _ _ _ _ us hl => match us, hl with | [_], _ => rfl
  have F1 := fun_mk (st := s__law_cell_at) l1 c1 k1
  have b1 := F1.binds (ps := ["_law_script", "_law_k"]) fun _ _ _ _ _ _ us hl => match us, hl with | [_, _], _ => rfl
  have F2 := fun_mk (st := s__law_pot) l2 c2 k2
  have b2 := F2.binds (ps := ["_law_cell"]) fun _ _ _ _ _ _ us hl => match us, hl with | [_], _ => rfl
  have F3 := fun_mk (st := s__law_take) l3 c3 k3
  have b3 := F3.binds (ps := ["_law_pot_here", "_law_far"]) fun _ _ _ _ _ _ us hl => match us, hl with | [_, _], _ => rfl
  have F4 := fun_mk (st := s__law_low) l4 c4 k4
  have b4 := F4.binds (ps := ["_law_top", "_law_bottom"]) fun _ _ _ _ _ _ us hl => match us, hl with | [_, _], _ => rfl
  have F5 := fun_mk (st := s__law_frac) l5 c5 k5
  have b5 := F5.binds (ps := ["_law_pot_here"]) fun _ _ _ _ _ _ us hl => match us, hl with | [_], _ => rfl
  have F6 := fun_mk (st := s__law_whole) l6 c6 k6
  have b6 := F6.binds (ps := ["_law_thing"]) fun _ _ _ _ _ _ us hl => match us, hl with | [_], _ => rfl
  have F7 := fun_mk (st := s__law_good) l7 c7 k7
  have b7 := F7.binds (ps := ["_law_thing"]) fun _ _ _ _ _ _ us hl => match us, hl with | [_], _ => rfl
  have F8 := fun_mk (st := s__law_same) l8 c8 k8
  have b8 := F8.binds (ps := ["_law_thing", "_law_due"]) fun _ _ _ _ _ _ us hl => match us, hl with | [_, _], _ => rfl
  have F9 := fun_mk (st := s__law_prod) l9 c9 k9
  have b9 := F9.binds (ps := ["_law_one", "_law_other"]) fun _ _ _ _ _ _ us hl => match us, hl with | [_, _], _ => rfl
  have F10 := fun_mk (st := s__law_root) l10 c10 k10
  have b10 := F10.binds (ps := ["_law_number"]) fun _ _ _ _ _ _ us hl => match us, hl with | [_], _ => rfl
  have F11 := fun_mk (st := s__law_rooted) l11 c11 k11
  have b11 := F11.binds (ps := ["_law_one"]) fun _ _ _ _ _ _ us hl => match us, hl with | [_], _ => rfl
  have F12 := fun_mk (st := s__law_right) l12 c12 k12
  have b12 := F12.binds (ps := ["_law_one"]) fun _ _ _ _ _ _ us hl => match us, hl with | [_], _ => rfl
  have F13 := fun_mk (st := s_law) l13 c13 k13
  have b13 := F13.binds (ps := ["_law_script"]) fun _ _ _ _ _ _ us hl => match us, hl with | [_], _ => rfl
  have T : Txt K mg (fun n => ([] : List Addr).getD n 0) (fun n => ([f0, f1, f2, f3, f4, f5, f6, f7, f8, f9, f10, f11, f12, f13] : List Addr).getD n 0) (fun n => ([] : List Addr).getD n 0) := {
    d_root_of := ⟨_, _, F0, PySem.W.mg_of X G a0, b0⟩
    d__law_cell_at := ⟨_, _, F1, PySem.W.mg_of X G a1, b1⟩
    d__law_pot := ⟨_, _, F2, PySem.W.mg_of X G a2, b2⟩
    d__law_take := ⟨_, _, F3, PySem.W.mg_of X G a3, b3⟩
    d__law_low := ⟨_, _, F4, PySem.W.mg_of X G a4, b4⟩
    d__law_frac := ⟨_, _, F5, PySem.W.mg_of X G a5, b5⟩
    d__law_whole := ⟨_, _, F6, PySem.W.mg_of X G a6, b6⟩
    d__law_good := ⟨_, _, F7, PySem.W.mg_of X G a7, b7⟩
    d__law_same := ⟨_, _, F8, PySem.W.mg_of X G a8, b8⟩
    d__law_prod := ⟨_, _, F9, PySem.W.mg_of X G a9, b9⟩
    d__law_root := ⟨_, _, F10, PySem.W.mg_of X G a10, b10⟩
    d__law_rooted := ⟨_, _, F11, PySem.W.mg_of X G a11, b11⟩
    d__law_right := ⟨_, _, F12, PySem.W.mg_of X G a12, b12⟩
    d_law := ⟨_, _, F13, PySem.W.mg_of X G a13, b13⟩
    m_abs := PySem.W.mg_none_of X G m_abs
    m_bool := PySem.W.mg_none_of X G m_bool
    m_int := PySem.W.mg_none_of X G m_int
    m_isinstance := PySem.W.mg_none_of X G m_isinstance
    m_len := PySem.W.mg_none_of X G m_len
    m_max := PySem.W.mg_none_of X G m_max
    m_min := PySem.W.mg_none_of X G m_min
    m_range := PySem.W.mg_none_of X G m_range
    m_tuple := PySem.W.mg_none_of X G m_tuple
    g_isqrt := PySem.W.mg_of X G g_isqrt
  }
  have e := hfa.symm.trans (PySem.W.mg_of X G a13)
  cases e
  refine ⟨PySem.W.fnOf "law" "law" (defArgs s_law) (defBody s_law) (defScope s_law) .none kV13 dc13 pm13 an13 cd13 ct13, fun s v => .of_eq rfl, fun base _ _ => ?_⟩
  exact h_law T F13
end Z
open PySem PySem.W PyProof.Rows
set_option maxRecDepth 100000 in
set_option maxHeartbeats 0 in
theorem PySem.Challenge.cw_seatclocks_k02_roots_told_holds : PySem.Challenge.rw_seatclocks_k02_roots_told.Holds := by
  w_on; o_law; k_head; (case hw => w_witness2)
  k_fill
  refine L2.walk_of (l := PySem.Challenge.rw_seatclocks_k02_roots_told) (n := 63) (k := 5) (x := "_law_script") (CX := fun _ => L2.CX0) (sp := fun w => Z.spP _ Z.R_law) rfl (by decide) rfl ⟨rfl, by decide, by decide⟩ (fun w h Y => PySem.W.kIn_of Y) ?F (fun _ H a ns hl _ hS => Z.law_sp hl hS) (fun _ _ _ _ _ h => h)
  case F =>
    intro w mg fa h KX G hmg
    refine' Z.all_mk KX G hmg ?a0 ?l0 ?c0 ?k0 ?a1 ?l1 ?c1 ?k1 ?a2 ?l2 ?c2 ?k2 ?a3 ?l3 ?c3 ?k3 ?a4 ?l4 ?c4 ?k4 ?a5 ?l5 ?c5 ?k5 ?a6 ?l6 ?c6 ?k6 ?a7 ?l7 ?c7 ?k7 ?a8 ?l8 ?c8 ?k8 ?a9 ?l9 ?c9 ?k9 ?a10 ?l10 ?c10 ?k10 ?a11 ?l11 ?c11 ?k11 ?a12 ?l12 ?c12 ?k12 ?a13 ?l13 ?c13 ?k13 ?m_abs ?m_bool ?m_int ?m_isinstance ?m_len ?m_max ?m_min ?m_range ?m_tuple ?g_isqrt
    (case a0 => k_is)
    (case l0 => k_is)
    (case c0 => k_is)
    (case k0 => k_is)
    (case a1 => k_is)
    (case l1 => k_is)
    (case c1 => k_is)
    (case k1 => k_is)
    (case a2 => k_is)
    (case l2 => k_is)
    (case c2 => k_is)
    (case k2 => k_is)
    (case a3 => k_is)
    (case l3 => k_is)
    (case c3 => k_is)
    (case k3 => k_is)
    (case a4 => k_is)
    (case l4 => k_is)
    (case c4 => k_is)
    (case k4 => k_is)
    (case a5 => k_is)
    (case l5 => k_is)
    (case c5 => k_is)
    (case k5 => k_is)
    (case a6 => k_is)
    (case l6 => k_is)
    (case c6 => k_is)
    (case k6 => k_is)
    (case a7 => k_is)
    (case l7 => k_is)
    (case c7 => k_is)
    (case k7 => k_is)
    (case a8 => k_is)
    (case l8 => k_is)
    (case c8 => k_is)
    (case k8 => k_is)
    (case a9 => k_is)
    (case l9 => k_is)
    (case c9 => k_is)
    (case k9 => k_is)
    (case a10 => k_is)
    (case l10 => k_is)
    (case c10 => k_is)
    (case k10 => k_is)
    (case a11 => k_is)
    (case l11 => k_is)
    (case c11 => k_is)
    (case k11 => k_is)
    (case a12 => k_is)
    (case l12 => k_is)
    (case c12 => k_is)
    (case k12 => k_is)
    (case a13 => k_is)
    (case l13 => k_is)
    (case c13 => k_is)
    (case k13 => k_is)
    (case m_abs => k_is)
    (case m_bool => k_is)
    (case m_int => k_is)
    (case m_isinstance => k_is)
    (case m_len => k_is)
    (case m_max => k_is)
    (case m_min => k_is)
    (case m_range => k_is)
    (case m_tuple => k_is)
    (case g_isqrt => k_is)
