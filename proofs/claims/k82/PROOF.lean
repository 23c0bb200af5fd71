import PyProof.Rows.All
import Wide.All
import OpenK.AllK
import Wide.FinOn
import HandS.ForExc
import HandS.Evl
import HandS.Wide
import HandS.Gcd
import HandS.IsInst
import HandS.Flow
import HandS.HotCalls
import HandS.ExcIs
import KE.DataFind
import HandS.Comp
import HandS.Dict
import HandS.Style
import HandS.WideBits
import HandS.Zip
import HandS.TupSets
import HandS.Deep
import HandS.SetFor
import HandS.Conv
import HandS.Strs
import KE.KMathG
import PyProof.EnumMake
import KE.KeyNested
import Flt.RightSqrt
import HandS.TupAny
import HandS.Text
import KE.KIndexOf
import HandS.MapObj
import HandS.SortInts
import PyProof.TupleOfSeq
import HandS.Star
import KE.GoesRaise
import HandS.Walk
import HandS.SortInts
import KE.DataMinMax
import KE.DataCmp
import HandS.DictTup
import HandS.DictSubView
import HandS.TupMul
import HandS.WordsDict
import HandS.Words
import PyProof.DictCopy
import HandS.More
import HandS.Small
import HandS.CallSlots
import HandS.Iter
import PySem.Challenge.RW_seatclocks_k82_questions_at_the_bench
set_option Elab.async false
set_option linter.all false
set_option maxRecDepth 100000
set_option maxHeartbeats 2000000
namespace Z
open PySem PySem.Spec PyProof.Rows L2
open Evl (Ex)
/-! ### data: what a value stands for -/
inductive Dt where
  | non | bl (b : Bool) | int (i : Int) | str (x : Str) | tup (ds : List Dt) | lst (ds : List Dt) | dct
mutual
def py : Dt → Option PyData
  | .non => some .none
  | .bl b => some (.bool b)
  | .int i => some (.int i)
  | .str x => some (.str x)
  | .tup ds => match pys ds with
    | some xs => some (.tuple xs)
    | none => none
  | .lst ds => match pys ds with
    | some xs => some (.list xs)
    | none => none
  | .dct => none
def pys : List Dt → Option (List PyData)
  | [] => some []
  | d :: ds => match py d, pys ds with
    | some x, some xs => some (x :: xs)
    | _, _ => none
end
/-- a tuple whose object has no dict of its own -/
def SqX (K : PySem.W.Frag) (H : Hp) (a : Addr) (xs : List V) : Prop :=
  (∃ o : Obj, H a = some (.frz o (.tup xs)) ∧ o.dict = none) ∨ ∃ (o : Obj) (its : Array Value) (n : Nat), K.lookup a = some o ∧ o.cls = .type "tuple" ∧ o.dict = none ∧ o.data = .seq its n ∧ its.size ≤ sizeLine ∧ Vals xs its.toList
theorem SqX.t {K : PySem.W.Frag} {H : Hp} {a : Addr} {xs : List V} (h : SqX K H a xs) : SqT K H a xs := by
  rcases h with ⟨o, h, _⟩ | ⟨o, its, n, h1, h2, _, h3, h4, h5⟩
  · exact .inl (.inr ⟨o, h⟩)
  · exact .inr ⟨o, its, n, h1, h2, h3, h4, h5⟩
theorem SqX.mono {K : PySem.W.Frag} {G H : Hp} {a : Addr} {xs : List V} (e : Ex G H) (h : SqX K G a xs) : SqX K H a xs := by
  rcases h with ⟨o, h, d⟩ | h
  · exact .inl ⟨o, e _ _ h, d⟩
  · exact .inr h
theorem exT {K : PySem.W.Frag} {G H : Hp} {a : Addr} {xs : List V} (e : Ex G H) (h : SqX K G a xs) : SqT K H a xs := (h.mono e).t
theorem sqx_new {K : PySem.W.Frag} {G : Hp} {p : Addr} {o : Obj} {xs : List V} (d : o.dict = none) : SqX K (upd G p (.frz o (.tup xs))) p xs := .inl ⟨o, upd_same, d⟩
/-- a tuple of written items -/
def tTup (t : TA) : TE := fun σ H Q => t σ H fun xs H1 => xs.length ≤ sizeLine ∧ ∀ p (o : Obj), H1 p = none → o.dict = none → Q (.ref p) (upd H1 p (.frz o (.tup xs)))
theorem pe_tup {X : Cx} {es : List Expr} {t : TA} {pos : Pos} {x1 : Nat} (h : PA X es t) : PE X (.Tuple es x1 pos) (tTup t) := by
  refine ⟨fun pins s σ H Q I hq => ?_⟩
  refine wpAny_Tuple_spliced (thn (h.run pos pins s σ H _ I hq) fun us s1 ⟨xs, H1, I1, r, z, q⟩ => ⟨by rw [← r.length]; exact z, ?_⟩)
  have hf : H1 s1.heap.objs.size = none := I1.hok.fresh (Nat.le_refl _)
  refine ⟨.ref s1.heap.objs.size, upd H1 s1.heap.objs.size (.frz { cls := .type "tuple", data := .seq us.toArray } (.tup xs)), I1.laid (t' := s1.toks) (fun b u e => Heap.get?_push_of_some _ e) (Nat.le_refl _) ?_, rfl, q _ _ hf rfl⟩
  exact ⟨Heap.get?_push_size _ rfl, z, us, r, ⟨_, Heap.get?_push_size _ rfl, rfl, _, rfl⟩⟩
mutual
inductive Rp (K : PySem.W.Frag) (H : Hp) : V → Dt → Prop
  | non : Rp K H .non .non
  | bl (b : Bool) : Rp K H (.bl b) (.bl b)
  | int (i : Int) : Rp K H (.int i) (.int i)
  | str (x : Str) : Rp K H (.str x) (.str x)
  | tup {a : Addr} {xs : List V} {ds : List Dt} : SqX K H a xs → Rps K H xs ds → Rp K H (.ref a) (.tup ds)
  | lst {a : Addr} {xs : List V} {ds : List Dt} : SqL K H a xs → Rps K H xs ds → Rp K H (.ref a) (.lst ds)
  | dct {a : Addr} {kvs : List (Key × V)} : H a = some (.dK kvs) → Rp K H (.ref a) .dct
inductive Rps (K : PySem.W.Frag) (H : Hp) : List V → List Dt → Prop
  | nil : Rps K H [] []
  | cons {v : V} {vs : List V} {d : Dt} {ds : List Dt} : Rp K H v d → Rps K H vs ds → Rps K H (v :: vs) (d :: ds)
end
mutual
theorem Rp.mono {K : PySem.W.Frag} {G H : Hp} (e : Ex G H) : ∀ {v : V} {d : Dt}, Rp K G v d → Rp K H v d
  | _, _, .non => .non
  | _, _, .bl b => .bl b
  | _, _, .int i => .int i
  | _, _, .str x => .str x
  | _, _, .tup h r => .tup (h.mono e) (Rps.mono e r)
  | _, _, .lst h r => .lst (Evl.ex_l e h) (Rps.mono e r)
  | _, _, .dct h => .dct (e _ _ h)
theorem Rps.mono {K : PySem.W.Frag} {G H : Hp} (e : Ex G H) : ∀ {vs : List V} {ds : List Dt}, Rps K G vs ds → Rps K H vs ds
  | _, _, .nil => .nil
  | _, _, .cons h r => .cons (Rp.mono e h) (Rps.mono e r)
end
theorem Rps.length {K : PySem.W.Frag} {H : Hp} : ∀ {vs : List V} {ds : List Dt}, Rps K H vs ds → vs.length = ds.length
  | _, _, .nil => rfl
  | _, _, .cons _ r => congrArg (· + 1) (Rps.length r)
theorem Rps.get {K : PySem.W.Frag} {H : Hp} : ∀ {vs : List V} {ds : List Dt} {i : Nat} {d : Dt}, Rps K H vs ds → ds[i]? = some d → ∃ v, vs[i]? = some v ∧ Rp K H v d
  | _, _, _, _, .nil, e => by simp at e
  | _, _, 0, _, .cons r _, e => by simp at e; subst e; exact ⟨_, rfl, r⟩
  | _, _, i + 1, _, .cons _ t, e => by
    obtain ⟨v, h1, h2⟩ := Rps.get (i := i) t (by simpa using e)
    exact ⟨v, by simpa using h1, h2⟩
theorem Rps.append {K : PySem.W.Frag} {H : Hp} : ∀ {vs ws : List V} {ds es : List Dt}, Rps K H vs ds → Rps K H ws es → Rps K H (vs ++ ws) (ds ++ es)
  | _, _, _, _, .nil, s => s
  | _, _, _, _, .cons r t, s => .cons r (Rps.append t s)
mutual
theorem Rp.dp {K : PySem.W.Frag} {H : Hp} : ∀ {v : V} {d : Dt} {x : PyData}, Rp K H v d → py d = some x → Dp K H v x
  | _, _, _, .non, e => by cases e; exact .non
  | _, _, _, .bl b, e => by cases e; exact .bl b
  | _, _, _, .int i, e => by cases e; exact .int i
  | _, _, _, .str x, e => by cases e; exact .str x
  | _, .tup ds, _, .tup h r, e => by
    cases q : pys ds with
    | none => simp only [py, q] at e; cases e
    | some xs =>
      simp only [py, q] at e
      cases e
      exact .tup h.t (Rps.dp r q)
  | _, .lst ds, _, .lst h r, e => by
    cases q : pys ds with
    | none => simp only [py, q] at e; cases e
    | some xs =>
      simp only [py, q] at e
      cases e
      exact .lst h (Rps.dp r q)
  | _, _, _, .dct h, e => by simp only [py] at e; cases e
theorem Rps.dp {K : PySem.W.Frag} {H : Hp} : ∀ {vs : List V} {ds : List Dt} {xs : List PyData}, Rps K H vs ds → pys ds = some xs → DpAll K H vs xs
  | _, _, _, .nil, e => by cases e; exact .nil
  | _, d :: ds, _, .cons h r, e => by
    cases q : py d with
    | none => simp only [pys, q] at e; cases e
    | some x =>
      cases q2 : pys ds with
      | none => simp only [pys, q, q2] at e; cases e
      | some xs =>
        simp only [pys, q, q2] at e
        cases e
        exact .cons (Rp.dp h q) (Rps.dp r q2)
end
/-! ### heaps: G what is known for good, H what stands -/
structure Nx (G H G2 H2 : Hp) : Prop where
  g : Ex G G2
  h : Ex H H2
  k : Ex G2 H2
  f : ∀ a, G a = none → H a ≠ none → G2 a = none
theorem Nx.refl {G H : Hp} (k : Ex G H) : Nx G H G H := ⟨Ex.refl G, Ex.refl H, k, fun _ h _ => h⟩
theorem ne_none {H H' : Hp} (e : Ex H H') {a : Addr} (h : H a ≠ none) : H' a ≠ none := by
  cases q : H a with
  | none => exact absurd q h
  | some o =>
    rw [e a o q]
    intro z
    cases z
theorem Nx.trans {G H G2 H2 G3 H3 : Hp} (a : Nx G H G2 H2) (b : Nx G2 H2 G3 H3) : Nx G H G3 H3 :=
  ⟨a.g.trans b.g, a.h.trans b.h, b.k, fun x h1 h2 => b.f x (a.f x h1 h2) (ne_none a.h h2)⟩
theorem ex_both {G H : Hp} {p : Addr} {o : HO} (k : Ex G H) : Ex (upd G p o) (upd H p o) := fun a u e => by
  by_cases h : a = p
  · subst h
    rw [upd_same] at e ⊢
    exact e
  · rw [upd_ne h] at e ⊢
    exact k a u e
theorem free_of {G H : Hp} (k : Ex G H) {p : Addr} (h : H p = none) : G p = none := by
  cases q : G p with
  | none => rfl
  | some o =>
    rw [k p o q] at h
    cases h
theorem Nx.new {G H : Hp} {p : Addr} {o : HO} (k : Ex G H) (h : H p = none) : Nx G H (upd G p o) (upd H p o) :=
  ⟨Ex.new (free_of k h), Ex.new h, ex_both k, fun a h1 h2 => by
    by_cases e : a = p
    · subst e
      exact absurd h h2
    · rw [upd_ne e]
      exact h1⟩
/-! ### slots -/
inductive Sl where
  | no | d (x : Dt) | raw (v : V)
  | ud (a : Addr) (ks : List (List L2.Key)) (ds : List Dt) | kd (a : Addr) (ks : List (List L2.Key)) (ds : List Dt) | tk (xs : List Int)
inductive SlOk (K : PySem.W.Frag) (G : Hp) : Option V → Sl → Prop
  | no (o : Option V) : SlOk K G o .no
  | d {v : V} {x : Dt} (h : Rp K G v x) : SlOk K G (some v) (.d x)
  | raw (v : V) : SlOk K G (some v) (.raw v)
  | ud {a : Addr} {ks : List (List L2.Key)} {vs : List V} {ds : List Dt} (h : G a = some (.dT (ks.zip vs))) (r : Rps K G vs ds) (l : ks.length = vs.length) : SlOk K G (some (.ref a)) (.ud a ks ds)
  | kd {a : Addr} {ks : List (List L2.Key)} {vs : List V} {ds : List Dt} {o : Obj} (h : G a = some (.frz o (.dT (ks.zip vs)))) (r : Rps K G vs ds) (l : ks.length = vs.length) : SlOk K G (some (.ref a)) (.kd a ks ds)
  | tk {q : Addr} {xs : List Int} (h : G q = some (.tup (xs.map V.int))) : SlOk K G (some (.ref q)) (.tk xs)
abbrev FrD (K : PySem.W.Frag) (G : Hp) : L2.St → List Sl → Prop := Paired (SlOk K G)
theorem SlOk.mono {K : PySem.W.Frag} {G G2 : Hp} (e : Ex G G2) {o : Option V} {s : Sl} (h : SlOk K G o s) : SlOk K G2 o s := by
  cases h with
  | no => exact .no _
  | d h => exact .d (h.mono e)
  | raw => exact .raw _
  | ud h r l => exact .ud (e _ _ h) (r.mono e) l
  | kd h r l => exact .kd (e _ _ h) (r.mono e) l
  | tk h => exact .tk (e _ _ h)
theorem FrD.mono {K : PySem.W.Frag} {G G2 : Hp} (e : Ex G G2) {σ : L2.St} {sl : List Sl} (h : FrD K G σ sl) : FrD K G2 σ sl := Paired.mapP h fun _ _ z => z.mono e
theorem frd_get {K : PySem.W.Frag} {G : Hp} : ∀ {σ : L2.St} {sl : List Sl} {i : Nat} {x : Dt}, FrD K G σ sl → sl[i]? = some (.d x) → ∃ v, σ[i]? = some (some v) ∧ Rp K G v x
  | _, _, _, _, .nil, e => by simp at e
  | _, _, 0, _, .cons r _, e => by
    simp at e
    subst e
    cases r with
    | d h => exact ⟨_, rfl, h⟩
  | _, _, i + 1, _, .cons _ t, e => by
    obtain ⟨v, h1, h2⟩ := frd_get (i := i) t (by simpa using e)
    exact ⟨v, by simpa using h1, h2⟩
theorem frd_raw {K : PySem.W.Frag} {G : Hp} : ∀ {σ : L2.St} {sl : List Sl} {i : Nat} {x : V}, FrD K G σ sl → sl[i]? = some (.raw x) → σ[i]? = some (some x)
  | _, _, _, _, .nil, e => by simp at e
  | _, _, 0, _, .cons r _, e => by
    simp at e
    subst e
    cases r with
    | raw => rfl
  | _, _, i + 1, _, .cons _ t, e => by
    have h1 := frd_raw (i := i) t (by simpa using e)
    simpa using h1
theorem frd_set {K : PySem.W.Frag} {G : Hp} {s : Sl} {v : V} (hs : SlOk K G (some v) s) : ∀ {σ : L2.St} {sl : List Sl} (i : Nat), FrD K G σ sl → FrD K G (σ.set i (some v)) (sl.set i s)
  | _, _, _, .nil => .nil
  | _, _, 0, .cons _ t => .cons hs t
  | _, _, i + 1, .cons r t => .cons r (frd_set hs i t)
theorem frd_start {K : PySem.W.Frag} {G : Hp} : ∀ {vs : List V} {ds : List Dt} (n : Nat), Rps K G vs ds → FrD K G (vs.map some ++ List.replicate n none) (ds.map Sl.d ++ List.replicate n .no)
  | _, _, n, .nil => by
    induction n with
    | zero => exact .nil
    | succ n ih =>
      show FrD K G (List.replicate (n + 1) none) (List.replicate (n + 1) Sl.no)
      rw [List.replicate_succ, List.replicate_succ]
      exact .cons (.no _) (by simpa using ih)
  | _, _, n, .cons h r => .cons (.d h) (frd_start n r)
/-! ### what an expression gives, from the data in the slots -/
def Ev (K : PySem.W.Frag) (te : TE) (sl : List Sl) (x : Dt) : Prop := ∀ (G H : Hp) (σ : L2.St), Ex G H → FrD K G σ sl → ∀ Q : VK, (∀ v G2 H2, Nx G H G2 H2 → Rp K G2 v x → Q v H2) → te σ H Q
def EvT (K : PySem.W.Frag) (tt : TT) (sl : List Sl) (b : Bool) : Prop := ∀ (G H : Hp) (σ : L2.St), Ex G H → FrD K G σ sl → ∀ Q : Bool → Hp → Prop, (∀ G2 H2, Nx G H G2 H2 → Q b H2) → tt σ H Q
def EvA (K : PySem.W.Frag) (ta : TA) (sl : List Sl) (xs : List Dt) : Prop := ∀ (G H : Hp) (σ : L2.St), Ex G H → FrD K G σ sl → ∀ Q : List V → Hp → Prop, (∀ vs G2 H2, Nx G H G2 H2 → Rps K G2 vs xs → Q vs H2) → ta σ H Q
/-- two data by an operator's rule; one; a list of them by a built-in's -/
def R2D (K : PySem.W.Frag) (r : R2) (x y z : Dt) : Prop := ∀ (G H : Hp), Ex G H → ∀ v w, Rp K G v x → Rp K G w y → ∀ Q : VK, (∀ u G2 H2, Nx G H G2 H2 → Rp K G2 u z → Q u H2) → r v w H Q
def R1D (K : PySem.W.Frag) (r : V → Hp → VK → Prop) (x z : Dt) : Prop := ∀ (G H : Hp), Ex G H → ∀ v, Rp K G v x → ∀ Q : VK, (∀ u G2 H2, Nx G H G2 H2 → Rp K G2 u z → Q u H2) → r v H Q
def RcD (K : PySem.W.Frag) (r : List V → Hp → VK → Prop) (xs : List Dt) (z : Dt) : Prop := ∀ (G H : Hp), Ex G H → ∀ vs, Rps K G vs xs → ∀ Q : VK, (∀ u G2 H2, Nx G H G2 H2 → Rp K G2 u z → Q u H2) → r vs H Q
/-- what a def that changes nothing promises: R (its arguments' data) (its answer's data) -/
def spP (K : PySem.W.Frag) (R : List Dt → Dt → Prop) : Sp := fun vs H Q _ => ∃ (ds : List Dt) (x : Dt) (G : Hp), Ex G H ∧ Rps K G vs ds ∧ R ds x ∧ ∀ v G2 H2, Nx G H G2 H2 → Rp K G2 v x → Q v H2
/-- the same where it may raise an error of the class cls with no dict of its own -/
def spX (K : PySem.W.Frag) (R : List Dt → Dt → Prop) (X : List Dt → Value → Prop) : Sp := fun vs H Q E => ∃ (ds : List Dt) (G : Hp), Ex G H ∧ Rps K G vs ds ∧
  ((∃ x, R ds x ∧ ∀ v G2 H2, Nx G H G2 H2 → Rp K G2 v x → Q v H2) ∨ (∃ cls, X ds cls ∧ ∀ G2 H2, Nx G H G2 H2 → E cls none H2))
section
variable {K : PySem.W.Frag} {sl : List Sl} {ta tb te tc : TE} {t u : TT} {x y z : Dt} {r : R2}
theorem ev_var {i : Nat} (h : sl[i]? = some (.d x)) : Ev K (tVar i) sl x := fun G H σ k f Q q => by
  obtain ⟨v, h1, h2⟩ := frd_get f h
  exact ⟨v, h1, q v G H (.refl k) h2⟩
theorem ev_int {i : Int} : Ev K (tC (.int i)) sl (.int i) := fun G H σ k f Q q => q _ G H (.refl k) (.int i)
theorem ev_bl {b : Bool} : Ev K (tC (.bl b)) sl (.bl b) := fun G H σ k f Q q => q _ G H (.refl k) (.bl b)
theorem ev_str {s : Str} : Ev K (tC (.str s)) sl (.str s) := fun G H σ k f Q q => q _ G H (.refl k) (.str s)
theorem ev_non : Ev K (tC .non) sl .non := fun G H σ k f Q q => q _ G H (.refl k) .non
theorem ev_is (h : Ev K te sl x) (e : x = y) : Ev K te sl y := e ▸ h
theorem ev_op (ha : Ev K ta sl x) (hb : Ev K tb sl y) (hr : R2D K r x y z) : Ev K (tOp r ta tb) sl z := fun G H σ k f Q q =>
  ha G H σ k f _ fun v G1 H1 n1 r1 => hb G1 H1 σ n1.k (FrD.mono n1.g f) _ fun w G2 H2 n2 r2 => hr G2 H2 n2.k v w (r1.mono n2.g) r2 Q fun u G3 H3 n3 r3 => q u G3 H3 ((n1.trans n2).trans n3) r3
theorem ev_un {r : V → Hp → VK → Prop} (ha : Ev K ta sl x) (hr : R1D K r x z) : Ev K (tUn r ta) sl z := fun G H σ k f Q q =>
  ha G H σ k f _ fun v G1 H1 n1 r1 => hr G1 H1 n1.k v r1 Q fun u G2 H2 n2 r2 => q u G2 H2 (n1.trans n2) r2
theorem r2_I0 {g : Int → Int → V} {i j : Int} {d : Dt} (h : ∀ G, Rp K G (g i j) d) : R2D K (rI0 g) (.int i) (.int j) d := fun G H k v w r1 r2 Q q => by
  cases r1
  cases r2
  exact ⟨i, j, rfl, rfl, q _ G H (.refl k) (h G)⟩
theorem r2_I {C : Int → Int → Prop} {g : Int → Int → V} {i j : Int} {d : Dt} (hc : C i j) (h : ∀ G, Rp K G (g i j) d) : R2D K (rI C g) (.int i) (.int j) d := fun G H k v w r1 r2 Q q => by
  cases r1
  cases r2
  exact ⟨i, j, rfl, rfl, hc, q _ G H (.refl k) (h G)⟩
theorem r2_add {i j : Int} : R2D K (rI0 fun i j => .int (i + j)) (.int i) (.int j) (.int (i + j)) := r2_I0 fun _ => .int _
theorem r2_sub {i j : Int} : R2D K (rI0 fun i j => .int (i - j)) (.int i) (.int j) (.int (i - j)) := r2_I0 fun _ => .int _
theorem r2_lt {i j : Int} : R2D K (rI0 fun i j => .bl (decide (i < j))) (.int i) (.int j) (.bl (decide (i < j))) := r2_I0 fun _ => .bl _
theorem r2_le {i j : Int} : R2D K (rI0 fun i j => .bl (decide (i ≤ j))) (.int i) (.int j) (.bl (decide (i ≤ j))) := r2_I0 fun _ => .bl _
theorem r2_gt {i j : Int} : R2D K (rI0 fun i j => .bl (decide (j < i))) (.int i) (.int j) (.bl (decide (j < i))) := r2_I0 fun _ => .bl _
theorem r2_ge {i j : Int} : R2D K (rI0 fun i j => .bl (decide (j ≤ i))) (.int i) (.int j) (.bl (decide (j ≤ i))) := r2_I0 fun _ => .bl _
theorem r2_mul {C : Int → Int → Prop} {i j : Int} (h : C i j) : R2D K (rI C fun i j => .int (i * j)) (.int i) (.int j) (.int (i * j)) := r2_I h fun _ => .int _
theorem r2_mod {i j : Int} (h : j ≠ 0) : R2D K (rI (fun _ j => j ≠ 0) fun i j => .int (i.fmod j)) (.int i) (.int j) (.int (i.fmod j)) := r2_I (C := fun _ j => j ≠ 0) h fun _ => .int _
/-- // by a divisor not 0 below 2 ^ 9000 in size -/
def CDivA (_ j : Int) : Prop := j ≠ 0 ∧ j.natAbs.log2 < 9000
theorem r2_div {i j : Int} (h : CDivA i j) : R2D K (rI CDivA fun i j => .int (i.fdiv j)) (.int i) (.int j) (.int (i.fdiv j)) := r2_I h fun _ => .int _
theorem r2_pow {i j : Int} (h : CPow i j) : R2D K (rI CPow fun i j => .int (i ^ j.toNat)) (.int i) (.int j) (.int (i ^ j.toNat)) := r2_I h fun _ => .int _
theorem r1_neg {i : Int} : R1D K (rU fun i => .int (-i)) (.int i) (.int (-i)) := fun G H k v r Q q => by
  cases r
  exact ⟨i, rfl, q _ G H (.refl k) (.int _)⟩
/-- == and != of data -/
theorem r2_eq {p q : PyData} (hx : py x = some p) (hy : py y = some q) (sx : SeqAt.shaped p = true) (sy : SeqAt.shaped q = true) : R2D K (rEqD K) x y (.bl (PyData.eqv p q)) := fun G H k v w r1 r2 Q qq =>
  ⟨p, q, (r1.mono k).dp hx, (r2.mono k).dp hy, sx, sy, qq _ G H (.refl k) (.bl _)⟩
theorem r2_ne {p q : PyData} (hx : py x = some p) (hy : py y = some q) (sx : SeqAt.shaped p = true) (sy : SeqAt.shaped q = true) : R2D K (rNeD K) x y (.bl (!PyData.eqv p q)) := fun G H k v w r1 r2 Q qq =>
  ⟨p, q, (r1.mono k).dp hx, (r2.mono k).dp hy, sx, sy, qq _ G H (.refl k) (.bl _)⟩
theorem r2_eqI {i j : Int} : R2D K (rEqD K) (.int i) (.int j) (.bl (i == j)) := by
  have h := r2_eq (K := K) (x := .int i) (y := .int j) (p := .int i) (q := .int j) rfl rfl rfl rfl
  rwa [PyData.eqv] at h
theorem r2_neI {i j : Int} : R2D K (rNeD K) (.int i) (.int j) (.bl (!(i == j))) := by
  have h := r2_ne (K := K) (x := .int i) (y := .int j) (p := .int i) (q := .int j) rfl rfl rfl rfl
  rwa [PyData.eqv] at h
def isNon : Dt → Bool
  | .non => true
  | _ => false
theorem isNon_v {G : Hp} {v : V} (h : Rp K G v x) : decide (v = .non) = isNon x := by
  cases h <;> first | rfl | exact decide_eq_false (fun z => nomatch z)
def rIsN : R2 := fun x y H Q => y = .non ∧ Q (.bl (decide (x = .non))) H
def rNotN : R2 := fun x y H Q => y = .non ∧ Q (.bl (!decide (x = .non))) H
theorem op_isN1 {X : Cx} : OpR X (compareOp .Is) rIsN := op_isN
theorem op_notN1 {X : Cx} : OpR X (compareOp .IsNot) rNotN := op_notN
theorem r2_isN : R2D K rIsN x .non (.bl (isNon x)) := fun G H k v w r1 r2 Q q => by
  cases r2
  refine ⟨rfl, ?_⟩
  rw [isNon_v r1]
  exact q _ G H (.refl k) (.bl _)
theorem r2_notN : R2D K rNotN x .non (.bl (!isNon x)) := fun G H k v w r1 r2 Q q => by
  cases r2
  refine ⟨rfl, ?_⟩
  rw [isNon_v r1]
  exact q _ G H (.refl k) (.bl _)
/-! subscripts -/
theorem at_get {vs : List V} {ds : List Dt} {G : Hp} {i : Int} (r : Rps K G vs ds) (h : atI ds i = some x) : ∃ v, atI vs i = some v ∧ Rp K G v x := by
  unfold atI at h ⊢
  rw [r.length]
  cases q : ixN ds.length i with
  | none => rw [q] at h; cases h
  | some j =>
    rw [q] at h
    exact r.get h
theorem r2_ixT {ds : List Dt} {i : Int} (h : atI ds i = some x) : R2D K (rIx K) (.tup ds) (.int i) x := fun G H k v w r1 r2 Q q => by
  cases r2
  cases r1 with
  | tup hs rs =>
    obtain ⟨v, h1, h2⟩ := at_get rs h
    exact .inr (.inl ⟨_, _, i, v, rfl, rfl, exT k hs, h1, q v G H (.refl k) h2⟩)
theorem r2_ixL {ds : List Dt} {i : Int} (h : atI ds i = some x) : R2D K (rIx K) (.lst ds) (.int i) x := fun G H k v w r1 r2 Q q => by
  cases r2
  cases r1 with
  | lst hs rs =>
    obtain ⟨v, h1, h2⟩ := at_get rs h
    exact .inl ⟨_, _, i, v, rfl, rfl, Evl.ex_l k hs, h1, q v G H (.refl k) h2⟩
/-! arguments, displays -/
theorem ea_nil : EvA K tNil sl [] := fun G H σ k f Q q => q _ G H (.refl k) .nil
theorem ea_cons {tr : TA} {xs : List Dt} (ha : Ev K ta sl x) (hr : EvA K tr sl xs) : EvA K (tCons ta tr) sl (x :: xs) := fun G H σ k f Q q =>
  ha G H σ k f _ fun v G1 H1 n1 r1 => hr G1 H1 σ n1.k (FrD.mono n1.g f) _ fun vs G2 H2 n2 r2 => q _ G2 H2 (n1.trans n2) (.cons (r1.mono n2.g) r2)
theorem sz_ok {n : Nat} (h : n ≤ 100000) : n ≤ sizeLine := Nat.le_trans h (by decide)
theorem ev_tup {tr : TA} {xs : List Dt} (h : EvA K tr sl xs) (hn : xs.length ≤ 100000 := by exact Nat.le_of_ble_eq_true rfl) : Ev K (tTup tr) sl (.tup xs) := fun G H σ k f Q q =>
  h G H σ k f _ fun vs G1 H1 n1 r1 => ⟨by rw [r1.length]; exact sz_ok hn, fun p o hp ho => q _ _ _ (n1.trans (.new n1.k hp)) (.tup (sqx_new ho) (r1.mono (Ex.new (free_of n1.k hp))))⟩
theorem ev_lst {tr : TA} {xs : List Dt} (h : EvA K tr sl xs) (hn : xs.length ≤ 100000 := by exact Nat.le_of_ble_eq_true rfl) : Ev K (tLst tr) sl (.lst xs) := fun G H σ k f Q q =>
  h G H σ k f _ fun vs G1 H1 n1 r1 => ⟨by rw [r1.length]; exact sz_ok hn, fun p hp => q _ _ _ (n1.trans (.new n1.k hp)) (.lst (.inl (.inl upd_same)) (r1.mono (Ex.new (free_of n1.k hp))))⟩
/-! calls -/
theorem rps_nil {G : Hp} {vs : List V} {ds : List Dt} (r : Rps K G vs ds) : Rps K G (vs ++ []) ds := by
  rw [List.append_nil]
  exact r
theorem ev_call {tr : TA} {xs : List Dt} {R : List Dt → Dt → Prop} {E : XK} (h : EvA K tr sl xs) (hr : R xs x) : Ev K (tCall (spP K R) [] E tr) sl x := fun G H σ k f Q q =>
  h G H σ k f _ fun vs G1 H1 n1 r1 => ⟨xs, x, G1, n1.k, rps_nil r1, hr, fun v G2 H2 n2 r2 => q v G2 H2 (n1.trans n2) r2⟩
theorem ev_callX {tr : TA} {xs : List Dt} {R : List Dt → Dt → Prop} {XF : List Dt → Value → Prop} {E : XK} (h : EvA K tr sl xs) (hr : R xs x) : Ev K (tCall (spX K R XF) [] E tr) sl x := fun G H σ k f Q q =>
  h G H σ k f _ fun vs G1 H1 n1 r1 => ⟨xs, G1, n1.k, rps_nil r1, .inl ⟨x, hr, fun v G2 H2 n2 r2 => q v G2 H2 (n1.trans n2) r2⟩⟩
theorem ev_cb {tr : TA} {xs : List Dt} {rc : List V → Hp → VK → Prop} (h : EvA K tr sl xs) (hr : RcD K rc xs x) : Ev K (tCB rc tr) sl x := fun G H σ k f Q q =>
  h G H σ k f _ fun vs G1 H1 n1 r1 => hr G1 H1 n1.k vs r1 Q fun u G2 H2 n2 r2 => q u G2 H2 (n1.trans n2) r2
def rAbs : List V → Hp → VK → Prop := fun xs H Q => ∃ i, xs = [.int i] ∧ Q (.int (if i < 0 then -i else i)) H
def rMax2 : List V → Hp → VK → Prop := fun xs H Q => ∃ i j, xs = [.int i, .int j] ∧ Q (.int (if j > i then j else i)) H
def rMin2 : List V → Hp → VK → Prop := fun xs H Q => ∃ i j, xs = [.int i, .int j] ∧ Q (.int (if j < i then j else i)) H
theorem rps1 {G : Hp} {vs : List V} {d : Dt} (r : Rps K G vs [d]) : ∃ v, vs = [v] ∧ Rp K G v d := by
  cases r with
  | cons h t => cases t; exact ⟨_, rfl, h⟩
theorem rps2 {G : Hp} {vs : List V} {d e : Dt} (r : Rps K G vs [d, e]) : ∃ v w, vs = [v, w] ∧ Rp K G v d ∧ Rp K G w e := by
  cases r with
  | cons h t =>
    obtain ⟨w, rfl, h2⟩ := rps1 t
    exact ⟨_, _, rfl, h, h2⟩
theorem rc_abs {i : Int} : RcD K rAbs [.int i] (.int (i.natAbs : Int)) := fun G H k vs r Q q => by
  obtain ⟨v, rfl, h⟩ := rps1 r
  cases h
  refine ⟨i, rfl, ?_⟩
  have e : (if i < 0 then -i else i) = (i.natAbs : Int) := by split <;> omega
  rw [e]
  exact q _ G H (.refl k) (.int _)
theorem rc_max {i j : Int} : RcD K rMax2 [.int i, .int j] (.int (max i j)) := fun G H k vs r Q q => by
  obtain ⟨v, w, rfl, h1, h2⟩ := rps2 r
  cases h1
  cases h2
  refine ⟨i, j, rfl, ?_⟩
  have e : (if j > i then j else i) = max i j := by split <;> omega
  rw [e]
  exact q _ G H (.refl k) (.int _)
theorem rc_min {i j : Int} : RcD K rMin2 [.int i, .int j] (.int (min i j)) := fun G H k vs r Q q => by
  obtain ⟨v, w, rfl, h1, h2⟩ := rps2 r
  cases h1
  cases h2
  refine ⟨i, j, rfl, ?_⟩
  have e : (if j < i then j else i) = min i j := by split <;> omega
  rw [e]
  exact q _ G H (.refl k) (.int _)
theorem rc_gcd {i j : Int} : RcD K rGcd [.int i, .int j] (.int ((Nat.gcd i.natAbs j.natAbs : Nat) : Int)) := fun G H k vs r Q q => by
  obtain ⟨v, w, rfl, h1, h2⟩ := rps2 r
  cases h1
  cases h2
  exact ⟨i, j, rfl, q _ G H (.refl k) (.int _)⟩
def rLenS (K : PySem.W.Frag) : List V → Hp → VK → Prop := fun xs H Q => ∃ p ys, xs = [.ref p] ∧ (SqL K H p ys ∨ SqT K H p ys) ∧ Q (.int ys.length) H
theorem rc_lenT {ds : List Dt} : RcD K (rLenS K) [.tup ds] (.int (ds.length : Int)) := fun G H k vs r Q q => by
  obtain ⟨v, rfl, h⟩ := rps1 r
  cases h with
  | tup hs rs =>
    refine ⟨_, _, rfl, .inr (exT k hs), ?_⟩
    rw [rs.length]
    exact q _ G H (.refl k) (.int _)
theorem rc_lenL {ds : List Dt} : RcD K (rLenS K) [.lst ds] (.int (ds.length : Int)) := fun G H k vs r Q q => by
  obtain ⟨v, rfl, h⟩ := rps1 r
  cases h with
  | lst hs rs =>
    refine ⟨_, _, rfl, .inl (Evl.ex_l k hs), ?_⟩
    rw [rs.length]
    exact q _ G H (.refl k) (.int _)
/-! isinstance -/
def tyN : Dt → String
  | .non => "NoneType" | .bl _ => "bool" | .int _ => "int" | .str _ => "str" | .tup _ => "tuple" | .lst _ => "list" | .dct => "dict"
theorem tyx_of {H : Hp} {v : V} (h : Rp K H v x) : TyX K H v (.type (tyN x)) := by
  cases h with
  | non => exact .base .non
  | bl b => exact .base (.bl b)
  | int i => exact .base (.int i)
  | str s => exact .base (.str s)
  | tup hs _ =>
    rcases hs with ⟨o, h, _⟩ | ⟨o, its, n, hl, hc, _⟩
    · exact .fTuple h
    · exact .kTuple hl hc
  | lst hs _ =>
    rcases hs with (h | ⟨o, h⟩) | ⟨o, its, n, hl, hc, _⟩
    · exact .base (.lst h)
    · exact .base (.frz h)
    · exact .kList hl hc
  | dct h => exact .base (.dK h)
theorem ev_isi {n : String} {b : Bool} (h : Ev K ta sl x) (hb : kitB (tyN x) n = some b) : Ev K (tCB (rIsi K) (tCons ta (tCons (tC (.ty n)) tNil))) sl (.bl b) := fun G H σ k f Q q =>
  h G H σ k f _ fun v G1 H1 n1 r1 => ⟨v, .ty n, _, _, b, rfl, .ty n, tyx_of (r1.mono n1.k), kit_ty hb, q _ G1 H1 n1 (.bl b)⟩
theorem kb_ii : kitB "int" "int" = some true := by decide +kernel
theorem kb_ib : kitB "int" "bool" = some false := by decide +kernel
theorem kb_tt : kitB "tuple" "tuple" = some true := by decide +kernel
theorem kb_bb : kitB "bool" "bool" = some true := by decide +kernel
/-! tests, and | or | not -/
theorem et_test {b : Bool} (h : Ev K te sl (.bl b)) : EvT K (tTest te) sl b := fun G H σ k f Q q => h G H σ k f _ fun v G1 H1 n1 r1 => by
  cases r1
  exact ⟨b, rfl, q G1 H1 n1⟩
theorem et_B {b : Bool} (h : Ev K te sl (.bl b)) : EvT K (tB te) sl b := fun G H σ k f Q q => h G H σ k f _ fun v G1 H1 n1 r1 => by
  cases r1
  exact ⟨b, rfl, q G1 H1 n1⟩
theorem et_is {a b : Bool} (h : EvT K t sl a) (e : a = b) : EvT K t sl b := e ▸ h
theorem et_and {a b : Bool} (h1 : EvT K t sl a) (h2 : a = true → EvT K u sl b) : EvT K (tAnd t u) sl (a && b) := fun G H σ k f Q q => h1 G H σ k f _ fun G1 H1 n1 => by
  cases a with
  | true =>
    show u σ H1 Q
    exact h2 rfl G1 H1 σ n1.k (FrD.mono n1.g f) Q fun G2 H2 n2 => q G2 H2 (n1.trans n2)
  | false => exact q G1 H1 n1
theorem et_or {a b : Bool} (h1 : EvT K t sl a) (h2 : a = false → EvT K u sl b) : EvT K (tOr t u) sl (a || b) := fun G H σ k f Q q => h1 G H σ k f _ fun G1 H1 n1 => by
  cases a with
  | true => exact q G1 H1 n1
  | false =>
    show u σ H1 Q
    exact h2 rfl G1 H1 σ n1.k (FrD.mono n1.g f) Q fun G2 H2 n2 => q G2 H2 (n1.trans n2)
theorem et_not {a : Bool} (h : EvT K t sl a) : EvT K (tNot t) sl (!a) := fun G H σ k f Q q => h G H σ k f _ fun G1 H1 n1 => q G1 H1 n1
theorem ev_andV {a b : Bool} (h1 : Ev K ta sl (.bl a)) (h2 : a = true → Ev K tb sl (.bl b)) : Ev K (tAndV ta tb) sl (.bl (a && b)) := fun G H σ k f Q q => h1 G H σ k f _ fun v G1 H1 n1 r1 => by
  cases r1
  refine ⟨a, rfl, ?_⟩
  cases a with
  | true =>
    show tb σ H1 Q
    exact h2 rfl G1 H1 σ n1.k (FrD.mono n1.g f) Q fun v G2 H2 n2 => q v G2 H2 (n1.trans n2)
  | false => exact q _ G1 H1 n1 (.bl _)
theorem ev_orV {a b : Bool} (h1 : Ev K ta sl (.bl a)) (h2 : a = false → Ev K tb sl (.bl b)) : Ev K (tOrV ta tb) sl (.bl (a || b)) := fun G H σ k f Q q => h1 G H σ k f _ fun v G1 H1 n1 r1 => by
  cases r1
  refine ⟨a, rfl, ?_⟩
  cases a with
  | true => exact q _ G1 H1 n1 (.bl _)
  | false =>
    show tb σ H1 Q
    exact h2 rfl G1 H1 σ n1.k (FrD.mono n1.g f) Q fun v G2 H2 n2 => q v G2 H2 (n1.trans n2)
theorem ev_notV {a : Bool} (h1 : Ev K ta sl (.bl a)) : Ev K (tNotV ta) sl (.bl (!a)) := fun G H σ k f Q q => h1 G H σ k f _ fun v G1 H1 n1 r1 => by
  cases r1
  exact ⟨a, rfl, q _ G1 H1 n1 (.bl _)⟩
end
/-! ### statements that change nothing but slots: Nt goes on with other slots, Rt hands back -/
def Nt (K : PySem.W.Frag) (ts : TS) (sl sl2 : List Sl) : Prop := ∀ (G H : Hp) (σ : L2.St), Ex G H → FrD K G σ sl → ∀ D : Ends, (∀ σ2 G2 H2, Nx G H G2 H2 → FrD K G2 σ2 sl2 → D.nx σ2 H2) → ts D σ H
def Rt (K : PySem.W.Frag) (ts : TS) (sl : List Sl) (x : Dt) : Prop := ∀ (G H : Hp) (σ : L2.St), Ex G H → FrD K G σ sl → ∀ D : Ends, (∀ v G2 H2, Nx G H G2 H2 → Rp K G2 v x → D.rt v H2) → ts D σ H
section
variable {K : PySem.W.Frag} {sl sl1 sl2 : List Sl} {te : TE} {tc : TT} {x y : Dt} {t u : TS}
theorem nt_next : Nt K tNext sl sl := fun G H σ k f D q => q σ G H (.refl k) f
theorem nt_asg {i : Nat} (h : Ev K te sl x) : Nt K (tAsg te (gName i)) sl (sl.set i (.d x)) := fun G H σ k f D q =>
  h G H σ k f _ fun v G1 H1 n1 r1 => q _ G1 H1 n1 (frd_set (.d r1) i (FrD.mono n1.g f))
theorem nt_par {i j : Nat} {ta : TA} (h : EvA K ta sl [x, y]) : Nt K (tPar i j ta) sl ((sl.set i (.d x)).set j (.d y)) := fun G H σ k f D q =>
  h G H σ k f _ fun vs G1 H1 n1 r1 => by
    obtain ⟨v, w, rfl, h1, h2⟩ := rps2 r1
    exact ⟨v, w, rfl, q _ G1 H1 n1 (frd_set (.d h2) j (frd_set (.d h1) i (FrD.mono n1.g f)))⟩
/-- a, b = a pair -/
theorem nt_unp {i j : Nat} (h : Ev K te sl (.tup [x, y])) : Nt K (tAsg te (gTup K 2 (gCons (gName i) (gCons (gName j) gNil)))) sl ((sl.set i (.d x)).set j (.d y)) := fun G H σ k f D q =>
  h G H σ k f _ fun v G1 H1 n1 r1 => by
    cases r1 with
    | tup hs rs =>
      obtain ⟨v, w, rfl, h1, h2⟩ := rps2 rs
      exact ⟨_, _, rfl, exT n1.k hs, rfl, v, [w], rfl, w, [], rfl, rfl, q _ G1 H1 n1 (frd_set (.d h2) j (frd_set (.d h1) i (FrD.mono n1.g f)))⟩
theorem rt_seq (h1 : Nt K t sl sl1) (h2 : Rt K u sl1 x) : Rt K (tSeq t u) sl x := fun G H σ k f D q =>
  h1 G H σ k f _ fun σ1 G1 H1 n1 f1 => h2 G1 H1 σ1 n1.k f1 D fun v G2 H2 n2 r2 => q v G2 H2 (n1.trans n2) r2
theorem rt_ret (h : Ev K te sl x) : Rt K (tRet te) sl x := fun G H σ k f D q => h G H σ k f _ q
theorem rt_is (h : Rt K t sl x) (e : x = y) : Rt K t sl y := e ▸ h
theorem nt_is (h : Nt K t sl sl1) (e : sl1 = sl2) : Nt K t sl sl2 := e ▸ h
theorem nt_if {b : Bool} (h : EvT K tc sl b) (h1 : b = true → Nt K t sl sl2) (h2 : b = false → Nt K u sl sl2) : Nt K (tIfS tc t u) sl sl2 := fun G H σ k f D q => h G H σ k f _ fun G1 H1 n1 => by
  cases b with
  | true =>
    show t D σ H1
    exact h1 rfl G1 H1 σ n1.k (FrD.mono n1.g f) D fun σ2 G2 H2 n2 => q σ2 G2 H2 (n1.trans n2)
  | false =>
    show u D σ H1
    exact h2 rfl G1 H1 σ n1.k (FrD.mono n1.g f) D fun σ2 G2 H2 n2 => q σ2 G2 H2 (n1.trans n2)
/-- if c: .. return; then the rest -/
theorem rt_cond {b : Bool} (h : EvT K tc sl b) (h1 : b = true → Rt K t sl x) (h2 : b = false → Rt K u sl x) : Rt K (tSeq (tIfS tc t tNext) u) sl x := fun G H σ k f D q => h G H σ k f _ fun G1 H1 n1 => by
  cases b with
  | true =>
    show t { D with nx := u D } σ H1
    exact h1 rfl G1 H1 σ n1.k (FrD.mono n1.g f) _ fun v G2 H2 n2 => q v G2 H2 (n1.trans n2)
  | false =>
    show u D σ H1
    exact h2 rfl G1 H1 σ n1.k (FrD.mono n1.g f) D fun v G2 H2 n2 => q v G2 H2 (n1.trans n2)
/-- the test is never true, the rest hands back -/
theorem rt_no {b : Bool} (h : EvT K tc sl b) (e : b = false) (k : Rt K u sl x) : Rt K (tSeq (tIfS tc t tNext) u) sl x := by
  subst e
  exact rt_cond h (fun z => by cases z) fun _ => k
theorem rt_yes {b : Bool} (h : EvT K tc sl b) (e : b = true) (k : Rt K t sl x) : Rt K (tSeq (tIfS tc t tNext) u) sl x := by
  subst e
  exact rt_cond h (fun _ => k) fun z => by cases z
/-- a while whose slots are told by a state: I holds, μ falls -/
theorem nt_while {α : Type} (S : α → List Sl) (I : α → Prop) (μ : α → Nat) (a0 : α) (i0 : I a0) (e0 : sl = S a0)
    (hs : ∀ a, I a → ∃ b, EvT K tc (S a) b ∧ (b = true → ∃ a', I a' ∧ μ a' < μ a ∧ Nt K t (S a) (S a')) ∧ (b = false → S a = sl2)) : Nt K (tWhile tc t) sl sl2 := fun G H σ k f D q => by
  subst e0
  refine ⟨fun m σ' H' => ∃ a G', m = μ a ∧ I a ∧ Nx G H G' H' ∧ FrD K G' σ' (S a), ⟨μ a0, a0, G, rfl, i0, .refl k, f⟩, ?_⟩
  rintro m σ1 H1 ⟨a, G1, rfl, ia, n1, f1⟩
  obtain ⟨b, hb, ht, hf⟩ := hs a ia
  refine hb G1 H1 σ1 n1.k f1 _ fun G2 H2 n2 => ?_
  cases b with
  | true =>
    obtain ⟨a', ia', lt, nt⟩ := ht rfl
    refine ⟨fun σ' H' => ∃ G', Nx G H G' H' ∧ FrD K G' σ' (S a'), fun σ' H' ⟨G', n', f'⟩ => ⟨μ a', lt, a', G', rfl, ia', n', f'⟩, ?_⟩
    exact nt G2 H2 σ1 n2.k (FrD.mono n2.g f1) _ fun σ3 G3 H3 n3 f3 => ⟨G3, (n1.trans n2).trans n3, f3⟩
  | false =>
    show D.nx σ1 H2
    have e := hf rfl
    rw [e] at f1
    exact q σ1 G2 H2 (n1.trans n2) (FrD.mono n2.g f1)
end
/-! ### a def by its body -/
/-- a def of the module -/
structure Dd (K : PySem.W.Frag) (mg : Str → Option Value) (x : Str) (st : Stmt) (ps : List Str) : Prop where
  ex : ∃ (f : Addr) (fd : FuncData), Fun K x x st f fd ∧ mg x = some (.ref f) ∧ Binds K fd ps []
/-- a def that may be called by its name -/
structure Has (P : Program) (w : World) (K : PySem.W.Frag) (mg : Str → Option Value) (base : Heap) (CX : CXT) (k : Nat) (x : Str) (ps : List Str) (sp : Sp) : Prop where
  ex : ∃ (f : Addr) (fd : FuncData), FnOk P w K mg base CX k f fd ps sp ∧ mg x = some (.ref f) ∧ PySem.W.keepIn K (.ref f) = true ∧ Binds K fd ps []
section
variable {P : Program} {w : World} {K : PySem.W.Frag} {mg : Str → Option Value} {base : Heap} {x : Str} {st : Stmt} {N ps : List Str} {k : Nat}
theorem start_ok {G : Hp} {vs : List V} {ds : List Dt} (r : Rps K G vs ds) (hl : ds.length = ps.length) : FrD K G (L2.start N vs) (ds.map Sl.d ++ List.replicate (N.length - ps.length) .no) := by
  unfold L2.start
  rw [r.length, hl]
  exact frd_start _ r
/-- a def that changes nothing and hands back on every way -/
theorem Dd.pure {R : List Dt → Dt → Prop} {t : TS} (D : Dd K mg x st ps) (S : FnScope N ps (defScope st)) (hl : ∀ ds d, R ds d → ds.length = ps.length)
    (h1 : ∀ (f : Addr) (cdv : Value) (A : Around) (outer : List Env) (s : Shared) (H : Hp) (E : XK), Room k (A.deeper (envOfC x (defScope st) s.heap.objs.size f cdv)) → PSs (cxOf CX0 P w K mg base N x (defScope st) f cdv A outer s H E).nox (defBody st) t)
    (h2 : ∀ ds d, R ds d → Rt K t (ds.map Sl.d ++ List.replicate (N.length - ps.length) .no) d) : Has P w K mg base CX0 (k + 1) x ps (spP K R) := by
  obtain ⟨f, fd, F, hm, b⟩ := D.ex
  refine ⟨f, fd, F.ok S (fun vs H Q E h => ?_) (fun cdv A outer s H vs Q E hr h => ⟨t, h1 f cdv A outer s H E hr, ?_⟩), hm, F.kp, b⟩
  · obtain ⟨ds, d, G, _, r, hR, _⟩ := h
    rw [r.length]
    exact hl ds d hR
  · obtain ⟨ds, d, G, kG, r, hR, q⟩ := h
    exact h2 ds d hR G H _ kG (start_ok r (hl ds d hR)) _ q
/-- .. at its own place -/
theorem fn_pure {R : List Dt → Dt → Prop} {t : TS} {f : Addr} {fd : FuncData} (F : Fun K x x st f fd) (S : FnScope N ps (defScope st)) (hl : ∀ ds d, R ds d → ds.length = ps.length)
    (h1 : ∀ (f : Addr) (cdv : Value) (A : Around) (outer : List Env) (s : Shared) (H : Hp) (E : XK), Room k (A.deeper (envOfC x (defScope st) s.heap.objs.size f cdv)) → PSs (cxOf CX0 P w K mg base N x (defScope st) f cdv A outer s H E).nox (defBody st) t)
    (h2 : ∀ ds d, R ds d → Rt K t (ds.map Sl.d ++ List.replicate (N.length - ps.length) .no) d) : FnOk P w K mg base CX0 (k + 1) f fd ps (spP K R) := by
  refine F.ok S (fun vs H Q E h => ?_) (fun cdv A outer s H vs Q E hr h => ⟨t, h1 f cdv A outer s H E hr, ?_⟩)
  · obtain ⟨ds, d, G, _, r, hR, _⟩ := h
    rw [r.length]
    exact hl ds d hR
  · obtain ⟨ds, d, G, kG, r, hR, q⟩ := h
    exact h2 ds d hR G H _ kG (start_ok r (hl ds d hR)) _ q
theorem rps_ints {H : Hp} : ∀ ns : List Int, Rps K H (ns.map V.int) (ns.map Dt.int)
  | [] => .nil
  | n :: r => .cons (.int n) (rps_ints r)
/-- any promise -/
theorem Dd.any {sp : Sp} {t : TS} (D : Dd K mg x st ps) (S : FnScope N ps (defScope st)) (hl : ∀ vs H Q E, sp vs H Q E → vs.length = ps.length)
    (h1 : ∀ (f : Addr) (cdv : Value) (A : Around) (outer : List Env) (s : Shared) (H : Hp) (E : XK), Room k (A.deeper (envOfC x (defScope st) s.heap.objs.size f cdv)) → PSs (cxOf CX0 P w K mg base N x (defScope st) f cdv A outer s H E).nox (defBody st) t)
    (h2 : ∀ vs H Q E, sp vs H Q E → t { nx := fun _ H' => Q .non H', rt := Q } (L2.start N vs) H) : Has P w K mg base CX0 (k + 1) x ps sp := by
  obtain ⟨f, fd, F, hm, b⟩ := D.ex
  exact ⟨f, fd, F.ok S hl (fun cdv A outer s H vs Q E hr h => ⟨t, h1 f cdv A outer s H E hr, h2 vs H Q E h⟩), hm, F.kp, b⟩
end
section
variable {X : Cx} {CX : CXT} {k j : Nat} {x : Str} {ps : List Str} {sp : Sp} {p pos : Pos} {e : Expr} {es : List Expr} {t : TA} {E : XK}
theorem pe_h (c : Has X.prog X.w X.K X.mg X.base CX k x ps sp) (hr : Room j X.A) (hk : k ≤ j) (hx : Passes CX X E) (ha : PA X (e :: es) t) (hg : Gl X x := by rfl)
    (hdb : (x == ("__debug__" : Str)) = false := by decide) (he : starEach (e :: es) X.env = (false, eval e X.env) :: starEach es X.env := by rfl) (hpl : (backTo pos (starEach es X.env)).any (·.1) = false := by rfl) :
    PE X (.Call (.Name x p) (e :: es) [] pos) (tCall sp [] E t) := by
  obtain ⟨f, fd, F, hm, kp, b⟩ := c.ex
  exact pe_call F (hr.mono hk) hg hm kp b .nil hx ha hdb he hpl
theorem op_fdivA : OpR X (binaryOp .FloorDiv) (rI CDivA fun i j => .int (i.fdiv j)) := opI fun i j _ _ _ _ _ hc q => floordiv_int hc.1 q (.inl (PyProof.noPylong_of_log2 hc.2))
theorem op_mulA : OpR X (binaryOp .Mult) (rI IntMulOk fun i j => .int (i * j)) := opI fun _ _ _ _ _ _ _ hc q => mul_int q hc
theorem ixK {K : PySem.W.Frag} (e : X.K = K) : IxR X (rIx K) := e ▸ ix_seq
theorem eqK {K : PySem.W.Frag} (e : X.K = K) (hu : X.A.units + 64 < cLine) : OpR X (compareOp .Eq) (rEqD K) := e ▸ op_eqD hu
theorem neK {K : PySem.W.Frag} (e : X.K = K) (hu : X.A.units + 64 < cLine) : OpR X (compareOp .NotEq) (rNeD K) := e ▸ op_neD hu
theorem lenK {K : PySem.W.Frag} (e : X.K = K) : CallR X (.builtin "len") (rLenS K) := e ▸ call_len_seq
theorem isiK {K : PySem.W.Frag} (e : X.K = K) : CallR X (.builtin "isinstance") (rIsi K) := e ▸ call_isi
theorem lstK {K : PySem.W.Frag} {tg l : Expr} {tl : TE} (e : X.K = K) (hl : PE X l tl) : PI X tg l (iList K tl) := e ▸ pi_list hl
theorem tupK {K : PySem.W.Frag} {es : List Expr} {k : Nat} {t : TGs} {n : Nat} {pos : Pos} (e : X.K = K) (hc : X.calm = true) (h : PGs X es t) (hn : (assignEach es X.env).length = n := by rfl) (hst : (assignEach es X.env).findIdx? (·.1) = none := by rfl) : PG X (.Tuple es k pos) (gTup K n t) := e ▸ pg_tup hc h hn hst
theorem cr_abs : CallR X (.builtin "abs") rAbs := call_abs
theorem cr_max (hc : X.calm = true) : CallR X (.builtin "max") rMax2 := call_max2 hc
theorem cr_min (hc : X.calm = true) : CallR X (.builtin "min") rMin2 := call_min2 hc
def rIsqrt : List V → Hp → VK → Prop := fun vs H Q => ∃ a : Int, vs = [.int a] ∧ 0 ≤ a ∧ a.toNat.log2 < 13000 ∧ Q (.int ((PySem.Float64.isqrt a.toNat : Nat) : Int)) H
theorem cr_isqrt : CallR X (.builtin "math.isqrt") rIsqrt := by
  intro pins s σ H vs us Q I r h
  obtain ⟨a, rfl, h0, h1, q⟩ := h
  obtain ⟨u, rfl, t, rfl⟩ := vals1 r
  exact call_function_meets PySem.W.MGF.kind_isqrt PySem.W.MGF.plain_isqrt PySem.W.MGF.entry_isqrt (PySem.W.MGF.args_isqrt _) (PySem.W.mg_run_isqrt a t (by omega) (by omega) (by omega)).meets ⟨.int _, H, I.tok _, ⟨_, rfl⟩, q⟩
end
end Z
namespace Z
open PySem PySem.Spec PyProof.Rows L2
open Evl (Ex)
/-! ### pots: lists of one int, at addresses that are not known for good -/
def Pots (ps : List Addr) (G H : Hp) : Prop := ∀ p ∈ ps, G p = none ∧ ∃ n : Int, H p = some (.lst [.int n])
structure NxP (ps : List Addr) (G H G2 H2 : Hp) : Prop where
  g : Ex G G2
  k : Ex G2 H2
  h : ∀ a o, a ∉ ps → H a = some o → H2 a = some o
  t : ∀ a, H a ≠ none → H2 a ≠ none
  f : ∀ a, G a = none → H a ≠ none → G2 a = none
theorem NxP.refl {ps : List Addr} {G H : Hp} (k : Ex G H) : NxP ps G H G H := ⟨Ex.refl G, k, fun _ _ _ h => h, fun _ h => h, fun _ h _ => h⟩
theorem NxP.trans {ps : List Addr} {G H G2 H2 G3 H3 : Hp} (a : NxP ps G H G2 H2) (b : NxP ps G2 H2 G3 H3) : NxP ps G H G3 H3 :=
  ⟨a.g.trans b.g, b.k, fun x o hx e => b.h x o hx (a.h x o hx e), fun x h => b.t x (a.t x h), fun x h1 h2 => b.f x (a.f x h1 h2) (a.t x h2)⟩
theorem Nx.p {ps : List Addr} {G H G2 H2 : Hp} (n : Nx G H G2 H2) : NxP ps G H G2 H2 := ⟨n.g, n.k, fun a o _ e => n.h a o e, fun _ h => ne_none n.h h, n.f⟩
theorem NxP.nx {G H G2 H2 : Hp} (n : NxP [] G H G2 H2) : Nx G H G2 H2 := ⟨n.g, fun a o e => n.h a o (by simp) e, n.k, n.f⟩
theorem Pots.nx {ps : List Addr} {G H G2 H2 : Hp} (m : Pots ps G H) (n : Nx G H G2 H2) : Pots ps G2 H2 := fun p hp => by
  obtain ⟨h1, i, h2⟩ := m p hp
  exact ⟨n.f p h1 (by rw [h2]; intro z; cases z), i, n.h p _ h2⟩
theorem Pots.nil {G H : Hp} : Pots [] G H := fun p hp => by cases hp
/-! ### promises of defs that draw from a pot -/
/-- hands back a new pot -/
def spNew (K : PySem.W.Frag) (C : List Dt → Prop) : Sp := fun vs H Q _ => ∃ (ds : List Dt) (G : Hp), Ex G H ∧ Rps K G vs ds ∧ C ds ∧
  ∀ p n G2 H2, Nx G H G2 H2 → H p = none → G2 p = none → H2 p = some (.lst [.int n]) → Q (.ref p) H2
/-- a number from 0 up to far -/
def spTake : Sp := fun vs H Q _ => ∃ (p : Addr) (n f : Int), vs = [.ref p, .int f] ∧ H p = some (.lst [.int n]) ∧ 0 < f ∧ f.natAbs.log2 < 9000 ∧
  ∀ m n' : Int, 0 ≤ m → m < f → Q (.int m) (upd H p (.lst [.int n']))
/-- what R tells may come, drawn from the pot that is handed in first -/
def spM (K : PySem.W.Frag) (C : List Dt → Prop) (R : List Dt → Dt → Prop) : Sp := fun vs H Q _ => ∃ (p : Addr) (ws : List V) (ds : List Dt) (G : Hp), vs = .ref p :: ws ∧ Ex G H ∧ Rps K G ws ds ∧ C ds ∧ Pots [p] G H ∧
  ∀ v x G2 H2, R ds x → NxP [p] G H G2 H2 → Pots [p] G2 H2 → Rp K G2 v x → Q v H2
/-! ### expressions, where pots may be drawn from: what may come is R -/
def Ep (K : PySem.W.Frag) (te : TE) (sl : List Sl) (ps : List Addr) (R : Dt → Prop) : Prop := ∀ (G H : Hp) (σ : L2.St), Ex G H → FrD K G σ sl → Pots ps G H → ∀ Q : VK, (∀ v x G2 H2, R x → NxP ps G H G2 H2 → Pots ps G2 H2 → Rp K G2 v x → Q v H2) → te σ H Q
def EpA (K : PySem.W.Frag) (ta : TA) (sl : List Sl) (ps : List Addr) (R : List Dt → Prop) : Prop := ∀ (G H : Hp) (σ : L2.St), Ex G H → FrD K G σ sl → Pots ps G H → ∀ Q : List V → Hp → Prop, (∀ vs xs G2 H2, R xs → NxP ps G H G2 H2 → Pots ps G2 H2 → Rps K G2 vs xs → Q vs H2) → ta σ H Q
section
variable {K : PySem.W.Frag} {sl : List Sl} {ps : List Addr} {ta tb te tc : TE} {x y z : Dt} {r : R2} {R : Dt → Prop} {RA : List Dt → Prop} {tr : TA}
theorem ep_ev (h : Ev K te sl x) (hR : R x) : Ep K te sl ps R := fun G H σ k f m Q q => h G H σ k f Q fun v G2 H2 n r => q v x G2 H2 hR n.p (m.nx n) r
theorem ep_op (h : Ep K ta sl ps fun x => Ep K tb sl ps fun y => ∃ z, R2D K r x y z ∧ R z) : Ep K (tOp r ta tb) sl ps R := fun G H σ k f m Q q =>
  h G H σ k f m _ fun v x G1 H1 h1 n1 m1 r1 => h1 G1 H1 σ n1.k (FrD.mono n1.g f) m1 _ fun w y G2 H2 ⟨z, hr, hR⟩ n2 m2 r2 => hr G2 H2 n2.k v w (r1.mono n2.g) r2 Q fun u G3 H3 n3 r3 => q u z G3 H3 hR ((n1.trans n2).trans n3.p) (m2.nx n3) r3
theorem epa_nil (h : RA []) : EpA K tNil sl ps RA := fun G H σ k f m Q q => q _ _ G H h (.refl k) m .nil
theorem epa_cons (h : Ep K ta sl ps fun x => EpA K tr sl ps fun xs => RA (x :: xs)) : EpA K (tCons ta tr) sl ps RA := fun G H σ k f m Q q =>
  h G H σ k f m _ fun v x G1 H1 h1 n1 m1 r1 => h1 G1 H1 σ n1.k (FrD.mono n1.g f) m1 _ fun vs xs G2 H2 h2 n2 m2 r2 => q _ _ G2 H2 h2 (n1.trans n2) m2 (.cons (r1.mono n2.g) r2)
theorem epa_ev {xs : List Dt} (h : EvA K tr sl xs) (hR : RA xs) : EpA K tr sl ps RA := fun G H σ k f m Q q => h G H σ k f Q fun v G2 H2 n r => q v xs G2 H2 hR n.p (m.nx n) r
theorem ep_tup (h : EpA K tr sl ps fun xs => xs.length ≤ 100000 ∧ R (.tup xs)) : Ep K (tTup tr) sl ps R := fun G H σ k f m Q q =>
  h G H σ k f m _ fun vs xs G1 H1 ⟨hn, hR⟩ n1 m1 r1 => ⟨by rw [r1.length]; exact sz_ok hn, fun p o hp ho => q _ _ _ _ hR (n1.trans (Nx.new n1.k hp).p) (m1.nx (Nx.new n1.k hp)) (.tup (sqx_new ho) (r1.mono (Ex.new (free_of n1.k hp))))⟩
theorem ep_lst (h : EpA K tr sl ps fun xs => xs.length ≤ 100000 ∧ R (.lst xs)) : Ep K (tLst tr) sl ps R := fun G H σ k f m Q q =>
  h G H σ k f m _ fun vs xs G1 H1 ⟨hn, hR⟩ n1 m1 r1 => ⟨by rw [r1.length]; exact sz_ok hn, fun p hp => q _ _ _ _ hR (n1.trans (Nx.new n1.k hp).p) (m1.nx (Nx.new n1.k hp)) (.lst (.inl (.inl upd_same)) (r1.mono (Ex.new (free_of n1.k hp))))⟩
theorem ep_call {RF : List Dt → Dt → Prop} {E : XK} (h : EpA K tr sl ps fun xs => ∃ x, RF xs x ∧ R x) : Ep K (tCall (spP K RF) [] E tr) sl ps R := fun G H σ k f m Q q =>
  h G H σ k f m _ fun vs xs G1 H1 ⟨x, hr, hR⟩ n1 m1 r1 => ⟨xs, x, G1, n1.k, rps_nil r1, hr, fun v G2 H2 n2 r2 => q v x G2 H2 hR (n1.trans n2.p) (m1.nx n2) r2⟩
/-- a draw -/
theorem ep_take {i : Nat} {p : Addr} {E : XK} (hi : sl[i]? = some (.raw (.ref p))) (hp : p ∈ ps) (h : Ep K tb sl ps fun y => ∃ f : Int, y = .int f ∧ 0 < f ∧ f.natAbs.log2 < 9000 ∧ ∀ m : Int, 0 ≤ m → m < f → R (.int m)) :
    Ep K (tCall spTake [] E (tCons (tVar i) (tCons tb tNil))) sl ps R := fun G H σ k f m Q q => by
  refine ⟨.ref p, frd_raw f hi, ?_⟩
  refine h G H σ k f m _ fun w y G1 H1 ⟨fr, ey, h0, h9, hR⟩ n1 m1 r1 => ?_
  subst ey
  cases r1
  obtain ⟨gp, n, hn⟩ := m1 p hp
  refine ⟨p, n, fr, rfl, hn, h0, h9, fun a n' a0 a1 => ?_⟩
  refine q _ _ G1 (upd H1 p (.lst [.int n'])) (hR a a0 a1) (n1.trans ⟨Ex.refl _, fun b o e => ?_, fun b o hb e => ?_, fun b hb => ?_, fun b e _ => e⟩) (fun c hc => ?_) (.int _)
  · have nb : b ≠ p := fun z => by
      rw [z, gp] at e
      cases e
    rw [upd_ne nb]
    exact n1.k b o e
  · have nb : b ≠ p := fun z => hb (z ▸ hp)
    rw [upd_ne nb]
    exact e
  · by_cases nb : b = p
    · rw [nb, upd_same]
      intro z
      cases z
    · rw [upd_ne nb]
      exact hb
  · by_cases nb : c = p
    · subst nb
      exact ⟨gp, n', upd_same⟩
    · rw [upd_ne nb]
      exact m1 c hc
theorem Pots.one {G H : Hp} (m : Pots ps G H) {p : Addr} (hp : p ∈ ps) : Pots [p] G H := fun c hc => by
  have e : c = p := by simpa using hc
  subst e
  exact m c hp
theorem NxP.wide {p : Addr} {G H G2 H2 : Hp} (n : NxP [p] G H G2 H2) (hp : p ∈ ps) : NxP ps G H G2 H2 := ⟨n.g, n.k, fun a o ha e => n.h a o (fun z => by
  have e2 : a = p := by simpa using z
  rw [e2] at ha
  exact ha hp) e, n.t, n.f⟩
theorem Pots.after {p : Addr} {G H G2 H2 : Hp} (m : Pots ps G H) (n : NxP [p] G H G2 H2) (mp : Pots [p] G2 H2) : Pots ps G2 H2 := fun c hc => by
  by_cases e : c = p
  · subst e
    exact mp c (by simp)
  · obtain ⟨h1, i, h2⟩ := m c hc
    exact ⟨n.f c h1 (by rw [h2]; intro z; cases z), i, n.h c _ (by simpa using e) h2⟩
theorem ep_callM {i : Nat} {p : Addr} {E : XK} {C : List Dt → Prop} {RF : List Dt → Dt → Prop} (hi : sl[i]? = some (.raw (.ref p))) (hp : p ∈ ps) (h : EpA K tr sl ps fun ds => C ds ∧ ∀ x, RF ds x → R x) :
    Ep K (tCall (spM K C RF) [] E (tCons (tVar i) tr)) sl ps R := fun G H σ k f m Q q => by
  refine ⟨.ref p, frd_raw f hi, ?_⟩
  refine h G H σ k f m _ fun ws ds G1 H1 ⟨hC, hR⟩ n1 m1 r1 => ?_
  refine ⟨p, ws, ds, G1, by rw [List.append_nil], n1.k, r1, hC, m1.one hp, fun v x G2 H2 hx n2 m2 r2 => ?_⟩
  exact q v x G2 H2 (hR x hx) (n1.trans (n2.wide hp)) (m1.after n2 m2) r2
end
/-- forgetting slots -/
inductive Wk : Sl → Sl → Prop
  | same (s : Sl) : Wk s s
  | no (s : Sl) : Wk s .no
theorem frd_wk {K : PySem.W.Frag} {G : Hp} : ∀ {σ : L2.St} {sl sl2 : List Sl}, FrD K G σ sl → Paired Wk sl sl2 → FrD K G σ sl2
  | _, _, _, .nil, .nil => .nil
  | _, _, _, .cons h t, .cons w r => .cons (by cases w with
    | same => exact h
    | no => exact .no _) (frd_wk t r)
/-! ### statements, where pots may be drawn from: Ip goes on, Ir hands back -/
def Ip (K : PySem.W.Frag) (ts : TS) (sl : List Sl) (ps : List Addr) (N : List Sl → Prop) : Prop := ∀ (G H : Hp) (σ : L2.St), Ex G H → FrD K G σ sl → Pots ps G H → ∀ D : Ends, (∀ σ2 sl2 G2 H2, N sl2 → NxP ps G H G2 H2 → Pots ps G2 H2 → FrD K G2 σ2 sl2 → D.nx σ2 H2) → ts D σ H
def Ir (K : PySem.W.Frag) (ts : TS) (sl : List Sl) (ps : List Addr) (R : Dt → Prop) : Prop := ∀ (G H : Hp) (σ : L2.St), Ex G H → FrD K G σ sl → Pots ps G H → ∀ D : Ends, (∀ v x G2 H2, R x → NxP ps G H G2 H2 → Pots ps G2 H2 → Rp K G2 v x → D.rt v H2) → ts D σ H
section
variable {K : PySem.W.Frag} {sl sl1 sl2 : List Sl} {ps : List Addr} {te : TE} {tc : TT} {x y : Dt} {t u : TS} {N : List Sl → Prop} {R : Dt → Prop}
theorem ip_nt (h : Nt K t sl sl1) (k : Ip K u sl1 ps N) : Ip K (tSeq t u) sl ps N := fun G H σ e f m D q =>
  h G H σ e f _ fun σ1 G1 H1 n1 f1 => k G1 H1 σ1 n1.k f1 (m.nx n1) D fun σ2 sl2 G2 H2 h2 n2 m2 f2 => q σ2 sl2 G2 H2 h2 (n1.p.trans n2) m2 f2
theorem ip_end (h : Nt K t sl sl1) (k : N sl1) : Ip K t sl ps N := fun G H σ e f m D q =>
  h G H σ e f _ fun σ1 G1 H1 n1 f1 => q σ1 sl1 G1 H1 k n1.p (m.nx n1) f1
theorem ip_asg1 {i : Nat} (h : Ep K te sl ps fun x => N (sl.set i (.d x))) : Ip K (tAsg te (gName i)) sl ps N := fun G H σ e f m D q =>
  h G H σ e f m _ fun v x G1 H1 h1 n1 m1 r1 => q _ _ G1 H1 h1 n1 m1 (frd_set (.d r1) i (FrD.mono n1.g f))
theorem ir_asg {i : Nat} (h : Ep K te sl ps fun x => Ir K u (sl.set i (.d x)) ps R) : Ir K (tSeq (tAsg te (gName i)) u) sl ps R := fun G H σ e f m D q =>
  h G H σ e f m _ fun v x G1 H1 h1 n1 m1 r1 => h1 G1 H1 _ n1.k (frd_set (.d r1) i (FrD.mono n1.g f)) m1 D fun v x G2 H2 h2 n2 m2 r2 => q v x G2 H2 h2 (n1.trans n2) m2 r2
theorem ir_unp {i j : Nat} (h : Ep K te sl ps fun x => ∃ a b, x = .tup [a, b] ∧ Ir K u ((sl.set i (.d a)).set j (.d b)) ps R) : Ir K (tSeq (tAsg te (gTup K 2 (gCons (gName i) (gCons (gName j) gNil)))) u) sl ps R := fun G H σ e f m D q =>
  h G H σ e f m _ fun v x G1 H1 ⟨a, b, ex, h1⟩ n1 m1 r1 => by
    subst ex
    cases r1 with
    | tup hs rs =>
      obtain ⟨v, w, rfl, a1, a2⟩ := rps2 rs
      exact ⟨_, _, rfl, exT n1.k hs, rfl, v, [w], rfl, w, [], rfl, rfl, h1 G1 H1 _ n1.k (frd_set (.d a2) j (frd_set (.d a1) i (FrD.mono n1.g f))) m1 D fun v x G2 H2 h2 n2 m2 r2 => q v x G2 H2 h2 (n1.trans n2) m2 r2⟩
theorem ir_ret (h : Ep K te sl ps R) : Ir K (tRet te) sl ps R := fun G H σ e f m D q => h G H σ e f m _ q
theorem ir_cond {b : Bool} (h : EvT K tc sl b) (h1 : b = true → Ir K t sl ps R) (h2 : b = false → Ir K u sl ps R) : Ir K (tSeq (tIfS tc t tNext) u) sl ps R := fun G H σ e f m D q => h G H σ e f _ fun G1 H1 n1 => by
  cases b with
  | true =>
    show t { D with nx := u D } σ H1
    exact h1 rfl G1 H1 σ n1.k (FrD.mono n1.g f) (m.nx n1) _ fun v x G2 H2 h2 n2 m2 r2 => q v x G2 H2 h2 (n1.p.trans n2) m2 r2
  | false =>
    show u D σ H1
    exact h2 rfl G1 H1 σ n1.k (FrD.mono n1.g f) (m.nx n1) D fun v x G2 H2 h2 n2 m2 r2 => q v x G2 H2 h2 (n1.p.trans n2) m2 r2
/-- for x in range(n), what the slots hold told by I -/
theorem ip_for {ta : TA} {j : Nat} {n : Int} (I : Nat → List Sl → Prop) (h : EvA K ta sl [.int n]) (hn : n ≤ 100000 ∧ -100000 ≤ n) (h0 : I 0 sl) (hs : ∀ (i : Nat) sl', (i : Int) < n → I i sl' → Ip K t (sl'.set j (.d (.int i))) ps (I (i + 1))) : Ip K (tFor (iRng1 ta) (gName j) t) sl ps (I n.toNat) := fun G H σ k f m D q => by
  refine h G H σ k f _ fun vs G1 H1 n1 r1 => ?_
  obtain ⟨v, rfl, r2⟩ := rps1 r1
  cases r2
  refine ⟨n, rfl, by omega, by omega, for_range (lo := 0) (n := n.toNat) (fun i σ' H' => ∃ G' sl', I i sl' ∧ NxP ps G H G' H' ∧ Pots ps G' H' ∧ FrD K G' σ' sl') ⟨G1, sl, h0, n1.p, m.nx n1, FrD.mono n1.g f⟩ ?_ ?_⟩
  · rintro i σ2 H2 hi ⟨G2, sl2, i2, n2, m2, f2⟩
    have e : (0 : Int) + (i : Int) = (i : Int) := Int.zero_add _
    rw [e]
    refine hs i sl2 (by omega) i2 G2 H2 _ n2.k (frd_set (.d (.int _)) j f2) m2 _ fun σ3 sl3 G3 H3 i3 n3 m3 f3 => ⟨G3, sl3, i3, n2.trans n3, m3, f3⟩
  · rintro σ2 H2 ⟨G2, sl2, i2, n2, m2, f2⟩
    exact q σ2 sl2 G2 H2 i2 n2 m2 f2
theorem ip_while (I : Nat → List Sl → Prop) (m0 : Nat) (h0 : I m0 sl) (hs : ∀ m sl', I m sl' → ∃ b, EvT K tc sl' b ∧ (b = true → Ip K t sl' ps fun sl2 => ∃ m', m' < m ∧ I m' sl2) ∧ (b = false → N sl')) : Ip K (tWhile tc t) sl ps N := fun G H σ k f m D q => by
  refine ⟨fun l σ' H' => ∃ G' sl', I l sl' ∧ NxP ps G H G' H' ∧ Pots ps G' H' ∧ FrD K G' σ' sl', ⟨m0, G, sl, h0, .refl k, m, f⟩, ?_⟩
  rintro l σ1 H1 ⟨G1, sl1, i1, n1, m1, f1⟩
  obtain ⟨b, hb, ht, hf⟩ := hs l sl1 i1
  refine hb G1 H1 σ1 n1.k f1 _ fun G2 H2 n2 => ?_
  cases b with
  | true =>
    refine ⟨fun σ' H' => ∃ G' sl' l', l' < l ∧ I l' sl' ∧ NxP ps G H G' H' ∧ Pots ps G' H' ∧ FrD K G' σ' sl', fun σ' H' ⟨G', sl', l', lt, i', n', m', f'⟩ => ⟨l', lt, G', sl', i', n', m', f'⟩, ?_⟩
    exact ht rfl G2 H2 σ1 n2.k (FrD.mono n2.g f1) (m1.nx n2) _ fun σ3 sl3 G3 H3 ⟨l', lt, i'⟩ n3 m3 f3 => ⟨G3, sl3, l', lt, i', (n1.trans n2.p).trans n3, m3, f3⟩
  | false =>
    exact q σ1 sl1 G2 H2 (hf rfl) (n1.trans n2.p) (m1.nx n2) (FrD.mono n2.g f1)
theorem rt_ip (h : Ip K t sl [] fun s => Rt K u s x) : Rt K (tSeq t u) sl x := fun G H σ e f D q =>
  h G H σ e f .nil _ fun σ1 sl1 G1 H1 k1 n1 m1 f1 => k1 G1 H1 σ1 n1.k f1 D fun v G2 H2 n2 r2 => q v G2 H2 (n1.nx.trans n2) r2
end
section
variable {P : Program} {w : World} {K : PySem.W.Frag} {mg : Str → Option Value} {base : Heap} {x : Str} {st : Stmt} {N ps : List Str} {k : Nat}
theorem Dd.newpot {C : List Dt → Prop} {t : TS} (D : Dd K mg x st ps) (S : FnScope N ps (defScope st)) (hl : ∀ ds, C ds → ds.length = ps.length)
    (h1 : ∀ (f : Addr) (cdv : Value) (A : Around) (outer : List Env) (s : Shared) (H : Hp) (E : XK), Room k (A.deeper (envOfC x (defScope st) s.heap.objs.size f cdv)) → PSs (cxOf CX0 P w K mg base N x (defScope st) f cdv A outer s H E).nox (defBody st) t)
    (h3 : ∀ ds, C ds → ∀ (G H : Hp) (σ : L2.St), Ex G H → FrD K G σ (ds.map Sl.d ++ List.replicate (N.length - ps.length) .no) → ∀ D : Ends, (∀ p n G2 H2, Nx G H G2 H2 → H p = none → G2 p = none → H2 p = some (.lst [.int n]) → D.rt (.ref p) H2) → t D σ H) : Has P w K mg base CX0 (k + 1) x ps (spNew K C) := by
  refine D.any S (fun vs H Q E h => ?_) h1 fun vs H Q E h => ?_
  · obtain ⟨ds, G, _, r, hC, _⟩ := h
    rw [r.length]
    exact hl ds hC
  · obtain ⟨ds, G, kG, r, hC, q⟩ := h
    exact h3 ds hC G H _ kG (start_ok r (hl ds hC)) _ q
/-- a def that draws from the pot that it is handed first -/
theorem Dd.draws {C : List Dt → Prop} {R : List Dt → Dt → Prop} {t : TS} (D : Dd K mg x st ps) (S : FnScope N ps (defScope st)) (hl : ∀ ds, C ds → ds.length + 1 = ps.length)
    (h1 : ∀ (f : Addr) (cdv : Value) (A : Around) (outer : List Env) (s : Shared) (H : Hp) (E : XK), Room k (A.deeper (envOfC x (defScope st) s.heap.objs.size f cdv)) → PSs (cxOf CX0 P w K mg base N x (defScope st) f cdv A outer s H E).nox (defBody st) t)
    (h2 : ∀ ds, C ds → ∀ p, Ir K t (Sl.raw (.ref p) :: (ds.map Sl.d ++ List.replicate (N.length - ps.length) .no)) [p] (R ds)) : Has P w K mg base CX0 (k + 1) x ps (spM K C R) := by
  refine D.any S (fun vs H Q E h => ?_) h1 fun vs H Q E h => ?_
  · obtain ⟨p, ws, ds, G, rfl, _, r, hC, _⟩ := h
    show ws.length + 1 = _
    rw [r.length]
    exact hl ds hC
  · obtain ⟨p, ws, ds, G, rfl, kG, r, hC, m, q⟩ := h
    have e : (V.ref p :: ws).length = ps.length := by
      show ws.length + 1 = _
      rw [r.length]
      exact hl ds hC
    have fr : FrD K G (L2.start N (.ref p :: ws)) (Sl.raw (.ref p) :: (ds.map Sl.d ++ List.replicate (N.length - ps.length) .no)) := by
      unfold L2.start
      rw [e]
      exact .cons (.raw _) (frd_start _ r)
    exact h2 ds hC p G H _ kG fr m _ q
end
end Z
namespace Z
open PySem PySem.Spec PyProof.Rows L2
/-! ### fractions: a rational number q as the data (top, bottom) -/
def fq (q : Rat) : Dt := .tup [.int q.num, .int (q.den : Int)]
/-- the sign-carrying divisor -/
def dvs (t b : Int) : Int := if b < 0 then -((Nat.gcd t.natAbs b.natAbs : Nat) : Int) else ((Nat.gcd t.natAbs b.natAbs : Nat) : Int)
theorem gcd_pos {t b : Int} (h : b ≠ 0) : 0 < Nat.gcd t.natAbs b.natAbs := Nat.gcd_pos_of_pos_right _ (Int.natAbs_pos.mpr h)
theorem dvs_ne {t b : Int} (h : b ≠ 0) : dvs t b ≠ 0 := by
  have := gcd_pos (t := t) h
  unfold dvs
  split <;> omega
theorem low_num {t b : Int} (h : b ≠ 0) : t.fdiv (dvs t b) = ((t : Rat) / (b : Rat)).num := by
  rw [← Rat.divInt_eq_div, Rat.num_divInt]
  have e : (Nat.gcd t.natAbs b.natAbs) = b.gcd t := by rw [Nat.gcd_comm]; rfl
  have dv : ((b.gcd t : Nat) : Int) ∣ t := Int.gcd_dvd_right _ _
  unfold dvs
  rw [e]
  split
  · rename_i hb
    rw [Int.fdiv_eq_ediv_of_dvd (Int.neg_dvd.mpr dv), Int.ediv_neg, Int.sign_eq_neg_one_of_neg hb, Int.neg_one_mul, Int.neg_ediv_of_dvd dv]
  · rw [Int.fdiv_eq_ediv_of_dvd dv, Int.sign_eq_one_of_pos (by omega), Int.one_mul]
theorem low_den {t b : Int} (h : b ≠ 0) : b.fdiv (dvs t b) = (((t : Rat) / (b : Rat)).den : Int) := by
  rw [← Rat.divInt_eq_div, Rat.den_divInt, if_neg h]
  have e : (Nat.gcd t.natAbs b.natAbs) = b.gcd t := by rw [Nat.gcd_comm]; rfl
  have dv : ((b.gcd t : Nat) : Int) ∣ b := Int.gcd_dvd_left _ _
  rw [Int.natCast_ediv]
  unfold dvs
  rw [e]
  split
  · rename_i hb
    rw [Int.fdiv_eq_ediv_of_dvd (Int.neg_dvd.mpr dv), Int.ediv_neg, show ((b.natAbs : Nat) : Int) = -b by omega, Int.neg_ediv_of_dvd dv]
  · rw [Int.fdiv_eq_ediv_of_dvd dv, show ((b.natAbs : Nat) : Int) = b by omega]
theorem low_fq {t b : Int} (h : b ≠ 0) : (Dt.tup [.int (t.fdiv (dvs t b)), .int (b.fdiv (dvs t b))]) = fq ((t : Rat) / (b : Rat)) := by
  rw [low_num h, low_den h]
  rfl
theorem den_pos (q : Rat) : (0 : Int) < (q.den : Int) := by
  have := q.den_pos
  omega
theorem den_ne (q : Rat) : (q.den : Int) ≠ 0 := by
  have := q.den_pos
  omega
theorem fq_self (q : Rat) : ((q.num : Rat) / ((q.den : Int) : Rat)) = q := by
  rw [← Rat.divInt_eq_div, Rat.num_divInt_den]
theorem q_add (x y : Rat) : (((x.num * (y.den : Int) + y.num * (x.den : Int) : Int) : Rat) / (((x.den : Int) * (y.den : Int) : Int) : Rat)) = x + y := by
  rw [← Rat.divInt_eq_div, ← Int.natCast_mul, Rat.divInt_ofNat, Rat.add_def']
theorem q_sub (x y : Rat) : (((x.num * (y.den : Int) - y.num * (x.den : Int) : Int) : Rat) / (((x.den : Int) * (y.den : Int) : Int) : Rat)) = x - y := by
  rw [← Rat.divInt_eq_div, ← Int.natCast_mul, Rat.divInt_ofNat, Rat.sub_def']
theorem q_mul (x y : Rat) : (((x.num * y.num : Int) : Rat) / (((x.den : Int) * (y.den : Int) : Int) : Rat)) = x * y := by
  rw [← Rat.divInt_eq_div, ← Int.natCast_mul, Rat.divInt_ofNat, Rat.mul_def']
theorem q_div (x y : Rat) : (((x.num * (y.den : Int) : Int) : Rat) / (((x.den : Int) * y.num : Int) : Rat)) = x / y := by
  rw [← Rat.divInt_eq_div, Rat.div_def, Rat.inv_def, ← Rat.divInt_mul_divInt, Rat.num_divInt_den]
theorem q_lt (x y : Rat) : decide (x.num * (y.den : Int) < y.num * (x.den : Int)) = decide (x < y) := by
  rw [decide_eq_decide, Rat.lt_iff]
theorem num_ne {q : Rat} : q.num ≠ 0 ↔ q ≠ 0 := not_congr Rat.num_eq_zero
/-! sizes -/
def Bt (n : Nat) (i : Int) : Prop := i.natAbs < 2 ^ n
def Bq (n : Nat) (q : Rat) : Prop := Bt n q.num ∧ Bt n (q.den : Int)
theorem Bt.mono {n m : Nat} {i : Int} (h : Bt n i) (le : n ≤ m) : Bt m i := Nat.lt_of_lt_of_le h (Nat.pow_le_pow_right (by decide) le)
theorem bt_mul {n m : Nat} {i j : Int} (h1 : Bt n i) (h2 : Bt m j) : Bt (n + m) (i * j) := by
  unfold Bt
  rw [Int.natAbs_mul, Nat.pow_add]
  exact Nat.mul_lt_mul'' h1 h2
theorem bt_add {n m k : Nat} {i j : Int} (h1 : Bt n i) (h2 : Bt m j) (hn : n + 1 ≤ k) (hm : m + 1 ≤ k) : Bt k (i + j) := by
  have a := h1.mono (show n ≤ k - 1 by omega)
  have b := h2.mono (show m ≤ k - 1 by omega)
  unfold Bt at *
  obtain ⟨l, rfl⟩ : ∃ l, k = l + 1 := ⟨k - 1, by omega⟩
  rw [Nat.add_sub_cancel] at a b
  rw [Nat.pow_succ]
  omega
theorem bt_neg {n : Nat} {i : Int} (h : Bt n i) : Bt n (-i) := by
  unfold Bt at *
  rw [Int.natAbs_neg]
  exact h
theorem bt_sub {n m k : Nat} {i j : Int} (h1 : Bt n i) (h2 : Bt m j) (hn : n + 1 ≤ k) (hm : m + 1 ≤ k) : Bt k (i - j) := by
  rw [Int.sub_eq_add_neg]
  exact bt_add h1 (bt_neg h2) hn hm
theorem log2_of {n : Nat} {i : Int} (h : Bt n i) (h0 : 0 < n) : i.natAbs.log2 < n := PySem.Flt.log2_lt_of h0 h
theorem mulok {n m : Nat} {i j : Int} (h1 : Bt n i) (h2 : Bt m j) (h : n + m + 2 ≤ 1000000) : IntMulOk i j := by
  have a := log2_of (h1.mono (Nat.le_succ n)) (Nat.succ_pos n)
  have b := log2_of (h2.mono (Nat.le_succ m)) (Nat.succ_pos m)
  exact CMulW.ok (show i.natAbs.log2 + j.natAbs.log2 < 1000000 by omega)
theorem divok {n : Nat} {i j : Int} (h0 : j ≠ 0) (h : Bt n j) (hn : n ≤ 9000) : CDivA i j := ⟨h0, by
  have a := log2_of (h.mono (Nat.le_succ n)) (Nat.succ_pos n)
  have b : j.natAbs.log2 < 9000 := by
    by_cases z : n = 0
    · subst z
      have : j.natAbs < 1 := h
      omega
    · have := log2_of h (by omega)
      omega
  exact b⟩
theorem bt_dvs {n : Nat} {t b : Int} (h : b ≠ 0) (hb : Bt n b) : Bt n (dvs t b) := by
  have h1 : Nat.gcd t.natAbs b.natAbs ≤ b.natAbs := Nat.gcd_le_right _ (Int.natAbs_pos.mpr h)
  unfold Bt at *
  unfold dvs
  split
  · rw [Int.natAbs_neg, Int.natAbs_natCast]
    omega
  · rw [Int.natAbs_natCast]
    omega
/-- the answer of a fraction in lowest terms is no longer than what it was made of -/
theorem bq_div {n : Nat} {t b : Int} (h : b ≠ 0) (ht : Bt n t) (hb : Bt n b) : Bq n ((t : Rat) / (b : Rat)) := by
  have hg := gcd_pos (t := t) h
  rw [← Rat.divInt_eq_div]
  constructor
  · unfold Bt at *
    rw [Rat.num_divInt]
    have e1 : (b.sign * t / ((b.gcd t : Nat) : Int)).natAbs ≤ (b.sign * t).natAbs := by
      rw [Int.natAbs_ediv_of_dvd (Int.dvd_mul_of_dvd_right (Int.gcd_dvd_right _ _))]
      exact Nat.div_le_self _ _
    rw [Int.natAbs_mul, Int.natAbs_sign_of_ne_zero h, Nat.one_mul] at e1
    omega
  · unfold Bt at *
    rw [Rat.den_divInt, if_neg h]
    have e1 : b.natAbs / b.gcd t ≤ b.natAbs := Nat.div_le_self _ _
    rw [Int.natAbs_natCast]
    omega
/-! == of such data -/
theorem py_fq (q : Rat) : py (fq q) = some (.tuple [.int q.num, .int (q.den : Int)]) := by
  simp only [fq, py, pys]
theorem sh_fq (a b : Int) : SeqAt.shaped (.tuple [.int a, .int b]) = true := by
  rfl
theorem eqv_fq (x y : Rat) : PyData.eqv (.tuple [.int x.num, .int (x.den : Int)]) (.tuple [.int y.num, .int (y.den : Int)]) = decide (x = y) := by
  simp only [PyData.eqv, PyData.eqvAll, Bool.and_true]
  by_cases h : x = y
  · subst h
    simp
  · rw [decide_eq_false h]
    by_cases h1 : x.num = y.num
    · have h2 : ¬ ((x.den : Int) = (y.den : Int)) := fun z => h (Rat.ext h1 (Int.ofNat.inj z))
      rw [beq_eq_false_iff_ne.mpr h2, Bool.and_false]
    · rw [beq_eq_false_iff_ne.mpr h1, Bool.false_and]
theorem r2_eqF {K : PySem.W.Frag} {x y : Rat} : R2D K (rEqD K) (fq x) (fq y) (.bl (decide (x = y))) := by
  have h := r2_eq (K := K) (py_fq x) (py_fq y) (sh_fq _ _) (sh_fq _ _)
  rwa [eqv_fq] at h
theorem ix0 {K : PySem.W.Frag} {a b : Dt} : R2D K (rIx K) (.tup [a, b]) (.int 0) a := r2_ixT rfl
theorem ix1 {K : PySem.W.Frag} {a b : Dt} : R2D K (rIx K) (.tup [a, b]) (.int 1) b := r2_ixT rfl
theorem fx0 {K : PySem.W.Frag} {q : Rat} : R2D K (rIx K) (fq q) (.int 0) (.int q.num) := r2_ixT rfl
theorem fx1 {K : PySem.W.Frag} {q : Rat} : R2D K (rIx K) (fq q) (.int 1) (.int (q.den : Int)) := r2_ixT rfl
/-! euclid -/
theorem fmod_nat (a b : Nat) : (a : Int).fmod (b : Int) = ((a % b : Nat) : Int) := by
  rw [Int.fmod_eq_emod_of_nonneg _ (Int.natCast_nonneg b)]
  rfl
/-- a whole root -/
theorem isq_unique {n a b : Nat} (h1 : a * a ≤ n) (h2 : n < (a + 1) * (a + 1)) (h3 : b * b ≤ n) (h4 : n < (b + 1) * (b + 1)) : a = b := by
  have u : a < b + 1 := Nat.lt_of_not_le fun z => by
    have := Nat.mul_le_mul z z
    omega
  have v : b < a + 1 := Nat.lt_of_not_le fun z => by
    have := Nat.mul_le_mul z z
    omega
  omega
def sq (n : Nat) : Nat := PySem.Float64.isqrt n
theorem sq_spec (n : Nat) : sq n * sq n ≤ n ∧ n < (sq n + 1) * (sq n + 1) := PySem.Float64.isqrt_spec n
theorem sq_is {n a : Nat} (h : a * a = n) : sq n = a := isq_unique (sq_spec n).1 (sq_spec n).2 (by omega) (by
  have : (a + 1) * (a + 1) = a * a + 2 * a + 1 := by
    rw [Nat.add_mul, Nat.mul_add, Nat.mul_one, Nat.one_mul]
    omega
  omega)
theorem bt_sq {n : Nat} {m : Nat} (h : Bt n (m : Int)) : Bt n (sq m : Int) := by
  unfold Bt at *
  rw [Int.natAbs_natCast] at *
  have h1 := (sq_spec m).1
  have h2 : sq m ≤ sq m * sq m := by
    by_cases z : sq m = 0
    · omega
    · exact Nat.le_mul_of_pos_right _ (by omega)
  omega
theorem rc_isqrt {K : PySem.W.Frag} {i : Int} (h0 : 0 ≤ i) (h1 : i.toNat.log2 < 13000) : RcD K rIsqrt [.int i] (.int (sq i.toNat : Int)) := fun G H k vs r Q q => by
  obtain ⟨v, rfl, h⟩ := rps1 r
  cases h
  exact ⟨i, rfl, h0, h1, q _ G H (.refl k) (.int _)⟩
theorem mulL {i j : Int} (h : -(2 ^ 64) < i ∧ i < 2 ^ 64) : IntMulOk i j := CMul.ok (.inl h)
theorem mulR {i j : Int} (h : -(2 ^ 64) < j ∧ j < 2 ^ 64) : IntMulOk i j := CMul.ok (.inr h)
theorem fmod_bd {a b : Int} (h : 0 < b) : 0 ≤ a.fmod b ∧ a.fmod b < b := ⟨Int.fmod_nonneg_of_pos a h, Int.fmod_lt_of_pos a h⟩
/-- the root of a fraction, as data -/
def rootD (x : Rat) : Dt := if x.num < 0 then .non else if sq x.num.toNat * sq x.num.toNat = x.num.toNat ∧ sq x.den * sq x.den = x.den then .tup [.int (sq x.num.toNat : Int), .int (sq x.den : Int)] else .non
theorem nat_sq_cop {a b : Nat} (h : Nat.gcd (a * a) (b * b) = 1) : Nat.gcd a b = 1 := by
  have d1 : Nat.gcd a b ∣ Nat.gcd (a * a) (b * b) := Nat.dvd_gcd (Nat.dvd_trans (Nat.gcd_dvd_left a b) (Nat.dvd_mul_right a a)) (Nat.dvd_trans (Nat.gcd_dvd_right a b) (Nat.dvd_mul_right b b))
  rw [h] at d1
  exact Nat.dvd_one.mp d1
theorem num_sq (x : Rat) : (x * x).num = x.num * x.num := by
  have e : x * x = x ^ 2 := by rw [show (2 : Nat) = 1 + 1 from rfl, Rat.pow_succ, Rat.pow_one]
  rw [e, Rat.num_pow]
  rw [show (2 : Nat) = 1 + 1 from rfl, Int.pow_succ, Int.pow_succ, Int.pow_zero, Int.one_mul]
theorem den_sq (x : Rat) : (x * x).den = x.den * x.den := by
  have e : x * x = x ^ 2 := by rw [show (2 : Nat) = 1 + 1 from rfl, Rat.pow_succ, Rat.pow_one]
  rw [e, Rat.den_pow]
  exact Nat.pow_two x.den
theorem abs_parts (x : Rat) : x.abs.num = (x.num.natAbs : Int) ∧ x.abs.den = x.den := by
  rcases Rat.nonneg_total x with h | h
  · rw [Rat.abs_of_nonneg h]
    have := Rat.num_nonneg.mpr h
    exact ⟨by omega, rfl⟩
  · have h' : x ≤ 0 := by
      have := Rat.neg_le_neg h
      rwa [Rat.neg_neg] at this
    rw [Rat.abs_of_nonpos h']
    have := Rat.num_nonneg.mpr h
    rw [Rat.neg_num] at this
    exact ⟨by rw [Rat.neg_num]; omega, rfl⟩
theorem fq_abs (x : Rat) : fq x.abs = .tup [.int (x.num.natAbs : Int), .int (x.den : Int)] := by
  unfold fq
  rw [(abs_parts x).1, (abs_parts x).2]
theorem rootD_sq (x : Rat) : rootD (x * x) = fq x.abs := by
  unfold rootD
  rw [num_sq, den_sq]
  have h0 : ¬ x.num * x.num < 0 := by
    have : x.num * x.num = ((x.num.natAbs * x.num.natAbs : Nat) : Int) := Int.natAbs_mul_self.symm
    omega
  have e : (x.num * x.num).toNat = x.num.natAbs * x.num.natAbs := by
    rw [← Int.natAbs_mul_self]
    rfl
  rw [if_neg h0, e, sq_is (n := x.num.natAbs * x.num.natAbs) rfl, sq_is (n := x.den * x.den) rfl, if_pos ⟨rfl, rfl⟩]
  rw [fq_abs]
def R_low (ds : List Dt) (d : Dt) : Prop := ∃ t b : Int, ds = [.int t, .int b] ∧ b ≠ 0 ∧ Bt 9000 b ∧ d = fq ((t : Rat) / (b : Rat))
def R_sum (ds : List Dt) (d : Dt) : Prop := ∃ x y : Rat, ds = [fq x, fq y] ∧ Bq 4400 x ∧ Bq 4400 y ∧ d = fq (x + y)
def R_gap (ds : List Dt) (d : Dt) : Prop := ∃ x y : Rat, ds = [fq x, fq y] ∧ Bq 4400 x ∧ Bq 4400 y ∧ d = fq (x - y)
def R_prod (ds : List Dt) (d : Dt) : Prop := ∃ x y : Rat, ds = [fq x, fq y] ∧ Bq 4400 x ∧ Bq 4400 y ∧ d = fq (x * y)
def R_quot (ds : List Dt) (d : Dt) : Prop := ∃ x y : Rat, ds = [fq x, fq y] ∧ Bq 4400 x ∧ Bq 4400 y ∧ y ≠ 0 ∧ d = fq (x / y)
def R_less (ds : List Dt) (d : Dt) : Prop := ∃ x y : Rat, ds = [fq x, fq y] ∧ Bq 4400 x ∧ Bq 4400 y ∧ d = .bl (decide (x < y))
theorem r2_eqS {K : PySem.W.Frag} {a b : Str} (ha : SeqAt.shaped (.str a) = true) (hb : SeqAt.shaped (.str b) = true) : R2D K (rEqD K) (.str a) (.str b) (.bl (a == b)) := by
  have h := r2_eq (K := K) (x := .str a) (y := .str b) (p := .str a) (q := .str b) rfl rfl ha hb
  rwa [PyData.eqv] at h
theorem r2_neS {K : PySem.W.Frag} {a b : Str} (ha : SeqAt.shaped (.str a) = true) (hb : SeqAt.shaped (.str b) = true) : R2D K (rNeD K) (.str a) (.str b) (.bl (!(a == b))) := by
  have h := r2_ne (K := K) (x := .str a) (y := .str b) (p := .str a) (q := .str b) rfl rfl ha hb
  rwa [PyData.eqv] at h
theorem r2_eqB {K : PySem.W.Frag} {a b : Bool} : R2D K (rEqD K) (.bl a) (.bl b) (.bl (a == b)) := by
  have h := r2_eq (K := K) (x := .bl a) (y := .bl b) (p := .bool a) (q := .bool b) rfl rfl rfl rfl
  rwa [PyData.eqv] at h
theorem r2_neB {K : PySem.W.Frag} {a b : Bool} : R2D K (rNeD K) (.bl a) (.bl b) (.bl (!(a == b))) := by
  have h := r2_ne (K := K) (x := .bl a) (y := .bl b) (p := .bool a) (q := .bool b) rfl rfl rfl rfl
  rwa [PyData.eqv] at h
theorem bq_add {n m : Nat} {x y : Rat} (h1 : Bq n x) (h2 : Bq m y) : Bq (n + m + 1) (x + y) := by
  rw [← q_add]
  exact bq_div (Int.mul_ne_zero (den_ne x) (den_ne y)) (bt_add (bt_mul h1.1 h2.2) (bt_mul h2.1 h1.2) (by omega) (by omega)) ((bt_mul h1.2 h2.2).mono (by omega))
theorem bq_sub {n m : Nat} {x y : Rat} (h1 : Bq n x) (h2 : Bq m y) : Bq (n + m + 1) (x - y) := by
  rw [← q_sub]
  exact bq_div (Int.mul_ne_zero (den_ne x) (den_ne y)) (bt_sub (bt_mul h1.1 h2.2) (bt_mul h2.1 h1.2) (by omega) (by omega)) ((bt_mul h1.2 h2.2).mono (by omega))
theorem bq_mul {n m : Nat} {x y : Rat} (h1 : Bq n x) (h2 : Bq m y) : Bq (n + m) (x * y) := by
  rw [← q_mul]
  exact bq_div (Int.mul_ne_zero (den_ne x) (den_ne y)) (bt_mul h1.1 h2.1) (bt_mul h1.2 h2.2)
theorem bq_quo {n m : Nat} {x y : Rat} (h1 : Bq n x) (h2 : Bq m y) (y0 : y ≠ 0) : Bq (n + m) (x / y) := by
  rw [← q_div]
  exact bq_div (Int.mul_ne_zero (den_ne x) (num_ne.mpr y0)) (bt_mul h1.1 h2.2) (bt_mul h1.2 h2.1)
theorem Bq.mono {n m : Nat} {q : Rat} (h : Bq n q) (le : n ≤ m) : Bq m q := ⟨h.1.mono le, h.2.mono le⟩
theorem bq_one : Bq 1 1 := ⟨by show Int.natAbs 1 < 2 ^ 1; decide, by show Int.natAbs 1 < 2 ^ 1; decide⟩
theorem bq_zero : Bq 1 0 := ⟨by show Int.natAbs 0 < 2 ^ 1; decide, by show Int.natAbs 1 < 2 ^ 1; decide⟩
theorem bq_neg {n : Nat} {q : Rat} (h : Bq n q) : Bq n (-q) := ⟨by rw [Rat.neg_num]; exact bt_neg h.1, h.2⟩
theorem low_ok {t b : Int} (h : b ≠ 0) (hb : Bt 9000 b) : R_low [.int t, .int b] (fq ((t : Rat) / (b : Rat))) := ⟨t, b, rfl, h, hb, rfl⟩
theorem sum_ok {x y : Rat} (h1 : Bq 4400 x) (h2 : Bq 4400 y) : R_sum [fq x, fq y] (fq (x + y)) := ⟨x, y, rfl, h1, h2, rfl⟩
theorem gap_ok {x y : Rat} (h1 : Bq 4400 x) (h2 : Bq 4400 y) : R_gap [fq x, fq y] (fq (x - y)) := ⟨x, y, rfl, h1, h2, rfl⟩
theorem prod_ok {x y : Rat} (h1 : Bq 4400 x) (h2 : Bq 4400 y) : R_prod [fq x, fq y] (fq (x * y)) := ⟨x, y, rfl, h1, h2, rfl⟩
theorem less_ok {x y : Rat} (h1 : Bq 4400 x) (h2 : Bq 4400 y) : R_less [fq x, fq y] (.bl (decide (x < y))) := ⟨x, y, rfl, h1, h2, rfl⟩
theorem quot_ok {x y : Rat} (h1 : Bq 4400 x) (h2 : Bq 4400 y) (h : y ≠ 0) : R_quot [fq x, fq y] (fq (x / y)) := ⟨x, y, rfl, h1, h2, h, rfl⟩
end Z
namespace Z
open PySem PySem.Spec PyProof.Rows L2
open Evl (Ex)
/-! ### list + list of any lists that can be read; count and index of truths -/
def rCatS (K : PySem.W.Frag) : R2 := fun x y H Q => ∃ l b xs zs, x = .ref l ∧ y = .ref b ∧ SqL K H l xs ∧ SqL K H b zs ∧ xs.length + zs.length ≤ sizeLine ∧ ∀ p, H p = none → Q (.ref p) (upd H p (.lst (xs ++ zs)))
theorem catK {X : Cx} {K : PySem.W.Frag} (eK : X.K = K) : OpR X (binaryOp .Add) (rCatS K) := by
  subst eK
  intro pins s σ H x y v u Q I rx ry h
  obtain ⟨l, b, xs, zs, rfl, rfl, h1, h2, hz, q⟩ := h
  cases rx
  cases ry
  obtain ⟨i1, r1, ⟨⟨c1, d1, a1, s1⟩, n1, g1, e1, _, k1⟩, _⟩ := I.list h1
  obtain ⟨i2, r2, ⟨⟨c2, d2, a2, s2⟩, n2, g2, e2, _, k2⟩, _⟩ := I.list h2
  dsimp only at e1 k1 e2 k2
  subst e1 k1 e2 k2
  have l1 := r1.length
  have l2 := r2.length
  have ea : i1.toArray ++ i2.toArray = (i1 ++ i2).toArray := by simp
  refine concat_meets ⟨_, g1, rfl⟩ ⟨_, g2, rfl⟩ noFill_list_add seq_list_add PySem.F.slot_list_add PySem.F.entry_list_add (PySem.F.args_list_add_2 _ _)
    (list_addW l b i1.toArray i2.toArray n1 n2 d1 d2 s1 s2 (by rw [List.size_toArray, List.size_toArray]; omega)) ⟨g1, g2, ?_⟩
  rw [ea]
  exact ⟨.ref _, _, I.lnew (t' := s.toks) (r1.append r2) (by rw [List.length_append]; omega), rfl, q _ I.fresh⟩
def rCntD (K : PySem.W.Frag) : V → List V → Hp → VK → Prop := fun x xs H Q => ∃ (p : Addr) (bs : List Bool) (b : Bool), x = .ref p ∧ xs = [.bl b] ∧ SqL K H p (bs.map V.bl) ∧ Q (.int (bs.count b : Nat)) H
theorem bools_dp {K : PySem.W.Frag} {H : Hp} : ∀ bs : List Bool, DpAll K H (bs.map V.bl) (bs.map PyData.bool)
  | [] => .nil
  | b :: r => .cons (.bl b) (bools_dp r)
theorem bools_plain : ∀ bs : List Bool, PyData.plainAll (bs.map PyData.bool) = true
  | [] => rfl
  | b :: r => by
    show (PyData.plain (.bool b) && PyData.plainAll (r.map PyData.bool)) = true
    rw [bools_plain r]
    rfl
theorem bools_count (b : Bool) : ∀ bs : List Bool, (bs.map PyData.bool).countP (fun y => PyData.eqv y (.bool b)) = bs.count b
  | [] => rfl
  | c :: r => by
    rw [List.map_cons, List.countP_cons, List.count_cons, bools_count b r]
    rfl
theorem cntK {X : Cx} {K : PySem.W.Frag} (eK : X.K = K) (hu : X.A.units + 64 < cLine) : MtR X "list.count" (rCntD K) := by
  subst eK
  intro pins s σ H x xs v us Q I rx rxs h
  obtain ⟨p, bs, b, rfl, rfl, hs, q⟩ := h
  cases rx
  cases rxs with
  | cons ry rt =>
    cases rt
    obtain ⟨its, rv, ⟨o, n, ho, hc, hdn, hd⟩, hlen⟩ := I.list hs
    obtain ⟨a1, rd⟩ := Dp.readsAll I _ _ its (bools_dp bs) rv
    obtain ⟨a2, rb⟩ := Dp.reads I (.bool b) _ _ (Dp.bl b) ry
    refine SeqAt.count_list_data (l := p) (vs := its.toArray) ⟨o, ho, hc, n, hd⟩ (show ReadsAll s.heap its.toArray.toList _ _ by simpa using rd) rb (bools_plain bs) rfl ?_ ?_
    · have e : (PyData.bool b).depth ≤ 1 := Nat.le_of_ble_eq_true rfl
      have e2 : min (PyData.depthAll (bs.map PyData.bool)) (PyData.bool b).depth ≤ (PyData.bool b).depth := Nat.min_le_right _ _
      omega
    · rw [bools_count]
      exact ⟨.int _, H, I.tok _, ⟨_, rfl⟩, q⟩
theorem idxK {X : Cx} {K : PySem.W.Frag} (eK : X.K = K) : MtR X "list.index" (rIndex K) := eK ▸ mt_index
section
variable {K : PySem.W.Frag} {sl : List Sl} {ta tb te tc : TE} {x y z : Dt}
theorem r2_cat {xs ys : List Dt} (h : xs.length + ys.length ≤ 100000) : R2D K (rCatS K) (.lst xs) (.lst ys) (.lst (xs ++ ys)) := fun G H k v w r1 r2 Q q => by
  cases r1 with
  | lst h1 s1 =>
    cases r2 with
    | lst h2 s2 =>
      refine ⟨_, _, _, _, rfl, rfl, Evl.ex_l k h1, Evl.ex_l k h2, by rw [s1.length, s2.length]; exact sz_ok h, fun p hp => ?_⟩
      exact q _ _ _ (.new k hp) (.lst (.inl (.inl upd_same)) ((s1.append s2).mono (Ex.new (free_of k hp))))
theorem rps_bools {H : Hp} {vs : List V} : ∀ {bs : List Bool}, Rps K H vs (bs.map Dt.bl) → vs = bs.map V.bl
  | [], h => by cases h; rfl
  | b :: r, h => by
    cases h with
    | cons h1 h2 =>
      cases h1
      rw [rps_bools h2]
      rfl
theorem ev_count {bs : List Bool} {b : Bool} (h : Ev K te sl (.lst (bs.map Dt.bl))) : Ev K (tBM K "list" (rCntD K) te (tCons (tC (.bl b)) tNil)) sl (.int (bs.count b : Nat)) := fun G H σ k f Q q =>
  h G H σ k f _ fun v G1 H1 n1 r1 => by
    cases r1 with
    | lst hs rs =>
      have e := rps_bools rs
      subst e
      exact ⟨.inl ⟨rfl, _, Evl.ex_l n1.k hs⟩, _, bs, b, rfl, rfl, Evl.ex_l n1.k hs, q _ G1 H1 n1 (.int _)⟩
theorem ev_index {bs : List Bool} {j : Nat} (h : Ev K te sl (.lst (bs.map Dt.bl))) (hj : bs[j]? = some true) (hno : ∀ m, m < j → bs[m]? = some false) : Ev K (tBM K "list" (rIndex K) te (tCons (tC (.bl true)) tNil)) sl (.int j) := fun G H σ k f Q q =>
  h G H σ k f _ fun v G1 H1 n1 r1 => by
    cases r1 with
    | lst hs rs =>
      have e := rps_bools rs
      subst e
      refine ⟨.inl ⟨rfl, _, Evl.ex_l n1.k hs⟩, _, _, .bl true, j, .bl true, rfl, rfl, Evl.ex_l n1.k hs, rfl, ?_, by rw [List.getElem?_map, hj]; rfl, rfl, fun m z hm hz => ?_, q _ G1 H1 n1 (.int _)⟩
      · rw [List.all_map]
        exact List.all_eq_true.mpr fun _ _ => rfl
      · rw [List.getElem?_map, hno m hm] at hz
        cases hz
        rfl
end
/-! ### the exception that a suite holds, handed to a def -/
theorem isE {X : Cx} {K : PySem.W.Frag} {D a : Addr} {oe : Obj} (eK : X.K = K) (hp : (a, oe) ∈ X.pn) (C : ExcC K D) (hz : Zc (.ref D) none oe) (hf : ∃ vs, oe.data = .fields vs) : CallR X (.builtin "isinstance") (rIsE K D a) := by
  subst eK
  intro pins s σ H xs us Q I r h
  obtain ⟨c, cv, b, rfl, hcv, e, q⟩ := h
  cases r with
  | cons rx rr =>
    cases rr with
    | cons rt rr =>
      cases rr
      cases rx
      have ec := hcv _ rt
      subst ec
      have hget := (I.pin (a, oe) (List.mem_append.mpr (.inl hp))).1
      obtain ⟨vs, hv⟩ := hf
      have J : PySem.W.InstAt s.heap a oe D none := by
        obtain ⟨oc, od, oda, osl⟩ := oe
        obtain ⟨h1, h2⟩ := hz
        dsimp only at h1 h2 hv
        subst h1 h2 hv
        exact ⟨hget, rfl, rfl, trivial⟩
      exact PySem.W.kia_one (PySem.W.handS_kitx_exc C.hg C.hk C.hs C.hd C.ha C.hn C.ht C.hm) I.kIn J e (fun z => nomatch z) fun tk => ⟨.bl b, H, I.tok tk, rfl, q⟩
theorem ev_isE {K : PySem.W.Frag} {sl : List Sl} {i : Nat} {a D : Addr} {c : V} {cv : Value} {b : Bool} (hi : sl[i]? = some (.raw (.ref a))) (hc : ∀ u, RelV c u → u = cv) (e : PySem.W.kitOne K (.ref D) cv = some b) : Ev K (tCB (rIsE K D a) (tCons (tVar i) (tCons (tC c) tNil))) sl (.bl b) := fun G H σ k f Q q =>
  ⟨.ref a, frd_raw f hi, c, cv, b, rfl, hc, e, q _ G H (.refl k) (.bl b)⟩
/-- called with the exception at p.1, an instance of D, a def hands back the text ans -/
structure FnE (P : Program) (w : World) (K : PySem.W.Frag) (mg : Str → Option Value) (base : Heap) (k : Nat) (f : Addr) (fd : FuncData) (ps : List Str) (D : Addr) (ans : Str) : Prop where
  run : ∀ (A : Around) (outer : List Env) (s : Shared) (H : Hp) (us : List Value) (p : Addr × Obj) (Q : VK), L2H.RoomH k A → Zc (.ref D) none p.2 → (∃ vs, p.2.data = .fields vs) → L2H.PinOk outer H s p → Env0 P w K mg base A outer s H → BindsTo s fd ⟨us, []⟩ (ps.zip us) → us = [.ref p.1] → (∀ H2, Ex H H2 → Q (.str ans) H2) →
    codeAny (model P w) A (.call (.ref f) ⟨us, []⟩) (CR CX0 outer P w H s Q E0) s
section
variable {P : Program} {w : World} {K : PySem.W.Frag} {mg : Str → Option Value} {base : Heap} {x y : Str} {st : Stmt} {N : List Str} {k : Nat}
theorem fnE_of {f D : Addr} {fd : FuncData} {ans : Str} {t : Addr → TS} (F : Fun K x x st f fd) (S : FnScope N [y] (defScope st))
    (h1 : ∀ (cdv : Value) (A : Around) (outer : List Env) (s : Shared) (H : Hp) (a : Addr) (oe : Obj), L2H.RoomH k (A.deeper (envOfC x (defScope st) s.heap.objs.size f cdv)) → Zc (.ref D) none oe → (∃ vs, oe.data = .fields vs) → PSs (L2H.cxH CX0 P w K mg base N x (defScope st) f cdv A outer s H E0 (a, oe)) (defBody st) (t a))
    (h2 : ∀ a, Rt K (t a) (Sl.raw (.ref a) :: List.replicate (N.length - 1) .no) (.str ans)) : FnE P w K mg base (k + 1) f fd [y] D ans := by
  obtain ⟨oc, od, kV, doc, pm, an, cdv, ct, osl, rfl, lk, hcd⟩ := F.ex
  refine ⟨fun A outer s H us p Q hr hz hf pin env0 hb hus hq => ?_⟩
  subst hus
  have inK : K.In s.heap := env0.mod.kin.keeps fun b o e => (env0.bs b o e).1
  have lim : s.heap.NoLimit := env0.mod.nolimit.keeps fun b o e => (env0.bs b o e).1
  have kinds : ∀ z ∈ ([y] : List Str).zip [Value.ref p.1], (defScope st).names.lookup z.1 = some .local ∨ ((defScope st).names.lookup z.1 = some .cell ∧ ((cellsFrom (s.heap.objs.size + 1) (defScope st).names []).lookup z.1).isSome = true) := fun ⟨n, v⟩ hy => by
    rcases S.par n (List.of_mem_zip hy).1 with a | a
    · exact .inl a
    · exact .inr ⟨a, PySem.W.cellsFrom_some _ _ _ (.inl a)⟩
  refine codeAny_call_function hr.depth (inK _ _ lk) rfl S.co S.gen rfl (PySem.W.codeRec_of inK hcd) (hb _ _ _ _ ?_)
  refine wpAny_newFunctionEnv_cells S.kind kinds fun en hen s2 xx => ?_
  subst hen
  refine ⟨lim.keeps xx.toInCall.keep, codeAny_func ?_⟩
  have r : Vals [V.ref p.1] [Value.ref p.1] := .cons rfl .nil
  have I : Inv (L2H.cxH CX0 P w K mg base N x (defScope st) f cdv A outer s H E0 p) [] (L2.start N [.ref p.1]) H s2 := L2H.inv_startH S pin env0 rfl r xx
  have ht := h1 cdv A outer s H p.1 p.2 (hr.deeper _) hz hf
  have read : t p.1 { nx := fun _ _ => False, rt := Q } (L2.start N [.ref p.1]) H := h2 p.1 H H _ (Ex.refl H) (by
    show FrD K H (some (V.ref p.1) :: ([] ++ List.replicate (N.length - 1) none)) _
    exact .cons (.raw _) (frd_start _ .nil)) _ fun v G2 H2 n2 r2 => by
      cases r2
      exact hq H2 n2.h
  refine wpAny_mono (ht.run [] s2 _ H _ I read) (fun fl s' hs => ?_) fun e s' hs => hs
  cases fl with
  | ret u =>
    obtain ⟨v, σ', H', J, rv, q⟩ := hs
    exact ⟨v, H', J.os, J.bare, J.base, J.hok, rv, q⟩
  | next =>
    obtain ⟨_, _, _, q⟩ := hs
    exact False.elim q
  | brk =>
    obtain ⟨_, _, _, q⟩ := hs
    exact False.elim q
  | cont =>
    obtain ⟨_, _, _, q⟩ := hs
    exact False.elim q
end
/-- such a def, by its name; Kd tells for which classes what it answers -/
structure HasE (P : Program) (w : World) (K : PySem.W.Frag) (mg : Str → Option Value) (base : Heap) (k : Nat) (x y : Str) (Kd : Addr → Str → Prop) : Prop where
  ex : ∃ (f : Addr) (fd : FuncData), (∀ D ans, Kd D ans → FnE P w K mg base k f fd [y] D ans) ∧ mg x = some (.ref f) ∧ PySem.W.keepIn K (.ref f) = true ∧ Binds K fd [y] []
/-- the call of such a def with the suite's exception -/
def tKind (Kd : Addr → Str → Prop) (i : Nat) (a : Addr) (cls : Value) (d : Option Addr) : TE := fun σ H Q => ∃ D ans, cls = .ref D ∧ d = none ∧ Kd D ans ∧ σ[i]? = some (some (.ref a)) ∧ ∀ H2, Ex H H2 → Q (.str ans) H2
theorem pe_kind {X : Cx} {Kd : Addr → Str → Prop} {k j i : Nat} {x y n : Str} {a : Addr} {oe : Obj} {cls : Value} {d : Option Addr} {q pos pn : Pos} (hF : HasE X.prog X.w X.K X.mg X.base k x y Kd) (hr : L2H.RoomH j X.A) (hkj : k ≤ j)
    (hp : (a, oe) ∈ X.pn) (hz : Zc cls d oe) (hf : ∃ vs, oe.data = .fields vs) (hN : X.N[i]? = some n) (hv : Vis X.env.scope n) (hg : Gl X x := by rfl)
    (hdb : (x == ("__debug__" : Str)) = false := by decide) (hd : (n == ("__debug__" : Str)) = false := by decide) (hcd : (n == ("__classdict__" : Str)) = false := by decide) (hs : starEach [Expr.Name n pn] X.env = [(false, eval (.Name n pn) X.env)] := by rfl) :
    PE X (.Call (.Name x q) [.Name n pn] [] pos) (tKind Kd i a cls d) := by
  obtain ⟨f, fd, hF, hm, hk, hb⟩ := hF.ex
  refine ⟨fun pins s σ H Q I h => ?_⟩
  obtain ⟨D, ans, rfl, rfl, hKd, hσ, hq⟩ := h
  refine wpAny_Call_Name_kw (ld_glob I hg hm ?_ hdb)
  have ha : PA X [Expr.Name n pn] (tCons (tVar i) tNil) := pa_cons (pe_var hN hv hd hcd) pa_nil hs
  refine PySem.W.callWith_K (h₀ := X.base) I.ok.mod.kin hk (thn (ha.run pos pins s σ H (fun vs H1 => vs = [.ref a] ∧ H1 = H) I ⟨.ref a, hσ, rfl, rfl⟩) fun us s1 ⟨vs, H1, I1, r, ev, eH⟩ => ⟨I1.kIn, ?_⟩) hs rfl
  subst ev eH
  have P1 := I1.pin (a, oe) (List.mem_append_left _ hp)
  have pin : L2H.PinOk X.stack H1 s1 (a, oe) := ⟨P1.1, P1.2.1, fun hmm => (List.mem_cons.mp (I1.stkSub a hmm)).elim P1.2.2.1 P1.2.2.2.1, P1.2.2.2.2⟩
  cases r with
  | cons ru rn =>
    cases rn
    cases ru
    have b := hb s1 [.ref a] I1.kIn rfl
    refine wpAny_call (codeAny_mono ((hF D ans hKd).run X.A X.stack s1 H1 _ (a, oe) Q ⟨by have := hr.dp; omega, by have := hr.un; omega⟩ hz hf pin I1.env0 b rfl hq) fun rr s' hh => ?_)
    cases rr with
    | error e => exact False.elim hh
    | ok fl =>
      cases fl with
      | ret u => exact I1.after hh
      | next => exact False.elim hh
      | brk => exact False.elim hh
      | cont => exact False.elim hh
theorem roomS {j : Nat} {A : Around} {v : Option Value} (hr : Room j A) : L2H.RoomH j (A.mark v) := ⟨hr.dp, hr.un⟩
theorem unH {j : Nat} {A : Around} (hr : L2H.RoomH j A) : A.units + 64 < cLine := by
  have := hr.un
  omega
theorem bmK {X : Cx} {K : PySem.W.Frag} {c : Expr} {to : TE} {t : TA} {T : String} {r : V → List V → Hp → VK → Prop} (eK : X.K = K) (h : PE X c (tBM X.K T r to t)) : PE X c (tBM K T r to t) := eK ▸ h
/-! ### one of several defs, picked out of a list, called -/
structure FnAt (P : Program) (w : World) (K : PySem.W.Frag) (mg : Str → Option Value) (base : Heap) (CX : CXT) (k : Nat) (f : Addr) (sp : Sp) : Prop where
  ex : ∃ (fd : FuncData) (ps : List Str), FnOk P w K mg base CX k f fd ps sp ∧ PySem.W.keepIn K (.ref f) = true ∧ Binds K fd ps []
theorem FnAt.of {P : Program} {w : World} {K : PySem.W.Frag} {mg : Str → Option Value} {base : Heap} {CX : CXT} {k j : Nat} {f : Addr} {x : Str} {ps : List Str} {sp : Sp} (h : Has P w K mg base CX k x ps sp) (e : mg x = some (.ref f)) (hk : k ≤ j) : FnAt P w K mg base CX j f sp := by
  obtain ⟨g, fd, F, hm, kp, b⟩ := h.ex
  rw [e] at hm
  cases hm
  exact ⟨fd, ps, F.mono hk, kp, b⟩
/-- a def that lets nothing out may stand among such as do -/
theorem FnAt.calm {P : Program} {w : World} {K : PySem.W.Frag} {mg : Str → Option Value} {base : Heap} {k : Nat} {f : Addr} {sp : Sp} (h : FnAt P w K mg base CX0 k f sp) : FnAt P w K mg base (L2.CX P w) k f sp := by
  obtain ⟨fd, ps, F, kp, b⟩ := h.ex
  refine ⟨fd, ps, ⟨F.len, fun A outer s H args us vs Q E hr he hb hv hs => codeAny_mono (F.run A outer s H args us vs Q E hr he hb hv hs) fun r s' hh => ?_⟩, kp, b⟩
  cases r with
  | error e => exact False.elim hh
  | ok fl =>
    cases fl with
    | ret u => exact hh
    | next => exact False.elim hh
    | brk => exact False.elim hh
    | cont => exact False.elim hh
/-! ### an own class that may be raised -/
structure Cl (K : PySem.W.Frag) (mg : Str → Option Value) (x : Str) (C : Addr) : Prop where
  g : mg x = some (.ref C)
  k : PySem.W.keepIn K (.ref C) = true
  b : PySem.W.subIn K (.ref C) (.type "BaseException") = some true
  t : PySem.W.typeIn K (.ref C) = some (.type "type")
  x : PySem.W.excIn K C [.type "ValueError", .type "Exception", .type "BaseException", .type "object"] "ValueError.__new__" = true
/-- a def that may raise, told by its data: it hands back x (None also by its end), or raises cls -/
def Rx (K : PySem.W.Frag) (ts : XK → TS) (sl : List Sl) (x : Option Dt) (cls : Value) : Prop := ∀ (G H : Hp) (σ : L2.St), Ex G H → FrD K G σ sl → ∀ (D : Ends) (E : XK), (∀ d, x = some d → ∀ v G2 H2, Nx G H G2 H2 → Rp K G2 v d → D.rt v H2) → (x = some .non → ∀ σ2 G2 H2, Nx G H G2 H2 → D.nx σ2 H2) → (x = none → ∀ G2 H2, Nx G H G2 H2 → E cls none H2) → ts E D σ H
abbrev tRs (C : Addr) (E : XK) : TS := fun _ σ H => (fun (_ : L2.St) (H : Hp) (Q : XK) => Q (.ref C) none H) σ H fun cls d H' => (fun (cls : Value) (d : Option Addr) (_ : L2.St) (H : Hp) => E cls d H) cls d σ H'
section
variable {K : PySem.W.Frag} {sl sl1 : List Sl} {te : TE} {tc : TT} {ta : TA} {t : TS} {u : XK → TS} {x : Option Dt} {d : Dt} {c : Value} {C : Addr} {xs : List Dt} {R : List Dt → Dt → Prop} {XF : List Dt → Value → Prop} {b : Bool}
theorem rx_rt (h : Rt K t sl d) : Rx K (fun _ => t) sl (some d) c := fun G H σ k f D E q _ _ => h G H σ k f D (q d rfl)
theorem rx_nt (h : Nt K t sl sl1) (g : Rx K u sl1 x c) : Rx K (fun E => tSeq t (u E)) sl x c := fun G H σ k f D E q1 q2 q3 =>
  h G H σ k f _ fun σ1 G1 H1 n1 f1 => g G1 H1 σ1 n1.k f1 D E (fun d e v G2 H2 n2 r2 => q1 d e v G2 H2 (n1.trans n2) r2) (fun e σ2 G2 H2 n2 => q2 e σ2 G2 H2 (n1.trans n2)) fun e G2 H2 n2 => q3 e G2 H2 (n1.trans n2)
theorem rx_ok (h : EvA K ta sl xs) (hr : R xs d) (g : Rx K u sl x c) : Rx K (fun E => tSeq (tDrop (tCall (spX K R XF) [] E ta)) (u E)) sl x c := fun G H σ k f D E q1 q2 q3 =>
  h G H σ k f _ fun vs G1 H1 n1 r1 => ⟨xs, G1, n1.k, rps_nil r1, .inl ⟨d, hr, fun v G2 H2 n2 r2 => by
    have n12 := n1.trans n2
    exact g G2 H2 σ n2.k (FrD.mono n12.g f) D E (fun d e v G3 H3 n3 r3 => q1 d e v G3 H3 (n12.trans n3) r3) (fun e σ2 G3 H3 n3 => q2 e σ2 G3 H3 (n12.trans n3)) fun e G3 H3 n3 => q3 e G3 H3 (n12.trans n3)⟩⟩
theorem rx_out (h : EvA K ta sl xs) (hr : XF xs c) : Rx K (fun E => tSeq (tDrop (tCall (spX K R XF) [] E ta)) (u E)) sl none c := fun G H σ k f D E q1 q2 q3 =>
  h G H σ k f _ fun vs G1 H1 n1 r1 => ⟨xs, G1, n1.k, rps_nil r1, .inr ⟨c, hr, fun G2 H2 n2 => q3 rfl G2 H2 (n1.trans n2)⟩⟩
theorem rx_ret (h : EvA K ta sl xs) (hr : R xs d) : Rx K (fun E => tRet (tCall (spX K R XF) [] E ta)) sl (some d) c := fun G H σ k f D E q1 q2 q3 =>
  h G H σ k f _ fun vs G1 H1 n1 r1 => ⟨xs, G1, n1.k, rps_nil r1, .inl ⟨d, hr, fun v G2 H2 n2 r2 => q1 d rfl v G2 H2 (n1.trans n2) r2⟩⟩
theorem rx_retout (h : EvA K ta sl xs) (hr : XF xs c) : Rx K (fun E => tRet (tCall (spX K R XF) [] E ta)) sl none c := fun G H σ k f D E q1 q2 q3 =>
  h G H σ k f _ fun vs G1 H1 n1 r1 => ⟨xs, G1, n1.k, rps_nil r1, .inr ⟨c, hr, fun G2 H2 n2 => q3 rfl G2 H2 (n1.trans n2)⟩⟩
theorem rx_no {s : XK → TS} (h : EvT K tc sl b) (e : b = false) (g : Rx K u sl x c) : Rx K (fun E => tSeq (tIfS tc (s E) tNext) (u E)) sl x c := fun G H σ k f D E q1 q2 q3 => by
  subst e
  exact h G H σ k f _ fun G1 H1 n1 => g G1 H1 σ n1.k (FrD.mono n1.g f) D E (fun d e v G2 H2 n2 r2 => q1 d e v G2 H2 (n1.trans n2) r2) (fun e σ2 G2 H2 n2 => q2 e σ2 G2 H2 (n1.trans n2)) fun e G2 H2 n2 => q3 e G2 H2 (n1.trans n2)
theorem rx_raise (h : EvT K tc sl b) (e : b = true) : Rx K (fun E => tSeq (tIfS tc (tRs C E) tNext) (u E)) sl none (.ref C) := fun G H σ k f D E q1 q2 q3 => by
  subst e
  exact h G H σ k f _ fun G1 H1 n1 => q3 rfl G1 H1 n1
theorem rx_no1 {s : XK → TS} (h : EvT K tc sl b) (e : b = false) : Rx K (fun E => tIfS tc (s E) tNext) sl (some .non) c := fun G H σ k f D E q1 q2 q3 => by
  subst e
  exact h G H σ k f _ fun G1 H1 n1 => q2 rfl σ G1 H1 n1
theorem rx_raise1 (h : EvT K tc sl b) (e : b = true) : Rx K (fun E => tIfS tc (tRs C E) tNext) sl none (.ref C) := fun G H σ k f D E q1 q2 q3 => by
  subst e
  exact h G H σ k f _ fun G1 H1 n1 => q3 rfl G1 H1 n1
end
section
variable {P : Program} {w : World} {K : PySem.W.Frag} {mg : Str → Option Value} {base : Heap} {x : Str} {st : Stmt} {N ps : List Str} {k : Nat}
/-- a def that may raise: where R tells an answer it hands it back, else XF's class -/
theorem Dd.raises {R : List Dt → Dt → Prop} {XF : List Dt → Value → Prop} {t : XK → TS} (D : Dd K mg x st ps) (S : FnScope N ps (defScope st)) (hl : ∀ ds d, R ds d → ds.length = ps.length) (hl2 : ∀ ds c, XF ds c → ds.length = ps.length)
    (h1 : ∀ (f : Addr) (cdv : Value) (A : Around) (outer : List Env) (s : Shared) (H : Hp) (E : XK), Room k (A.deeper (envOfC x (defScope st) s.heap.objs.size f cdv)) → PSs (cxOf (L2.CX P w) P w K mg base N x (defScope st) f cdv A outer s H E) (defBody st) (t E))
    (h2 : ∀ ds d, R ds d → Rx K t (ds.map Sl.d ++ List.replicate (N.length - ps.length) .no) (some d) .none) (h3 : ∀ ds c, XF ds c → Rx K t (ds.map Sl.d ++ List.replicate (N.length - ps.length) .no) none c) : Has P w K mg base (L2.CX P w) (k + 1) x ps (spX K R XF) := by
  obtain ⟨f, fd, F, hm, b⟩ := D.ex
  refine ⟨f, fd, F.okX S (fun vs H Q E h => ?_) (fun cdv A outer s H vs Q E hr h => ⟨t E, h1 f cdv A outer s H E hr, ?_⟩), hm, F.kp, b⟩
  · obtain ⟨ds, G, _, r, h⟩ := h
    rw [r.length]
    rcases h with ⟨d, hR, _⟩ | ⟨c, hX, _⟩
    · exact hl ds d hR
    · exact hl2 ds c hX
  · obtain ⟨ds, G, kG, r, h⟩ := h
    rcases h with ⟨d, hR, q⟩ | ⟨c, hX, q⟩
    · exact h2 ds d hR G H _ kG (start_ok r (hl ds d hR)) _ E (fun d' e v G2 H2 n2 r2 => by cases e; exact q v G2 H2 n2 r2) (fun e σ2 G2 H2 n2 => by cases e; exact q .non G2 H2 n2 .non) (fun z => by cases z)
    · exact h3 ds c hX G H _ kG (start_ok r (hl2 ds c hX)) _ E (fun d' e => by cases e) (fun e => by cases e) fun _ => q
end
theorem kit_self {K : PySem.W.Frag} {t : Value} : PySem.W.kitOne K t t = some true := by
  unfold PySem.W.kitOne
  rw [if_pos (beq_self_eq_true t)]
theorem kitCls_of {K : PySem.W.Frag} {t : Value} {C : Addr} {b : Bool} (hc : PySem.W.isClsIn K C = true) (ht : PySem.W.typeIn K (.ref C) = some (.type "type")) (hs : PySem.W.subIn K t (.ref C) = some b) : PySem.W.kitCls K t (.ref C) = some b := by
  have e : ((PySem.W.clsIn K C).isSome && PySem.W.typeIn K (.ref C) == some (.type "type")) = true := by
    rw [show (PySem.W.clsIn K C).isSome = true from hc, ht] <;> rfl
  exact (if_pos e).trans hs
theorem kit_not {K : PySem.W.Frag} {D C : Addr} (hc : PySem.W.isClsIn K C = true) (ht : PySem.W.typeIn K (.ref C) = some (.type "type")) (hs : PySem.W.subIn K (.ref D) (.ref C) = some false) (sD : PySem.W.subIn K (.ref D) (.ref D) = some true) : PySem.W.kitOne K (.ref D) (.ref C) = some false := by
  unfold PySem.W.kitOne
  by_cases h : ((Value.ref D) == (Value.ref C)) = true
  · have e : D = C := Value.ref.inj (beq_iff_eq.mp h)
    rw [e] at hs sD
    rw [hs] at sD
    cases sD
  · rw [if_neg h]
    exact kitCls_of hc ht hs
theorem kit_val {K : PySem.W.Frag} {D : Addr} (hs : PySem.W.subIn K (.ref D) (.type "ValueError") = some true) : PySem.W.kitOne K (.ref D) (.type "ValueError") = some true := by
  unfold PySem.W.kitOne
  rw [if_neg (by intro h; cases beq_iff_eq.mp h)]
  have e : PySem.W.kitMeta "ValueError" = true := by decide +kernel
  unfold PySem.W.kitCls
  dsimp only
  rw [e]
  exact (if_pos rfl).trans hs
theorem exm_own {K : PySem.W.Frag} {t : Value} {C : Addr} (hb : PySem.W.subIn K (.ref C) (.type "BaseException") = some true) (hc : PySem.W.isClsIn K C = true) (ht : PySem.W.typeIn K (.ref C) = some (.type "type")) (hs : PySem.W.subIn K t (.ref C) = some true) : PySem.W.exmOne K t (.ref C) = some true := by
  unfold PySem.W.exmOne
  rw [hb]
  exact (if_pos (beq_self_eq_true _)).trans (kitCls_of hc ht hs)
theorem frd_len {K : PySem.W.Frag} {G : Hp} {σ : L2.St} {sl : List Sl} (f : FrD K G σ sl) : σ.length = sl.length := Paired.length f
theorem passC {X : Cx} {E : XK} (tk : Takes X (fun cls d _ H => E cls d H)) : Passes (L2.CX X.prog X.w) X E := passes_call tk fun _ _ _ _ h => h
end Z
namespace Z
open PySem PySem.Spec PyProof.Rows L2
open Evl (Ex)
/-! ### more displays and calls: {}, str(n), list(t), t + u, all([..]), a comprehension over a list of data -/
def tDct : TE := fun _ H Q => ∀ p, H p = none → Q (.ref p) (upd H p (.dK []))
theorem pe_dct {X : Cx} {pos : Pos} : PE X (.Dict [] [] pos) tDct := pe_dnewK
theorem allK {X : Cx} {K : PySem.W.Frag} (e : X.K = K) (hc : X.calm = true) : CallR X (.builtin "all") (rAll K) := e ▸ cr_all hc
section
variable {K : PySem.W.Frag} {sl : List Sl} {ta tb te tc tl : TE} {x y z : Dt}
theorem ev_dct : Ev K tDct sl .dct := fun G H σ k f Q q => fun p hp => q _ _ _ (.new k hp) (.dct upd_same)
theorem rc_all {bs : List Bool} : RcD K (rAll K) [.lst (bs.map Dt.bl)] (.bl (bs.all id)) := fun G H k vs r Q q => by
  obtain ⟨v, rfl, h1⟩ := rps1 r
  cases h1 with
  | lst hs rs =>
    have e := rps_bools rs
    subst e
    exact ⟨_, bs, rfl, Evl.ex_l k hs, q _ G H (.refl k) (.bl _)⟩
theorem frd_wipe {G : Hp} : ∀ {σ : L2.St} {sl : List Sl} (i : Nat), FrD K G σ sl → FrD K G (σ.set i none) (sl.set i .no)
  | _, _, _, .nil => .nil
  | _, _, 0, .cons _ t => .cons (.no _) t
  | _, _, i + 1, .cons r t => .cons r (frd_wipe i t)
theorem Rps.snoc {G : Hp} {vs : List V} {ds : List Dt} {v : V} {d : Dt} (h : Rps K G vs ds) (r : Rp K G v d) : Rps K G (vs ++ [v]) (ds ++ [d]) := h.append (.cons r .nil)
end
/-! ### what a fraction is, of anything -/
def isWh : Dt → Bool
  | .int _ => true
  | _ => false
def isFr : Dt → Bool
  | .tup [.int t, .int b] => decide (0 < b) && (((Nat.gcd t.natAbs b.natAbs : Nat) : Int) == 1)
  | _ => false
def isHp : Dt → Bool
  | .tup [x, y] => isFr x && isFr y
  | _ => false
theorem isFr_len {ds : List Dt} (h : ds.length ≠ 2) : isFr (.tup ds) = false := by
  unfold isFr
  split
  · rename_i t b e
    injection e with e
    rw [e] at h
    exact absurd rfl h
  · rfl
theorem isHp_len {ds : List Dt} (h : ds.length ≠ 2) : isHp (.tup ds) = false := by
  unfold isHp
  split
  · rename_i t b e
    injection e with e
    rw [e] at h
    exact absurd rfl h
  · rfl
theorem kb_tup (x : Dt) : ∃ b, kitB (tyN x) "tuple" = some b ∧ (b = true ↔ ∃ ds, x = .tup ds) := by
  cases x with
  | tup ds => exact ⟨true, (by simp only [tyN]; decide +kernel), by simp⟩
  | _ => exact ⟨false, (by simp only [tyN]; decide +kernel), by simp⟩
theorem kb_whole (x : Dt) : ∃ a b, kitB (tyN x) "int" = some a ∧ kitB (tyN x) "bool" = some b ∧ (a && !b) = isWh x := by
  cases x with
  | int i => exact ⟨true, false, (by simp only [tyN]; decide +kernel), (by simp only [tyN]; decide +kernel), rfl⟩
  | bl b => exact ⟨true, true, (by simp only [tyN]; decide +kernel), (by simp only [tyN]; decide +kernel), rfl⟩
  | _ => exact ⟨false, false, (by simp only [tyN]; decide +kernel), (by simp only [tyN]; decide +kernel), rfl⟩
theorem isWh_iff {x : Dt} : isWh x = true ↔ ∃ i, x = .int i := by
  cases x <;> simp [isWh]
theorem two_of {α : Type} {ds : List α} (h : ds.length = 2) : ∃ x y, ds = [x, y] := by
  match ds, h with
  | [x, y], _ => exact ⟨x, y, rfl⟩
/-- a pair of whole numbers with a bottom of a size that // serves -/
def Sz (x : Dt) : Prop := ∀ t b : Int, x = .tup [.int t, .int b] → Bt 9000 b
def Sz2 (x : Dt) : Prop := Sz x ∧ ∀ a b : Dt, x = .tup [a, b] → Sz a ∧ Sz b
theorem sz_fq {q : Rat} (h : Bt 9000 (q.den : Int)) : Sz (fq q) := fun t b e => by
  injection e with e
  injection e with e1 e2
  injection e2 with e2 _
  injection e2 with e2
  rw [← e2]
  exact h
theorem isFr_pair {t b : Int} (h : 0 < b) : decide (((t : Rat) / (b : Rat)).num = t ∧ ((((t : Rat) / (b : Rat)).den : Nat) : Int) = b) = (((Nat.gcd t.natAbs b.natAbs : Nat) : Int) == 1) := by
  have h0 : b ≠ 0 := by omega
  rw [← low_num h0, ← low_den h0]
  have e : dvs t b = ((Nat.gcd t.natAbs b.natAbs : Nat) : Int) := if_neg (by omega)
  have gp := gcd_pos (t := t) h0
  rw [e]
  by_cases g1 : Nat.gcd t.natAbs b.natAbs = 1
  · rw [g1]
    simp
  · have hb : ¬ b.fdiv ((Nat.gcd t.natAbs b.natAbs : Nat) : Int) = b := by
      rw [Int.fdiv_eq_ediv_of_nonneg _ (by omega)]
      have : b / ((Nat.gcd t.natAbs b.natAbs : Nat) : Int) < b := Int.ediv_lt_self_of_pos_of_ne_one h (by omega) |> fun z => z
      omega
    rw [decide_eq_false (fun z => hb z.2)]
    exact (beq_eq_false_iff_ne.mpr (by omega)).symm
theorem eqv_pair (a b c d : Int) : PyData.eqv (.tuple [.int a, .int b]) (.tuple [.int c, .int d]) = decide (a = c ∧ b = d) := by
  simp only [PyData.eqv, PyData.eqvAll, Bool.and_true]
  rw [Bool.eq_iff_iff]
  simp
theorem sz_int {i : Int} : Sz (.int i) := fun t b e => by cases e
theorem sz2_p {a b : Dt} (h : Sz (.tup [a, b])) (ha : Sz a) (hb : Sz b) : Sz2 (.tup [a, b]) := ⟨h, fun x y e => by
  cases e
  exact ⟨ha, hb⟩⟩
theorem sz2_ii {a b : Int} (h : Bt 9000 b) : Sz2 (.tup [.int a, .int b]) := sz2_p (fun t u e => by
  cases e
  exact h) sz_int sz_int
/-! ### is True, is not True -/
theorem r2_isB {K : PySem.W.Frag} {a b : Bool} : R2D K rIsB (.bl a) (.bl b) (.bl (decide (a = b))) := fun G H k v w r1 r2 Q q => by
  cases r1
  cases r2
  exact ⟨a, b, rfl, rfl, q _ G H (.refl k) (.bl _)⟩
theorem r2_notB {K : PySem.W.Frag} {a b : Bool} : R2D K rNotB (.bl a) (.bl b) (.bl (!decide (a = b))) := fun G H k v w r1 r2 Q q => by
  cases r1
  cases r2
  exact ⟨a, b, rfl, rfl, q _ G H (.refl k) (.bl _)⟩
/-! ### the loop over the cells -/
end Z
namespace Z
open PySem PySem.Spec PyProof.Rows L2
open Evl (Ex)
/-! ### speeds -/
def Sp (q : Rat) : Prop := -1 < q ∧ q < 1
def isSpD : Dt → Bool
  | .tup [.int t, .int b] => isFr (.tup [.int t, .int b]) && decide ((t.natAbs : Int) < b)
  | _ => false
theorem isFr_fq (q : Rat) : isFr (fq q) = true := by
  show (decide (0 < (q.den : Int)) && (((Nat.gcd q.num.natAbs (q.den : Int).natAbs : Nat) : Int) == 1)) = true
  have := q.reduced
  unfold Nat.Coprime at this
  rw [decide_eq_true (den_pos q), Int.natAbs_natCast, this]
  rfl
theorem isFr_iff {x : Dt} : isFr x = true ↔ ∃ q : Rat, x = fq q := by
  constructor
  · intro h
    match x, h with
    | .tup [.int t, .int b], h =>
      have h : (decide (0 < b) && (((Nat.gcd t.natAbs b.natAbs : Nat) : Int) == 1)) = true := h
      rw [Bool.and_eq_true, decide_eq_true_eq, beq_iff_eq] at h
      have hb : ((b.natAbs : Nat) : Int) = b := by omega
      refine ⟨⟨t, b.natAbs, by omega, by unfold Nat.Coprime; omega⟩, ?_⟩
      show _ = Dt.tup [.int t, .int (b.natAbs : Int)]
      rw [hb]
  · rintro ⟨q, rfl⟩
    exact isFr_fq q
theorem isSpD_fq (q : Rat) : isSpD (fq q) = decide ((q.num.natAbs : Int) < (q.den : Int)) := by
  show (isFr (fq q) && _) = _
  rw [isFr_fq]
  rfl
theorem isSpD_and (x : Dt) : isSpD x = (isFr x && isSpD x) := by
  cases h : isFr x with
  | true => rfl
  | false =>
    unfold isSpD
    split
    · rw [h]
      rfl
    · rfl
theorem sp_iff {q : Rat} : Sp q ↔ (q.num.natAbs : Int) < (q.den : Int) := by
  unfold Sp
  rw [Rat.lt_iff, Rat.lt_iff]
  have e1 : (1 : Rat).num = 1 := rfl
  have e2 : (1 : Rat).den = 1 := rfl
  have e3 : (-1 : Rat).num = -1 := rfl
  have e4 : (-1 : Rat).den = 1 := rfl
  rw [e1, e2, e3, e4]
  omega
theorem isSpD_of {q : Rat} (h : Sp q) : isSpD (fq q) = true := by
  rw [isSpD_fq]
  exact decide_eq_true (sp_iff.mp h)
theorem isSpD_iff {x : Dt} : isSpD x = true ↔ ∃ q : Rat, Sp q ∧ x = fq q := by
  constructor
  · intro h
    have h1 := h
    rw [isSpD_and, Bool.and_eq_true] at h1
    obtain ⟨q, rfl⟩ := isFr_iff.mp h1.1
    rw [isSpD_fq] at h
    exact ⟨q, sp_iff.mpr (of_decide_eq_true h), rfl⟩
  · rintro ⟨q, h, rfl⟩
    exact isSpD_of h
theorem sp_pos {x y : Rat} (hx : Sp x) (hy : Sp y) : 0 < 1 + x * y := by
  unfold Sp at *
  have a := Rat.mul_pos (show 0 < 1 + x by grind) (show 0 < 1 + y by grind)
  have b := Rat.mul_pos (show 0 < 1 - x by grind) (show 0 < 1 - y by grind)
  grind
theorem sp_ne {x y : Rat} (hx : Sp x) (hy : Sp y) : 1 + x * y ≠ 0 := by
  have := sp_pos hx hy
  grind
theorem div_lt_one {a b : Rat} (h : 0 < b) (h1 : a < b) : a / b < 1 := by
  rw [Rat.div_lt_iff h]
  grind
theorem neg_one_lt_div {a b : Rat} (h : 0 < b) (h1 : -b < a) : -1 < a / b := by
  rw [Rat.lt_div_iff h]
  grind
theorem sp_joined {x y : Rat} (hx : Sp x) (hy : Sp y) : Sp ((x + y) / (1 + x * y)) := by
  have hp := sp_pos hx hy
  unfold Sp at hx hy
  have a := Rat.mul_pos (show 0 < 1 + x by grind) (show 0 < 1 + y by grind)
  have b := Rat.mul_pos (show 0 < 1 - x by grind) (show 0 < 1 - y by grind)
  exact ⟨neg_one_lt_div hp (by grind), div_lt_one hp (by grind)⟩
@[irreducible] def jn (x y : Rat) : Rat := (x + y) / (1 + x * y)
theorem jn_def (x y : Rat) : jn x y = (x + y) / (1 + x * y) := by unfold jn; rfl
theorem sp_jn {x y : Rat} (hx : Sp x) (hy : Sp y) : Sp (jn x y) := by rw [jn_def]; exact sp_joined hx hy
theorem jn_low (x y : Rat) (h : 1 + x * y ≠ 0) : ((x.num * (y.den : Int) + y.num * (x.den : Int) : Int) : Rat) / (((x.den : Int) * (y.den : Int) + x.num * y.num : Int) : Rat) = jn x y := by
  have e := fq_self x
  have e2 := fq_self y
  have d0 : ((x.den : Int) : Rat) ≠ 0 := by
    have := den_ne x
    exact_mod_cast this
  have d1 : ((y.den : Int) : Rat) ≠ 0 := by
    have := den_ne y
    exact_mod_cast this
  rw [Rat.intCast_add, Rat.intCast_add, Rat.intCast_mul, Rat.intCast_mul, Rat.intCast_mul, Rat.intCast_mul, jn_def]
  generalize (x.num : Rat) = n at *
  generalize ((x.den : Int) : Rat) = b at *
  generalize (y.num : Rat) = m at *
  generalize ((y.den : Int) : Rat) = c at *
  subst e
  subst e2
  grind
theorem jn_low_ne (x y : Rat) (h : 1 + x * y ≠ 0) : (x.den : Int) * (y.den : Int) + x.num * y.num ≠ 0 := fun z => by
  have e := fq_self x
  have e2 := fq_self y
  have d0 : ((x.den : Int) : Rat) ≠ 0 := by
    have := den_ne x
    exact_mod_cast this
  have d1 : ((y.den : Int) : Rat) ≠ 0 := by
    have := den_ne y
    exact_mod_cast this
  have z2 : (((x.den : Int) * (y.den : Int) + x.num * y.num : Int) : Rat) = 0 := by
    rw [z]
    rfl
  rw [Rat.intCast_add, Rat.intCast_mul, Rat.intCast_mul] at z2
  generalize (x.num : Rat) = n at *
  generalize ((x.den : Int) : Rat) = b at *
  generalize (y.num : Rat) = m at *
  generalize ((y.den : Int) : Rat) = c at *
  subst e
  subst e2
  grind
theorem bq_jn {n m : Nat} {x y : Rat} (h1 : Bq n x) (h2 : Bq m y) (h : 1 + x * y ≠ 0) : Bq (n + m + 1) (jn x y) := by
  rw [← jn_low x y h]
  exact bq_div (jn_low_ne x y h) (bt_add (bt_mul h1.1 h2.2) (bt_mul h2.1 h1.2) (by omega) (by omega)) (bt_add (bt_mul h1.2 h2.2) (bt_mul h1.1 h2.1) (by omega) (by omega))
/-- sizes for which two speeds may be put together -/
def Jb (x y : Rat) : Prop := ∃ n m, Bq n x ∧ Bq m y ∧ n + m + 2 ≤ 4400
def R_joined (ds : List Dt) (d : Dt) : Prop := ∃ x y : Rat, ds = [fq x, fq y] ∧ Jb x y ∧ 1 + x * y ≠ 0 ∧ d = fq (jn x y)
def R_tog (ds : List Dt) (d : Dt) : Prop := ∃ x y : Rat, ds = [fq x, fq y] ∧ Sp x ∧ Sp y ∧ Jb x y ∧ d = fq (jn x y)
theorem joined_ok {x y : Rat} (h1 : Jb x y) (h : 1 + x * y ≠ 0) : R_joined [fq x, fq y] (fq (jn x y)) := ⟨x, y, rfl, h1, h, rfl⟩
/-! ### drawn out of a list -/
def AllL (P : Dt → Prop) : List Dt → Prop
  | [] => True
  | x :: r => P x ∧ AllL P r
theorem allL_get {P : Dt → Prop} : ∀ {xs : List Dt} {k : Nat}, AllL P xs → k < xs.length → ∃ x, xs[k]? = some x ∧ P x
  | [], _, _, h => absurd h (Nat.not_lt_zero _)
  | x :: r, 0, h, _ => ⟨x, rfl, h.1⟩
  | x :: r, k + 1, h, hk => by
    obtain ⟨y, h1, h2⟩ := allL_get (k := k) h.2 (by simpa using hk)
    exact ⟨y, by simpa using h1, h2⟩
theorem hit {P : Dt → Prop} {xs : List Dt} {m n : Int} (h0 : 0 ≤ m) (h1 : m < n) (hn : n = xs.length) (h : AllL P xs) : ∃ x, atI xs m = some x ∧ P x := by
  obtain ⟨k, rfl⟩ : ∃ k : Nat, m = (k : Int) := ⟨m.toNat, by omega⟩
  obtain ⟨x, h2, h3⟩ := allL_get (k := k) h (by omega)
  exact ⟨x, atI_nat h2, h3⟩
theorem lg64 {i : Int} (h0 : 0 ≤ i) (h : i < 2 ^ 64) : i.natAbs.log2 < 9000 := by
  have h2 : Bt 64 i := by
    show i.natAbs < 2 ^ 64
    omega
  have := log2_of h2 (by decide)
  omega
/-! ### plain speeds by a stretch s: (s s - 1) / (s s + 1) -/
abbrev pl (s : Rat) : Rat := (s * s - 1) / (s * s + 1)
theorem ss_pos {s : Rat} (h : s ≠ 0) : 0 < s * s := by
  rcases (by grind : s < 0 ∨ s = 0 ∨ 0 < s) with a | a | a
  · have := Rat.mul_pos (show 0 < -s by grind) (show 0 < -s by grind)
    grind
  · exact absurd a h
  · exact Rat.mul_pos a a
theorem pl_sp {s : Rat} (h : 0 < s) : Sp (pl s) := by
  have := Rat.mul_pos h h
  exact ⟨neg_one_lt_div (by grind) (by grind), div_lt_one (by grind) (by grind)⟩
theorem pl_low (s : Rat) (h : 0 < s) : ((s.num * s.num - (s.den : Int) * (s.den : Int) : Int) : Rat) / ((s.num * s.num + (s.den : Int) * (s.den : Int) : Int) : Rat) = pl s := by
  have e := fq_self s
  have d0 : ((s.den : Int) : Rat) ≠ 0 := by
    have := den_ne s
    exact_mod_cast this
  have ss := Rat.mul_pos h h
  rw [Rat.intCast_sub, Rat.intCast_add, Rat.intCast_mul, Rat.intCast_mul]
  generalize (s.num : Rat) = n at *
  generalize ((s.den : Int) : Rat) = b at *
  unfold pl
  subst e
  have h1 : n * n + b * b ≠ 0 := by
    have := ss_pos d0
    have h2 : n / b * (n / b) * (b * b) = n * n := by grind
    have h3 := Rat.mul_pos ss this
    grind
  grind
theorem pl_low_ne (s : Rat) : s.num * s.num + (s.den : Int) * (s.den : Int) ≠ 0 := by
  have a := den_pos s
  have b := Int.mul_pos a a
  have c : 0 ≤ s.num * s.num := by
    rw [← Int.natAbs_mul_self]
    omega
  omega
theorem bq_pl {n : Nat} {s : Rat} (h : Bq n s) (h0 : 0 < s) : Bq (n + n + 1) (pl s) := by
  rw [← pl_low s h0]
  exact bq_div (pl_low_ne s) (bt_sub (bt_mul h.1 h.1) (bt_mul h.2 h.2) (by omega) (by omega)) (bt_add (bt_mul h.1 h.1) (bt_mul h.2 h.2) (by omega) (by omega))
theorem int_lt {a b : Int} : (a : Rat) < (b : Rat) ↔ a < b := Rat.intCast_lt_intCast
theorem sp_low {t b : Int} (h : -b < t) (h1 : t < b) : Sp ((t : Rat) / (b : Rat)) := by
  have hb : (0 : Rat) < (b : Rat) := by
    have := int_lt (a := 0) (b := b)
    exact this.mpr (by omega)
  refine ⟨neg_one_lt_div hb ?_, div_lt_one hb (int_lt.mpr h1)⟩
  rw [← Rat.intCast_neg]
  exact int_lt.mpr h
theorem pos_low {t b : Int} (h : 0 < t) (h1 : 0 < b) : 0 < (t : Rat) / (b : Rat) := by
  have hb : (0 : Rat) < (b : Rat) := int_lt (a := 0).mpr h1
  have ht : (0 : Rat) < (t : Rat) := int_lt (a := 0).mpr h
  rw [Rat.lt_div_iff hb]
  grind
/-! ### inside a try whose handler hands the exception to the def that names its kind -/
section
variable {K : PySem.W.Frag} {sl : List Sl} {ti : TE} {ta : TA} {fs : List Addr} {j : Nat} {f : Addr} {menu : List (Addr × L2.Sp)} {R : List Dt → Dt → Prop} {XF : List Dt → Value → Prop} {xs : List Dt} {d : Dt} {c : Value} {G H : Hp} {σ : L2.St} {E : L2.St → XK} {Q : VK}
theorem was_kind {M : Value} {i : Nat} {C : Addr} {Kd : Addr → Str → Prop} {ans : Str} {Wo : WX} {D : Ends} (he : PySem.W.exmOne K (.ref C) M = some true) (hk : Kd C ans) (hi : i < σ.length) (kx : Ex G H) (q : ∀ v G2 H2, Nx G H G2 H2 → Rp K G2 v (.str ans) → D.rt v H2) : wAs K M i (fun a cls d => tRet (tKind Kd i a cls d)) Wo D (.ref C) none σ H :=
  ⟨true, he, fun _ a ha => ⟨_, _, rfl, rfl, hk, List.getElem?_set_self hi, fun H3 e3 => q _ G H3 ⟨Ex.refl _, e3, kx.trans e3, fun _ z _ => z⟩ (.str _)⟩, fun z => by cases z⟩
end
/-! ### so often -/
theorem sp_zero : Sp 0 := ⟨by decide, by decide⟩
/-! ### statements that go on or hand back -/
section
variable {K : PySem.W.Frag} {sl sl1 : List Sl} {ps : List Addr} {te : TE} {tc : TT} {x y : Dt} {t u : TS} {N N2 : List Sl → Prop} {R : Dt → Prop} {c : Value} {d : Dt} {b : Bool}
/-! tests that draw -/
def EpT (K : PySem.W.Frag) (tt : TT) (sl : List Sl) (ps : List Addr) (B : Bool → Prop) : Prop := ∀ (G H : Hp) (σ : L2.St), Ex G H → FrD K G σ sl → Pots ps G H → ∀ Q : Bool → Hp → Prop, (∀ b G2 H2, B b → NxP ps G H G2 H2 → Pots ps G2 H2 → Q b H2) → tt σ H Q
variable {B : Bool → Prop} {tt uu : TT}
theorem ept_test (h : Ep K te sl ps fun x => ∃ b, x = .bl b ∧ B b) : EpT K (tTest te) sl ps B := fun G H σ k f m Q q => h G H σ k f m _ fun v x G1 H1 ⟨b, ex, hB⟩ n1 m1 r1 => by
  subst ex
  cases r1
  exact ⟨b, rfl, q b G1 H1 hB n1 m1⟩
end
theorem kb_ss : kitB "str" "str" = some true := by decide +kernel
theorem kb_is : kitB "int" "str" = some false := by decide +kernel
/-! ### for .. in a list of data, pots drawn from inside -/
/-! ### a display, so many times -/
/-! ### beats and stretches -/
def beatD (x : Rat) : Dt := rootD (1 - x * x)
theorem rootD_some {y z : Rat} (h : y * y = z) : rootD z = fq y.abs := h ▸ rootD_sq y
theorem abs_sq (y : Rat) : y.abs * y.abs = y * y := by
  rcases Rat.nonneg_total y with h | h
  · rw [Rat.abs_of_nonneg h]
  · rw [Rat.abs_of_nonpos (by grind)]
    grind
theorem abs_nn (y : Rat) : 0 ≤ y.abs := by
  rcases Rat.nonneg_total y with h | h
  · rw [Rat.abs_of_nonneg h]
    exact h
  · rw [Rat.abs_of_nonpos (by grind)]
    exact h
theorem rootD_cases (z : Rat) : (∃ y, 0 ≤ y ∧ y * y = z ∧ rootD z = fq y) ∨ (rootD z = .non ∧ ∀ y, y * y ≠ z) := by
  by_cases h : ∃ y : Rat, y * y = z
  · obtain ⟨y, e⟩ := h
    exact .inl ⟨y.abs, abs_nn y, by rw [abs_sq, e], rootD_some e⟩
  · refine .inr ⟨?_, fun y e => h ⟨y, e⟩⟩
    unfold rootD
    by_cases h0 : z.num < 0
    · rw [if_pos h0]
    · rw [if_neg h0, if_neg]
      rintro ⟨h1, h2⟩
      have hd : sq z.den ≠ 0 := fun c => by
        rw [c] at h2
        have := z.den_pos
        omega
      have hc : Nat.gcd ((sq z.num.toNat : Int)).natAbs (sq z.den) = 1 := by
        rw [Int.natAbs_natCast]
        refine nat_sq_cop ?_
        rw [h1, h2]
        have := z.reduced
        unfold Nat.Coprime at this
        rw [show z.num.toNat = z.num.natAbs by omega]
        exact this
      refine h ⟨⟨(sq z.num.toNat : Int), sq z.den, hd, hc⟩, Rat.ext ?_ ?_⟩
      · rw [num_sq]
        show ((sq z.num.toNat : Nat) : Int) * ((sq z.num.toNat : Nat) : Int) = z.num
        rw [← Int.natCast_mul, h1]
        omega
      · rw [den_sq]
        exact h2
theorem bq_root {n : Nat} {y z : Rat} (e : y * y = z) (h : Bq n z) : Bq n y := by
  subst e
  have h1 := h.1
  have h2 := h.2
  rw [num_sq] at h1
  rw [den_sq, Int.natCast_mul] at h2
  unfold Bt at h1 h2
  rw [Int.natAbs_mul] at h1 h2
  have a := Nat.le_mul_self y.num.natAbs
  have b := Nat.le_mul_self (y.den : Int).natAbs
  exact ⟨Nat.lt_of_le_of_lt a h1, Nat.lt_of_le_of_lt b h2⟩
theorem sp_low_sq {x : Rat} (h : Sp x) : 0 < 1 - x * x := by
  unfold Sp at h
  have := Rat.mul_pos (show 0 < 1 - x by grind) (show 0 < 1 + x by grind)
  grind
theorem bq_low {n : Nat} {x : Rat} (h : Bq n x) : Bq (n + n + 2) (1 - x * x) := (bq_sub bq_one (bq_mul h h)).mono (by omega)
theorem beat_cases {x : Rat} (sx : Sp x) : (∃ b, 0 < b ∧ b * b = 1 - x * x ∧ beatD x = fq b) ∨ (beatD x = .non ∧ ∀ y, y * y ≠ 1 - x * x) := by
  rcases rootD_cases (1 - x * x) with ⟨y, h0, e, h⟩ | h
  · refine .inl ⟨y, ?_, e, h⟩
    have := sp_low_sq sx
    rcases (by grind : y = 0 ∨ 0 < y) with z | z
    · subst z
      grind
    · exact z
  · exact .inr h
theorem numpos {q : Rat} : 0 < q.num ↔ 0 < q := by
  rw [Rat.lt_iff]
  have e1 : (0 : Rat).num = 0 := rfl
  have e2 : (0 : Rat).den = 1 := rfl
  rw [e1, e2]
  omega
end Z
namespace Z
open PySem PySem.Spec PyProof.Rows L2 HT
open Evl (Ex)
/-! ### t[::-1] of a tuple -/
/-! ### int(a truth) -/
def rIntB : List V → Hp → VK → Prop := fun xs H Q => (∃ i, xs = [.int i] ∧ Q (.int i) H) ∨ ∃ k, xs = [.bl k] ∧ Q (.int (if k then 1 else 0)) H
theorem cr_int {X : Cx} : CallR X (.type "int") rIntB := call_int1
theorem rc_intB {K : PySem.W.Frag} {b : Bool} : RcD K rIntB [.bl b] (.int (if b then 1 else 0)) := fun G H k vs r Q q => by
  obtain ⟨v, rfl, h⟩ := rps1 r
  cases h
  exact .inr ⟨b, rfl, q _ G H (.refl k) (.int _)⟩
/-! ### speeds: in any turn, orders -/
/-! ### plain ones together -/
theorem beatD_of {x b : Rat} (b0 : 0 < b) (e : b * b = 1 - x * x) : beatD x = fq b := by
  unfold beatD
  rw [rootD_some e, Rat.abs_of_nonneg (by grind)]
end Z
namespace Z
open PySem PySem.Spec PyProof.Rows L2
open Evl (Ex)
/-! ### bit_length, <<, a < b < c -/
theorem ev_chain {K : PySem.W.Frag} {sl : List Sl} {ta tb tc : TE} {r r' : R2} {x y z : Dt} {a b : Bool} (ha : Ev K ta sl x) (hb : Ev K tb sl y) (hr : R2D K r x y (.bl a)) (hc : a = true → Ev K tc sl z) (hr' : a = true → R2D K r' y z (.bl b)) : Ev K (tChain r r' ta tb tc) sl (.bl (a && b)) := fun G H σ k f Q q =>
  ha G H σ k f _ fun v G1 H1 n1 r1 => hb G1 H1 σ n1.k (FrD.mono n1.g f) _ fun w G2 H2 n2 r2 => hr G2 H2 n2.k v w (r1.mono n2.g) r2 _ fun u G3 H3 n3 r3 => by
    have n13 := (n1.trans n2).trans n3
    cases r3
    refine ⟨a, rfl, ?_⟩
    cases a with
    | true =>
      rw [if_pos rfl]
      exact hc rfl G3 H3 σ n3.k (FrD.mono n13.g f) _ fun t G4 H4 n4 r4 => hr' rfl G4 H4 n4.k w t (r2.mono (n3.g.trans n4.g)) r4 Q fun u G5 H5 n5 r5 => q u G5 H5 ((n13.trans n4).trans n5) r5
    | false => exact q _ G3 H3 n13 (.bl _)
/-! ### seats -/
def beatB : Dt → Bool
  | .tup [.int t, .int b] => !isNon (beatD ((t : Rat) / (b : Rat)))
  | _ => false
theorem beatB_fq (q : Rat) : beatB (fq q) = !isNon (beatD q) := by
  show (!isNon (beatD ((q.num : Rat) / (((q.den : Nat) : Int) : Rat)))) = _
  rw [fq_self]
def isSeatD : Dt → Bool
  | .tup [s, h] => isSpD s && beatB s && isHp h
  | _ => false
theorem isSeatD_len {ds : List Dt} (h : ds.length ≠ 2) : isSeatD (.tup ds) = false := by
  unfold isSeatD
  split
  · rename_i t b e
    injection e with e
    rw [e] at h
    exact absurd rfl h
  · rfl
theorem isSeatD_no {x : Dt} (h : ¬ ∃ ds, x = .tup ds) : isSeatD x = false := by
  cases x <;> first | rfl | exact absurd ⟨_, rfl⟩ h
/-- sizes for which a thing may be asked whether it is a seat -/
def SzS (x : Dt) : Prop := ∀ s h, x = .tup [s, h] → Sz s ∧ Sz2 h ∧ ∀ q, s = fq q → Bq 1000 q
/-! sizes of what is bent -/
def SzP (a : Dt) : Prop := Sz a ∧ ∀ q, a = fq q → Bq 1000 q
theorem szS_p {a b : Dt} (ha : SzP a) (hb : Sz2 b) : SzS (.tup [a, b]) := fun s h e => by
  cases e
  exact ⟨ha.1, hb, ha.2⟩
theorem szP_ii {t b : Int} (ht : Bt 1000 t) (hb : Bt 1000 b) : SzP (.tup [.int t, .int b]) := ⟨(sz2_ii (hb.mono (by decide))).1, fun q e => by
  injection e with e
  injection e with e1 e2
  injection e2 with e2 _
  injection e1 with e1
  injection e2 with e2
  exact ⟨e1 ▸ ht, e2 ▸ hb⟩⟩
theorem szP_fq {q : Rat} (h : Bq 1000 q) : SzP (fq q) := szP_ii h.1 h.2
theorem sz2_hap {t p : Rat} (h1 : Bq 1000 t) (h2 : Bq 1000 p) : Sz2 (.tup [fq t, fq p]) := sz2_p (fun a b e => by cases e) (sz_fq (h1.2.mono (by decide))) (sz_fq (h2.2.mono (by decide)))
end Z
namespace Z
open PySem PySem.Spec PyProof.Rows L2 RZ
open Evl (Ex)
/-! ### [.. for a, b in zip(t, u)] -/
/-! ### a def that calls itself -/
theorem Dd.nil {P : Program} {w : World} {K : PySem.W.Frag} {mg : Str → Option Value} {base : Heap} {x : Str} {st : Stmt} {ps : List Str} {k : Nat} (D : Dd K mg x st ps) (S : True) {R : List Dt → Dt → Prop} (h : ∀ ds d, ¬ R ds d) : Has P w K mg base CX0 k x ps (spP K R) := by
  obtain ⟨f, fd, F, hm, b⟩ := D.ex
  have no : ∀ {vs H Q E}, spP K R vs H Q E → False := fun hs => by
    obtain ⟨ds, x, G, _, _, hR, _⟩ := hs
    exact h ds x hR
  exact ⟨f, fd, ⟨fun _ _ _ _ hs => (no hs).elim, fun A outer s H args us vs Q E hr he hb hv hs => (no hs).elim⟩, hm, F.kp, b⟩
/-! ### what a seat of speed v, beat b at (t0, p0) tells of (t, p), and back -/
def seatD (v t p : Rat) : Dt := .tup [fq v, .tup [fq t, fq p]]
def hapD (t p : Rat) : Dt := .tup [fq t, fq p]
def tlT (v b t0 p0 t p : Rat) : Rat := ((t - t0) - v * (p - p0)) / b
def tlP (v b t0 p0 t p : Rat) : Rat := ((p - p0) - v * (t - t0)) / b
/-- a plain speed with its beat -/
structure Pl (v b : Rat) : Prop where
  s : Sp v
  p : 0 < b
  e : b * b = 1 - v * v
theorem Pl.ne {v b : Rat} (h : Pl v b) : b ≠ 0 := by
  have := h.p
  grind
theorem Pl.beat {v b : Rat} (h : Pl v b) : beatD v = fq b := beatD_of h.p h.e
theorem Pl.bq {v b : Rat} (h : Pl v b) {n : Nat} (hv : Bq n v) : Bq (n + n + 2) b := bq_root h.e (bq_low hv)
/-- told, back: the law's -/
def R_toldS (ds : List Dt) (d : Dt) : Prop := ∃ v b t0 p0 t p : Rat, ds = [seatD v t0 p0, hapD t p] ∧ Pl v b ∧ Bq 400 v ∧ Bq 400 t0 ∧ Bq 400 p0 ∧ Bq 400 t ∧ Bq 400 p ∧ d = hapD (tlT v b t0 p0 t p) (tlP v b t0 p0 t p)
end Z
namespace Z
open PySem PySem.Spec PyProof.Rows L2 RZ
open Evl (Ex)
/-! ### names of the top for a number, a text, a tuple of two numbers -/
theorem pe_globX {X : Cx} {x : Str} {v : V} {pos : Pos} (hg : Gl X x) (h : ∃ u, X.mg x = some u ∧ RelV v u) (hd : (x == ("__debug__" : Str)) = false := by decide) : PE X (.Name x pos) (tC v) := by
  obtain ⟨u, hm, r⟩ := h
  exact pe_glob hg hm r hd
theorem ev_ii {K : PySem.W.Frag} {sl : List Sl} {a : Addr} {i j : Int} (h : ∀ H, SqX K H a [.int i, .int j]) : Ev K (tC (.ref a)) sl (.tup [.int i, .int j]) := fun G H σ k f Q q => q _ G H (.refl k) (.tup (h G) (.cons (.int i) (.cons (.int j) .nil)))
/-! ### a def that may raise, whose pieces all carry the wish E -/
/-- what raises c -/
def EvX (K : PySem.W.Frag) (te : XK → TE) (sl : List Sl) (c : Value) : Prop := ∀ (G H : Hp) (σ : L2.St), Ex G H → FrD K G σ sl → ∀ (E : XK) (Q : VK), (∀ G2 H2, Nx G H G2 H2 → E c none H2) → te E σ H Q
def EvXT (K : PySem.W.Frag) (te : XK → TT) (sl : List Sl) (c : Value) : Prop := ∀ (G H : Hp) (σ : L2.St), Ex G H → FrD K G σ sl → ∀ (E : XK) (Q : Bool → Hp → Prop), (∀ G2 H2, Nx G H G2 H2 → E c none H2) → te E σ H Q
section
variable {K : PySem.W.Frag} {sl sl1 sl2 : List Sl} {c : Value} {t u : XK → TS} {x : Option Dt} {d : Dt} {b : Bool} {xs : List Dt}
theorem rx_no1E {tc : XK → TT} {s : XK → TS} (h : ∀ E, EvT K (tc E) sl b) (e : b = false) : Rx K (fun E => tIfS (tc E) (s E) tNext) sl (some .non) c := fun G H σ k f D E q1 q2 q3 => by
  subst e
  exact h E G H σ k f _ fun G1 H1 n1 => q2 rfl σ G1 H1 n1
theorem rx_raise1E {C : Addr} {tc : XK → TT} (h : ∀ E, EvT K (tc E) sl b) (e : b = true) : Rx K (fun E => tIfS (tc E) (tRs C E) tNext) sl none (.ref C) := fun G H σ k f D E q1 q2 q3 => by
  subst e
  exact h E G H σ k f _ fun G1 H1 n1 => q3 rfl G1 H1 n1
theorem evx_call {R : List Dt → Dt → Prop} {XF : List Dt → Value → Prop} {ta : XK → TA} (h : ∀ E, EvA K (ta E) sl xs) (hx : XF xs c) : EvX K (fun E => tCall (spX K R XF) [] E (ta E)) sl c := fun G H σ k f E Q q =>
  h E G H σ k f _ fun vs G1 H1 n1 r1 => ⟨xs, G1, n1.k, rps_nil r1, .inr ⟨c, hx, fun G2 H2 n2 => q G2 H2 (n1.trans n2)⟩⟩
theorem evxt_notB {ta : XK → TE} (h : EvX K ta sl c) : EvXT K (fun E => tNot (tB (ta E))) sl c := fun G H σ k f E Q q => h G H σ k f E _ q
theorem rx_if1X {tc : XK → TT} {s : XK → TS} (h : EvXT K tc sl c) : Rx K (fun E => tIfS (tc E) (s E) tNext) sl none c := fun G H σ k f D E q1 q2 q3 => h G H σ k f E _ (q3 rfl)
end
/-! ### a plain speed between two -/
end Z
namespace Z
open PySem PySem.Spec PyProof.Rows L2 RZ
open Evl (Ex)
/-! ### the same data, compared -/
mutual
theorem eqv_self : ∀ {d : Dt} {p : PyData}, py d = some p → PyData.eqv p p = true
  | .non, _, e => by cases e; simp only [PyData.eqv]
  | .bl b, _, e => by cases e; simp [PyData.eqv]
  | .int i, _, e => by cases e; simp [PyData.eqv]
  | .str x, _, e => by cases e; simp [PyData.eqv]
  | .tup ds, _, e => by
    cases q : pys ds with
    | none => simp only [py, q] at e; cases e
    | some xs =>
      simp only [py, q] at e
      cases e
      have := eqvs_self q
      simpa only [PyData.eqv] using this
  | .lst ds, _, e => by
    cases q : pys ds with
    | none => simp only [py, q] at e; cases e
    | some xs =>
      simp only [py, q] at e
      cases e
      have := eqvs_self q
      simpa only [PyData.eqv] using this
  | .dct, _, e => by simp only [py] at e; cases e
theorem eqvs_self : ∀ {ds : List Dt} {xs : List PyData}, pys ds = some xs → PyData.eqvAll xs xs = true
  | [], _, e => by cases e; simp only [PyData.eqvAll]
  | d :: ds, _, e => by
    cases q : py d with
    | none => simp only [pys, q] at e; cases e
    | some x =>
      cases q2 : pys ds with
      | none => simp only [pys, q, q2] at e; cases e
      | some xs =>
        simp only [pys, q, q2] at e
        cases e
        simp only [PyData.eqvAll, Bool.and_eq_true]
        exact ⟨eqv_self q, eqvs_self q2⟩
end
theorem r2_neSelf {K : PySem.W.Frag} {x y : Dt} {p : PyData} (e : x = y) (h : py x = some p) (s : SeqAt.shaped p = true) : R2D K (rNeD K) x y (.bl false) := by
  subst e
  have := r2_ne (K := K) h h s s
  rwa [eqv_self h] at this
theorem py_hap (t p : Rat) : py (hapD t p) = some (.tuple [.tuple [.int t.num, .int (t.den : Int)], .tuple [.int p.num, .int (p.den : Int)]]) := by
  simp only [hapD, fq, py, pys]
theorem sh_hap (a b c d : Int) : SeqAt.shaped (.tuple [.tuple [.int a, .int b], .tuple [.int c, .int d]]) = true := by rfl
/-! ### what is a seat -/
theorem isHp_hap (t p : Rat) : isHp (hapD t p) = true := by
  show (isFr (fq t) && isFr (fq p)) = true
  rw [isFr_fq, isFr_fq]
  rfl
theorem seat_is {v b : Rat} (h : Pl v b) (t p : Rat) : isSeatD (seatD v t p) = true := by
  show (isSpD (fq v) && beatB (fq v) && isHp (hapD t p)) = true
  rw [isSpD_of h.s, beatB_fq, h.beat, isHp_hap]
  rfl
theorem seat_sz {v t p : Rat} (h0 : Bq 1000 v) (h1 : Bq 1000 t) (h2 : Bq 1000 p) : SzS (seatD v t p) := szS_p (szP_fq h0) (sz2_hap h1 h2)
/-! ### sizes of what is told -/
theorem toldS_ok {v b t0 p0 t p : Rat} (h : Pl v b) (h1 : Bq 400 v) (h2 : Bq 400 t0) (h3 : Bq 400 p0) (h4 : Bq 400 t) (h5 : Bq 400 p) : R_toldS [seatD v t0 p0, hapD t p] (hapD (tlT v b t0 p0 t p) (tlP v b t0 p0 t p)) := ⟨v, b, t0, p0, t, p, rfl, h, h1, h2, h3, h4, h5, rfl⟩
/-! ### clocks, places, meetings -/
def R_seen (ds : List Dt) (d : Dt) : Prop := ∃ v b l g : Rat, ds = [fq v, fq l, fq g] ∧ Pl v b ∧ Bq 400 v ∧ Bq 801 l ∧ Bq 801 g ∧ d = hapD ((l - v * g) / b) ((g - v * l) / b)
/-! ### slices of a tuple -/
/-! ### seats of seats -/
end Z
namespace Z
open PySem PySem.Spec PyProof.Rows L2 RZ
open Evl (Ex)
/-! ### a, b, c = a tuple of three; a loop that draws, then the rest -/
section
variable {K : PySem.W.Frag} {sl sl1 sl2 : List Sl} {te : TE} {tc : TT} {x y z : Dt} {t u : TS} {ps : List Addr} {N : List Sl → Prop} {R : Dt → Prop}
theorem ir_ip (h : Ip K t sl ps N) (k : ∀ s, N s → Ir K u s ps R) : Ir K (tSeq t u) sl ps R := fun G H σ e f m D q =>
  h G H σ e f m _ fun σ1 s1 G1 H1 hn n1 m1 f1 => k s1 hn G1 H1 σ1 n1.k f1 m1 D fun v x G2 H2 hr n2 m2 r2 => q v x G2 H2 hr (n1.trans n2) m2 r2
end
theorem fq_inj {x y : Rat} (e : fq x = fq y) : x = y := by
  injection e with e
  injection e with e1 e2
  injection e1 with e1
  injection e2 with e2 _
  injection e2 with e2
  exact Rat.ext e1 (by omega)
/-! ### try: what is done, what is told of it -/
inductive Oc where
  | ret (d : Dt)
  | go
  | out (c : Value)
section
variable {K : PySem.W.Frag} {sl : List Sl} {te : WX → TE} {tc : TT} {t u : WX → TS} {d : Dt} {c : Value} {o : Oc} {b : Bool} {xs : List Dt} {R : List Dt → Dt → Prop} {XF : List Dt → Value → Prop} {ta : TA} {ti : TE} {j : Nat} {fs : List Addr} {f : Addr} {menu : List (Addr × L2.Sp)}
/-- the statement try, its body's reading apart -/
def tTry (K : PySem.W.Frag) (M : Value) (i : Nat) (ts : Addr → Value → Option Addr → TS) (Wo : WX) (tb : WX → TS) : TS := fun D σ H => tb (wAs K M i ts Wo D) D σ H
theorem tryT {X : Cx} {st : Stmt} {tb : WX → TS} {c : Value} {i : Nat} {ts : Addr → Value → Option Addr → TS} {Wout : WX} (eK : X.K = K) (h : PS X st (fun D σ H => tb (wAs X.K c i ts Wout D) D σ H)) : PS X st (tTry K c i ts Wout tb) := eK ▸ h
end
theorem isNon_iff {d : Dt} (h : isNon d = true) : d = .non := by
  cases d <;> first | rfl | cases h
/-! ### rods and gates -/
/-! what the program and the suite say of rods -/
end Z
namespace Z
open PySem PySem.Spec PyProof.Rows L2 RZ
open Evl (Ex)
/-! ### the loop over the cells, other names ahead of it -/
/-! ### haps compared; what one hap is to another -/
theorem r2_eqH {K : PySem.W.Frag} {a b c d : Rat} : R2D K (rEqD K) (hapD a b) (hapD c d) (.bl (decide (a = c ∧ b = d))) := by
  have := r2_eq (K := K) (py_hap a b) (py_hap c d) (sh_hap _ _ _ _) (sh_hap _ _ _ _)
  have e : PyData.eqv (.tuple [.tuple [.int a.num, .int (a.den : Int)], .tuple [.int b.num, .int (b.den : Int)]]) (.tuple [.tuple [.int c.num, .int (c.den : Int)], .tuple [.int d.num, .int (d.den : Int)]]) = decide (a = c ∧ b = d) := by
    have h1 := eqv_fq a c
    have h2 := eqv_fq b d
    have : PyData.eqv (.tuple [.tuple [.int a.num, .int (a.den : Int)], .tuple [.int b.num, .int (b.den : Int)]]) (.tuple [.tuple [.int c.num, .int (c.den : Int)], .tuple [.int d.num, .int (d.den : Int)]]) = (PyData.eqv (.tuple [.int a.num, .int (a.den : Int)]) (.tuple [.int c.num, .int (c.den : Int)]) && (PyData.eqv (.tuple [.int b.num, .int (b.den : Int)]) (.tuple [.int d.num, .int (d.den : Int)]) && true)) := by
      simp only [PyData.eqv, PyData.eqvAll]
    rw [this, h1, h2, Bool.and_true, Bool.decide_and]
  rwa [e] at this
theorem bq_abs {n : Nat} {q : Rat} (h : Bq n q) : Bq n q.abs := by
  obtain ⟨e1, e2⟩ := abs_parts q
  refine ⟨?_, ?_⟩
  · show Int.natAbs q.abs.num < 2 ^ n
    rw [e1, Int.natAbs_natCast]
    exact h.1
  · show Int.natAbs (q.abs.den : Int) < 2 ^ n
    rw [e2]
    exact h.2
def wordS (l g : Rat) : Str := if l = 0 ∧ g = 0 then "same" else if ¬ l < g.abs then "later" else if ¬ -l < g.abs then "earlier" else "beside"
theorem beside_iff {l g : Rat} : (wordS l g == "beside") = decide (l.abs < g.abs) := by
  have hl := Rat.abs_of_nonneg (x := l)
  have hl2 := Rat.abs_of_nonpos (x := l)
  unfold wordS
  by_cases h0 : l = 0 ∧ g = 0
  · rw [if_pos h0, h0.1, h0.2]
    decide +kernel
  · rw [if_neg h0]
    by_cases h1 : l < g.abs
    · rw [if_neg (not_not_intro h1)]
      by_cases h2 : -l < g.abs
      · rw [if_neg (not_not_intro h2)]
        have : l.abs < g.abs := by
          rcases (by grind : 0 ≤ l ∨ l ≤ 0) with z | z
          · rwa [hl z]
          · rwa [hl2 z]
        rw [decide_eq_true this]
        decide +kernel
      · rw [if_pos h2]
        have : ¬ l.abs < g.abs := by
          rcases (by grind : 0 ≤ l ∨ l ≤ 0) with z | z
          · have := Rat.abs_nonneg (x := g)
            rw [hl z]
            grind
          · rwa [hl2 z]
        rw [decide_eq_false this]
        decide +kernel
    · rw [if_pos h1]
      have : ¬ l.abs < g.abs := by
        rcases (by grind : 0 ≤ l ∨ l ≤ 0) with z | z
        · rwa [hl z]
        · have := Rat.abs_nonneg (x := g)
          rw [hl2 z]
          grind
      rw [decide_eq_false this]
      decide +kernel
def R_lag (ds : List Dt) (d : Dt) : Prop := ∃ a b c e : Rat, ds = [hapD a b, hapD c e] ∧ Bq 1000 a ∧ Bq 1000 b ∧ Bq 1000 c ∧ Bq 1000 e ∧ d = hapD (c - a) (e - b)
def R_kind (ds : List Dt) (d : Dt) : Prop := ∃ a b c e : Rat, ds = [hapD a b, hapD c e] ∧ Bq 1000 a ∧ Bq 1000 b ∧ Bq 1000 c ∧ Bq 1000 e ∧ d = .str (wordS (c - a) (e - b))
/-- the word by numbers multiplied across -/
theorem word_cross {l g : Rat} : decide (((l.num * (g.den : Int)).natAbs : Int) < ((g.num * (l.den : Int)).natAbs : Int)) = decide (l.abs < g.abs) := by
  have h := q_lt l.abs g.abs
  obtain ⟨e1, e2⟩ := abs_parts l
  obtain ⟨e3, e4⟩ := abs_parts g
  rw [e1, e2, e3, e4] at h
  rw [← h, Int.natAbs_mul, Int.natAbs_mul, Int.natAbs_natCast, Int.natAbs_natCast, Int.natCast_mul, Int.natCast_mul]
theorem word_else {l g : Rat} (h0 : ¬ (l = 0 ∧ g = 0)) (h : ¬ l.abs < g.abs) : wordS l g = if 0 < l then ("later" : Str) else ("earlier" : Str) := by
  have hl := Rat.abs_of_nonneg (x := l)
  have hl2 := Rat.abs_of_nonpos (x := l)
  have hg := Rat.abs_nonneg (x := g)
  unfold wordS
  rw [if_neg h0]
  by_cases z : 0 < l
  · rw [if_pos z]
    rw [hl (by grind)] at h
    rw [if_pos h]
  · rw [if_neg z]
    rw [hl2 (by grind)] at h
    have lt : l < g.abs := by
      rcases (by grind : l < 0 ∨ l = 0) with y | y
      · grind
      · have gn : g ≠ 0 := fun e => h0 ⟨y, e⟩
        have : 0 < g.abs := by
          rcases (by grind : 0 < g.abs ∨ g.abs = 0) with x | x
          · exact x
          · exfalso
            have e := congrArg Rat.num x
            rw [(abs_parts g).1] at e
            have : g.num = 0 := by
              have : (g.num.natAbs : Int) = 0 := e
              omega
            exact gn (Rat.num_eq_zero.mp this)
        grind
    rw [if_neg (not_not_intro lt), if_pos h]
end Z
namespace Z
open PySem PySem.Spec PyProof.Rows L2 RZ
open Evl (Ex)
/-! ### a list that is made here and grows, p; frozen when it is handed on -/
theorem nmem {c p : Addr} {ps : List Addr} (hc : c ∈ ps) (hp : p ∉ ps) : c ≠ p := fun z => hp (by rw [← z]; exact hc)
structure NxL (p : Addr) (ps : List Addr) (G H G2 H2 : Hp) : Prop where
  g : Ex G G2
  k : Ex G2 H2
  h : ∀ a o, a ∉ p :: ps → H a = some o → H2 a = some o
  t : ∀ a, H a ≠ none → H2 a ≠ none
  f : ∀ a, a ≠ p → G a = none → H a ≠ none → G2 a = none
theorem NxL.trans {p : Addr} {ps : List Addr} {G H G2 H2 G3 H3 : Hp} (a : NxL p ps G H G2 H2) (b : NxL p ps G2 H2 G3 H3) : NxL p ps G H G3 H3 :=
  ⟨a.g.trans b.g, b.k, fun x o hx e => b.h x o hx (a.h x o hx e), fun x h => b.t x (a.t x h), fun x hx h1 h2 => b.f x hx (a.f x hx h1 h2) (a.t x h2)⟩
def Ls (K : PySem.W.Frag) (p : Addr) (ds : List Dt) (G H : Hp) : Prop := G p = none ∧ ∃ vs, H p = some (.lst vs) ∧ Rps K G vs ds
theorem Ls.nx {K : PySem.W.Frag} {p : Addr} {ds : List Dt} {G H G2 H2 : Hp} (m : Ls K p ds G H) (n : Nx G H G2 H2) : Ls K p ds G2 H2 := by
  obtain ⟨g, vs, h, r⟩ := m
  exact ⟨n.f p g (by rw [h]; intro z; cases z), vs, n.h p _ h, r.mono n.g⟩
section
variable {K : PySem.W.Frag} {sl sl1 : List Sl} {s t u : TS} {ps : List Addr} {p : Addr} {ds : List Dt} {d x : Dt} {N : List Sl → List Dt → Prop} {M : List Sl → Prop} {ta : TA} {i : Nat}
theorem fz {G H : Hp} (e : Ex G H) (l : Ls K p ds G H) (m : Pots ps G H) (hp : p ∉ ps) : ∃ G2, NxL p ps G H G2 H ∧ Rp K G2 (.ref p) (.lst ds) ∧ Pots ps G2 H := by
  obtain ⟨lg, vs, lh, lr⟩ := l
  refine ⟨upd G p (.lst vs), ⟨Ex.new lg, fun b o e1 => ?_, fun b o _ e1 => e1, fun b hb => hb, fun b hb h1 h2 => ?_⟩, .lst (.inl (.inl upd_same)) (lr.mono (Ex.new lg)), fun c hc => ?_⟩
  · by_cases z : b = p
    · subst z
      rw [upd_same] at e1
      rw [lh]
      exact e1
    · rw [upd_ne z] at e1
      exact e b o e1
  · rw [upd_ne hb]
    exact h1
  · obtain ⟨a1, n, a2⟩ := m c hc
    exact ⟨by rw [upd_ne (nmem hc hp)]; exact a1, n, a2⟩
end
/-! ### a < b < c, tested -/
theorem et_chain {K : PySem.W.Frag} {sl : List Sl} {ta tb tc : TE} {r r' : R2} {x y z : Dt} {a b : Bool} (ha : Ev K ta sl x) (hb : Ev K tb sl y) (hr : R2D K r x y (.bl a)) (hc : a = true → Ev K tc sl z) (hr' : a = true → R2D K r' y z (.bl b)) : EvT K (tTest (tChain r r' ta tb tc)) sl (a && b) := et_test (ev_chain ha hb hr hc hr')
end Z
namespace Z
open PySem PySem.Spec PyProof.Rows L2 RZ
/-- what a set holds once the first i were handed to it -/
structure Met (ks : List (Addr × NestedKey)) (i : Nat) (L : List (Addr × NestedKey)) : Prop where
  from' : ∀ p ∈ L, p ∈ ks.take i
  each : ∀ p ∈ ks.take i, p.2 ∈ L.map (·.2)
  le : L.length ≤ i
theorem take_snoc {α : Type} {l : List α} {i : Nat} {x : α} (h : l[i]? = some x) : l.take (i + 1) = l.take i ++ [x] := by
  rw [List.take_succ, h, Option.toList_some]
theorem Met.new {ks L M : List (Addr × NestedKey)} {i : Nat} {x : Addr × NestedKey} (g : Met ks i L) (h : ks[i]? = some x) (pm : M.Perm (x :: L)) : Met ks (i + 1) M where
  from' p hp := by
    rw [take_snoc h, List.mem_append, List.mem_singleton]
    rcases List.mem_cons.mp (pm.mem_iff.mp hp) with z | z
    · exact .inr z
    · exact .inl (g.from' p z)
  each p hp := by
    rw [(pm.map (·.2)).mem_iff, List.map_cons, List.mem_cons]
    rw [take_snoc h, List.mem_append, List.mem_singleton] at hp
    rcases hp with z | z
    · exact .inr (g.each p z)
    · rw [z]; exact .inl rfl
  le := by rw [pm.length_eq, List.length_cons]; exact Nat.succ_le_succ g.le
end Z
namespace Z
open PySem PySem.Spec PyProof.Rows L2 RZ
open Evl (Ex)
/-! ### comprehensions over enumerate(list), with a test -/
/-- a list of haps, as data -/
def hapsD (ts : List (Rat × Rat)) : Dt := .lst (ts.map fun p => hapD p.1 p.2)
end Z
namespace Z
open PySem PySem.Spec PyProof.Rows L2 RZ
open Evl (Ex)
/-! ### what seats tell, wider -/
/-! ### flashes -/
def hf : Rat := ⟨1, 2, by decide, by decide⟩
/-! ### beats -/
/-! ### the stretch of two seats -/
/-! ### bounces -/
end Z
namespace Z
open PySem PySem.Spec PyProof.Rows L2 RZ
open Evl (Ex)
/-! ### zip of two lists -/
/-! ### data with lists, so deep -/
section
variable {K : PySem.W.Frag} {sl : List Sl} {ps : List Addr} {B : Bool → Prop} {tt uu : TT} {t : TS} {N : List Sl → Prop}
theorem ip_ifP (h : EpT K tt sl ps fun b => (b = true → Ip K t sl ps N) ∧ (b = false → N sl)) : Ip K (tIfS tt t tNext) sl ps N := fun G H σ e f m D q => h G H σ e f m _ fun b G1 H1 hb n1 m1 => by
  cases b with
  | true =>
    show t D σ H1
    exact hb.1 rfl G1 H1 σ n1.k (FrD.mono n1.g f) m1 D fun σ2 sl2 G2 H2 h2 n2 m2 f2 => q σ2 sl2 G2 H2 h2 (n1.trans n2) m2 f2
  | false => exact q σ sl G1 H1 (hb.2 rfl) n1 m1 (FrD.mono n1.g f)
end
/-! ### a new list is handed back -/
end Z
namespace Z
open PySem PySem.Spec PyProof.Rows L2 RZ
open Evl (Ex)
/-! ### in, not in; comprehensions over a list, with a test -/
theorem inK {X : Cx} {K : PySem.W.Frag} {k : Nat} (eK : X.K = K) (hr : Room k X.A) : OpR X (compareOp .In) (rInD K) := eK ▸ op_inD (by have := hr.un; omega)
theorem sh_list : ∀ {ps : List PyData}, (∀ p ∈ ps, p.canLay0 = true ∧ p.depth ≤ 8) → PyData.canLayAll0 ps = true ∧ PyData.depthAll ps ≤ 8
  | [], _ => ⟨rfl, Nat.zero_le _⟩
  | p :: ps, h => by
    obtain ⟨a, b⟩ := h p List.mem_cons_self
    obtain ⟨c, d⟩ := sh_list fun q m => h q (List.mem_cons_of_mem _ m)
    exact ⟨by rw [PyData.canLayAll0, a, c]; rfl, by rw [PyData.depthAll]; omega⟩
theorem sh_lst {ps : List PyData} (h : ∀ p ∈ ps, p.canLay0 = true ∧ p.depth ≤ 8) : SeqAt.shaped (.list ps) = true := by
  obtain ⟨a, b⟩ := sh_list h
  unfold SeqAt.shaped
  rw [Bool.and_eq_true, decide_eq_true_eq, PyData.canLay0, PyData.depth]
  exact ⟨a, by omega⟩
/-! ### lists of unlike haps, and what each can reach -/
theorem atI_k {α : Type} (ds : List α) {k : Nat} (h : k < ds.length) : atI ds (k : Nat) = ds[k]? := by
  unfold atI ixN
  rw [if_pos (by omega), if_pos (by omega), Int.toNat_natCast, Option.bind_some]
end Z
namespace Z
open PySem PySem.Spec PyProof.Rows L2 RZ
open Evl (Ex)
/-! ### lists that grow by draws -/
/-! ### a hap, in or not in a list of haps -/
def hapP (p : Rat × Rat) : PyData := .tuple [.tuple [.int p.1.num, .int (p.1.den : Int)], .tuple [.int p.2.num, .int (p.2.den : Int)]]
theorem pys_haps : ∀ ts : List (Rat × Rat), pys (ts.map fun p => hapD p.1 p.2) = some (ts.map hapP)
  | [] => rfl
  | p :: ts => by
    rw [List.map_cons, pys, pys_haps ts]
    rfl
end Z
namespace Z
open PySem PySem.Spec PyProof.Rows L2 RZ
open Evl (Ex)
/-! ### several lists that a def makes and changes: os; all else is frozen -/
abbrev Os := List (Addr × List Dt)
def Ow (K : PySem.W.Frag) (os : Os) (G H : Hp) : Prop := ∀ x ∈ os, Ls K x.1 x.2 G H
def Dj (ps : List Addr) (os : Os) : Prop := (os.map Prod.fst).Nodup ∧ ∀ x ∈ os, x.1 ∉ ps
structure St0 (K : PySem.W.Frag) (ps : List Addr) (sl : List Sl) (os : Os) (G H : Hp) (σ : L2.St) : Prop where
  k : Ex G H
  f : FrD K G σ sl
  m : Pots ps G H
  o : Ow K os G H
  d : Dj ps os
structure Stp (ps : List Addr) (os : Os) (G H : Hp) (os2 : Os) (G2 H2 : Hp) : Prop where
  g : Ex G G2
  h : ∀ a o, a ∉ ps → (∀ x ∈ os, x.1 ≠ a) → H a = some o → H2 a = some o
  t : ∀ a, H a ≠ none → H2 a ≠ none
  f : ∀ a, a ∉ ps → (∀ x ∈ os, x.1 ≠ a) → G a = none → H a ≠ none → G2 a = none
  n : ∀ x ∈ os2, (∃ y ∈ os, y.1 = x.1) ∨ H x.1 = none
theorem some_ne {α : Type} {o : Option α} {x : α} (h : o = some x) : o ≠ none := by
  rw [h]
  intro z
  cases z
theorem Stp.trans {ps : List Addr} {os os1 os2 : Os} {G H G1 H1 G2 H2 : Hp} (a : Stp ps os G H os1 G1 H1) (b : Stp ps os1 G1 H1 os2 G2 H2) : Stp ps os G H os2 G2 H2 := by
  have ne : ∀ c, (∀ x ∈ os, x.1 ≠ c) → H c ≠ none → ∀ x ∈ os1, x.1 ≠ c := fun c hc hh x hx e => by
    rcases a.n x hx with ⟨y, hy, ey⟩ | hn
    · exact hc y hy (ey.trans e)
    · exact hh (e ▸ hn)
  refine ⟨a.g.trans b.g, fun c o h1 h2 e => b.h c o h1 (ne c h2 (some_ne e)) (a.h c o h1 h2 e), fun c h => b.t c (a.t c h), fun c h1 h2 h3 h4 => b.f c h1 (ne c h2 h4) (a.f c h1 h2 h3 h4) (a.t c h4), fun x hx => ?_⟩
  rcases b.n x hx with ⟨y, hy, ey⟩ | hn
  · rw [← ey]
    exact a.n y hy
  · refine .inr ?_
    cases z : H x.1 with
    | none => rfl
    | some o => exact absurd hn (a.t _ (some_ne z))
theorem Stp.refl {ps : List Addr} {os : Os} {G H : Hp} : Stp ps os G H os G H := ⟨Ex.refl _, fun _ _ _ _ e => e, fun _ h => h, fun _ _ _ h _ => h, fun x hx => .inl ⟨x, hx, rfl⟩⟩
theorem Ow.nx {K : PySem.W.Frag} {os : Os} {G H G2 H2 : Hp} (m : Ow K os G H) (n : Nx G H G2 H2) : Ow K os G2 H2 := fun x hx => (m x hx).nx n
/-! what the slots show while nothing is changed -/
section
variable {K : PySem.W.Frag} {sl sl1 : List Sl} {s t u : TS} {ps : List Addr} {os : Os} {p : Addr} {ds es xs : List Dt} {d x : Dt} {N N1 : List Sl → Os → Prop} {M : List Sl → Prop} {R : Dt → Prop} {ta : TA} {te tl : TE} {tc : TT} {i j k : Nat} {vs : List (Nat × Addr × List Dt)} {G H : Hp} {σ : L2.St}
/-! the rules -/
theorem St0.nx (a : St0 K ps sl os G H σ) {G1 H1 : Hp} {σ1 : L2.St} (n : Nx G H G1 H1) (f : FrD K G1 σ1 sl1) : St0 K ps sl1 os G1 H1 σ1 := ⟨n.k, f, a.m.nx n, a.o.nx n, a.d⟩
/-! a list is written to -/
variable {rm : V → List V → Hp → VK → Prop} {as ds' : List Dt}
theorem Rps.set {K : PySem.W.Frag} {G : Hp} {v : V} {d : Dt} (h : Rp K G v d) : ∀ {ws : List V} {es : List Dt} (m : Nat), Rps K G ws es → Rps K G (ws.set m v) (es.set m d)
  | _, _, 0, .cons _ r => .cons h r
  | _, _, m + 1, .cons a r => .cons a (Rps.set h m r)
  | _, _, 0, .nil => .nil
  | _, _, m + 1, .nil => .nil
/-! loops -/
/-! out of it -/
end
end Z
namespace Z
open PySem PySem.Spec PyProof.Rows L2 RZ
open Evl (Ex)
/-! ### lists of ints -/
/-! ### how many steps: the height of a hap -/
def rch (ts : List (Rat × Rat)) (i j : Nat) : Bool := wordS ((ts.getD j (0, 0)).1 - (ts.getD i (0, 0)).1) ((ts.getD j (0, 0)).2 - (ts.getD i (0, 0)).2) == "later"
def preds (ts : List (Rat × Rat)) (j : Nat) : List Nat := (List.range ts.length).filter fun i => rch ts i j
def mx (l : List Nat) : Nat := l.foldr max 0
def hS (ts : List (Rat × Rat)) : Nat → Nat → Nat
  | 0, _ => 0
  | k + 1, j => 1 + mx ((preds ts j).map (hS ts k))
end Z
namespace Z
open PySem PySem.Spec PyProof.Rows L2 RZ
open Evl (Ex)
theorem py_hapsD (ts : List (Rat × Rat)) : ∃ p, py (hapsD ts) = some p ∧ SeqAt.shaped p = true := ⟨_, by unfold hapsD; rw [py, pys_haps], sh_lst fun d m => by
  obtain ⟨o, _, rfl⟩ := List.mem_map.mp m
  exact ⟨rfl, by simp [hapP, PyData.depth, PyData.depthAll]⟩⟩
/-! ### what are no haps -/
end Z
namespace Z
open PySem PySem.Spec PyProof.Rows L2 RZ
open Evl (Ex)
/-- each two places, the lesser first -/
def prs (n : Nat) : List (Nat × Nat) := ((List.range n).map fun i => ((List.range n).filter fun j => decide (i < j)).map fun j => (i, j)).flatten
/-! ### turns: the even speeds of all pairs -/
end Z
namespace Z
open PySem PySem.Spec PyProof.Rows L2 RZ
/-! ### the paper of an order -/
def HapsB (ts : List (Rat × Rat)) : Prop := ts.length ≤ 8 ∧ ∀ p ∈ ts, Bq 90 p.1 ∧ Bq 12 p.2
end Z
namespace Z
open PySem PySem.Spec PyProof.Rows L2 RZ
/-! ### sizes of bounds: times are far off but halves -/
def HapsH (ts : List (Rat × Rat)) : Prop := ts.length ≤ 8 ∧ ∀ p ∈ ts, Bq 90 p.1 ∧ Bq 4 p.2 ∧ p.1.den ≤ 2
theorem HapsH.b {ts : List (Rat × Rat)} (h : HapsH ts) : HapsB ts := ⟨h.1, fun p m => ⟨(h.2 p m).1, (h.2 p m).2.1.mono (by decide)⟩⟩
/-! ### the lowest and the highest speed -/
end Z
namespace Z
open PySem PySem.Spec PyProof.Rows L2 RZ
theorem den_le {t b : Int} (h : b ≠ 0) : ((t : Rat) / (b : Rat)).den ≤ b.natAbs := by
  rw [← Rat.divInt_eq_div, Rat.den_divInt, if_neg h]
  exact Nat.div_le_self _ _
end Z
namespace Z
open PySem PySem.Spec PyProof.Rows L2 RZ
open Evl (Ex)
/-! ### comprehensions whose items are drawn -/
theorem atI_end {α : Type} {l : List α} (h : 0 < l.length) : atI l (-1) = l[l.length - 1]? := by
  unfold atI ixN
  rw [if_neg (by decide), if_pos (by omega)]
  show l[(-1 + (l.length : Int)).toNat]? = _
  rw [show (-1 + (l.length : Int)).toNat = l.length - 1 by omega]
end Z
namespace Z
open PySem PySem.Spec PyProof.Rows L2 RZ
open Evl (Ex)
/-! ### own times along ways -/
def sqS (l g : Rat) : Rat := l * l - g * g
def ownS (a b : Rat × Rat) : Rat := sqS (b.1 - a.1) (b.2 - a.2)
def lat (a b : Rat × Rat) : Bool := wordS (b.1 - a.1) (b.2 - a.2) == "later"
def hpD (a : Rat × Rat) : Dt := hapD a.1 a.2
def B4 (p : Rat × Rat) : Prop := Bq 400 p.1 ∧ Bq 400 p.2
def pt (ts : List (Rat × Rat)) (k : Nat) : Rat × Rat := ts.getD k (0, 0)
/-! halves -/
def Hf (m : Nat) (t : Rat) : Prop := ∃ a : Int, t = (a : Rat) / ((2 : Int) : Rat) ∧ a.natAbs ≤ m
theorem Hf.mono {m n : Nat} {t : Rat} (h : Hf m t) (e : m ≤ n) : Hf n t := by
  obtain ⟨a, h1, h2⟩ := h
  exact ⟨a, h1, Nat.le_trans h2 e⟩
theorem Hf.bq {t : Rat} (h : Hf (2 ^ 92) t) : Bq 93 t := by
  obtain ⟨a, rfl, h2⟩ := h
  refine bq_div (by decide) ?_ (by show Int.natAbs 2 < 2 ^ 93; decide)
  show a.natAbs < 2 ^ 93
  omega
/-! the sum of a way's own times, as far as it is told -/
end Z
namespace Z
open PySem PySem.Spec PyProof.Rows L2 RZ
open Evl (Ex)
/-! ### dicts whose keys are tuples -/
abbrev K2 (x y : Int) : List L2.Key := [.inl x, .inl y]
/-- an own dict at p -/
def Dk (K : PySem.W.Frag) (p : Addr) (ks : List (List L2.Key)) (ds : List Dt) (G H : Hp) : Prop := G p = none ∧ ∃ vs, H p = some (.dT (ks.zip vs)) ∧ ks.length = vs.length ∧ Rps K G vs ds
theorem Dk.nx {K : PySem.W.Frag} {p : Addr} {ks : List (List L2.Key)} {ds : List Dt} {G H G2 H2 : Hp} (m : Dk K p ks ds G H) (n : Nx G H G2 H2) : Dk K p ks ds G2 H2 := by
  obtain ⟨g, vs, h, l, r⟩ := m
  exact ⟨n.f p g (by rw [h]; intro z; cases z), vs, n.h p _ h, l, r.mono n.g⟩
/-! what is known of others does not rest on a dict -/
end Z
namespace Z
open PySem PySem.Spec PyProof.Rows L2 RZ
open Evl (Ex)
abbrev kk (prs : List (Int × Int)) : List (List L2.Key) := prs.map fun q => K2 q.1 q.2
end Z
namespace Z
open PySem PySem.Spec PyProof.Rows L2 RZ
open Evl (Ex)
/-! ### a list's truth, the last one taken off it -/
/-! ### ways: the mathematics -/
section
variable (D : List Nat) (R : Nat → Nat → Bool)
def upN (x : Nat) : Nat := (D.filter (R x)).length
variable {D R}
end
end Z
namespace Z
open PySem PySem.Spec PyProof.Rows L2 RZ
open Evl (Ex)
theorem lt64 {a n : Nat} (h : a + 64 < n) : a + 1 < n := by omega
theorem bm0K {X : Cx} {K : PySem.W.Frag} {c : Expr} {to : TE} {T : String} {r : V → List V → Hp → VK → Prop} (eK : X.K = K) (h : PE X c (tBM0 X.K T r to)) : PE X c (tBM0 K T r to) := eK ▸ h
/-! ### plain steps -/
section
variable (ts : List (Rat × Rat))
def ownN (i j : Nat) : Rat := ownS (pt ts i) (pt ts j)
def stepB (i j : Nat) : Bool := !isNon (rootD (ownN ts i j)) && lat (pt ts i) (pt ts j)
end
end Z
namespace Z
open PySem PySem.Spec PyProof.Rows L2 RZ
open Evl (Ex)
/-! ### all ways -/
abbrev Wy := Rat × List Nat
def lastN (l : List Nat) : Nat := l.getD (l.length - 1) 0
noncomputable def rt (s : Rat) : Rat := @dite _ (∃ y : Rat, 0 ≤ y ∧ y * y = s) (Classical.propDecidable _) (fun h => h.choose) (fun _ => 0)
section
variable (ts : List (Rat × Rat))
def latN (i j : Nat) : Bool := lat (pt ts i) (pt ts j)
def up (x : Nat) : Nat := upN (List.range ts.length) (latN ts) x
structure WOk (w : Wy) : Prop where
  ne : w.2 ≠ []
  lt : ∀ k ∈ w.2, k < ts.length
  len : w.2.length + up ts (lastN w.2) ≤ ts.length
  hf : Hf (2 ^ 91 * w.2.length) w.1
end
section
variable {ts : List (Rat × Rat)} {e : Nat}
theorem WOk.len8 {w : Wy} (h : WOk ts w) : w.2.length ≤ ts.length := by
  have := h.len
  omega
theorem WOk.bq {w : Wy} (h : WOk ts w) (hn : ts.length ≤ 8) : Bq 96 w.1 := by
  obtain ⟨a, e, h2⟩ := h.hf
  rw [e]
  refine bq_div (by decide) ?_ (by show Int.natAbs 2 < 2 ^ 96; decide)
  show a.natAbs < 2 ^ 96
  have := h.len8
  have : 2 ^ 91 * w.2.length ≤ 2 ^ 91 * 8 := Nat.mul_le_mul_left _ (by omega)
  omega
end
end Z
/-! sorted(set(ints)), any number of them -/
namespace L2
open PySem PySem.Spec PyProof.Rows
end L2
/-! min of a list of data, data compared by < -/
namespace L2
open PySem PySem.Spec PyProof.Rows PySem.W
end L2
/-! list(d.values()), d's keys tuples -/
namespace L2
open PySem PySem.Spec PyProof.Rows
end L2
namespace Z
open PySem PySem.Spec PyProof.Rows L2 RZ
/-! ### haps as told from a seat -/
def mvP (v b : Rat) (o q : Rat × Rat) : Rat × Rat := (tlT v b o.1 o.2 q.1 q.2, tlP v b o.1 o.2 q.1 q.2)
/-- haps that hang together as others do -/
structure Mv (ts ms : List (Rat × Rat)) : Prop where
  len : ms.length = ts.length
  b4 : ∀ q ∈ ms, B4 q
  nd : ms.Nodup
  own : ∀ i j, i < ts.length → j < ts.length → ownN ms i j = ownN ts i j
  lat : ∀ i j, i < ts.length → j < ts.length → latN ms i j = latN ts i j
section
variable {ts ms : List (Rat × Rat)}
theorem Mv.step (h : Mv ts ms) {i j : Nat} (hi : i < ts.length) (hj : j < ts.length) : stepB ms i j = stepB ts i j := by
  have h1 := h.own i j hi hj
  have h2 := h.lat i j hi hj
  unfold latN at h2
  unfold stepB
  rw [h1, h2]
end
/-! ### own time along a way is no more than the straight one -/
/-! ### the ways found, step by step -/
end Z
namespace L2
open PySem PySem.Spec PyProof.Rows
/-- a dict's copy -/
def rCopyD : V → List V → Hp → VK → Prop := fun x xs H Q => ∃ a kvs, x = .ref a ∧ xs = [] ∧ H a = some (.dK kvs) ∧ ∀ p, H p = none → Q (.ref p) (upd H p (.dK kvs))
theorem mt_copyD {X : Cx} : MtR X "dict.copy" rCopyD := by
  rintro pins s σ H x xs v us Q I rx rv ⟨a, kvs, rfl, rfl, hH, q⟩
  cases rx
  cases rv
  obtain ⟨z, hd, vs, rel, dd⟩ := dk_rd I.hok (.inl hH)
  refine call_meetsIn F.slot_dict_copy dd.typeIs F.entry_dict_copy (F.args_dict_copy_1 _) (meets_dict_copy (mixKind X.prog X.w) a hd) ⟨vs, dd, by rw [← rel.length]; exact z, fun h' dd' _ hs => ?_⟩
  exact ⟨.ref s.heap.objs.size, _, I.laid (t' := s.toks) (o := .dK kvs) hs (Nat.le_refl _) (dk_new z (beq_eq_false_iff_ne.mpr (Ne.symm (Nat.ne_of_lt I.big))) rel dd'), rfl, q _ (I.hok.fresh (Nat.le_refl _))⟩
/-- len of a dict, locked or not -/
def rLenR : List V → Hp → VK → Prop := fun xs H Q => ∃ (a : Addr) (kvs : List (Key × V)), xs = [V.ref a] ∧ Rd H a (.dK kvs) ∧ Q (.int kvs.length) H
theorem call_lenR {X : Cx} : CallR X (.builtin "len") rLenR := by
  intro pins s σ H xs us Q I r h
  obtain ⟨a, kvs, rfl, ha, q⟩ := h
  obtain ⟨u, rfl, ru⟩ := vals1 r
  cases ru
  exact d_len I ha fun t s' I' => ⟨.int kvs.length, H, I', ⟨t, rfl⟩, q⟩
theorem rd_mono {G H : Hp} {a : Addr} {u : HO} (e : Evl.Ex G H) (h : Rd G a u) : Rd H a u := by
  rcases h with h | ⟨o, h⟩
  · exact .inl (e _ _ h)
  · exact .inr ⟨o, e _ _ h⟩
theorem DGet.r {H : Hp} {a : Addr} {kvs : List (Key × V)} {k : Key} (e : Rd H a (.dK kvs)) : DGet H a (kV k) (valV kvs k) := .inl ⟨kvs, k, e, rfl, rfl⟩
end L2
namespace Z
open PySem PySem.Spec PyProof.Rows L2 RZ
open Evl (Ex)
/-! ### texts, sign by sign -/
def sgD (s : Str) (k : Nat) : Dt := .str ⟨#[s.cps.getD k 0]⟩
theorem ev_lcS {K : PySem.W.Frag} {sl : List Sl} {te tl : TE} {i : Nat} {s : Str} {es : List Dt} (hes : es.length = s.cps.size) (h : Ev K tl sl (.str s)) (hn : s.cps.size ≤ 90000) (he : ∀ (k : Nat) (e : Dt), k < s.cps.size → es[k]? = some e → Ev K te ((sl.set i .no).set i (.d (sgD s k))) e) : Ev K (tLc (iStr tl) (gName i) tYes te [i]) sl (.lst es) := fun G H σ k fr Q q =>
  h G H σ k fr _ fun v G1 H1 n1 r1 => by
    cases r1
    refine ⟨s, rfl, fun Dl hD => ?_⟩
    have gD : G1 Dl = none := free_of n1.k hD
    refine lc_it (walk_str (z := s)) (fun j H' => ∃ G' vs, Ex G1 G' ∧ Ex H1 H' ∧ Ex G' H' ∧ (∀ c, G1 c = none → H1 c ≠ none → G' c = none) ∧ G' Dl = none ∧ H' Dl = some (.lst vs) ∧ Rps K G' vs (es.take j))
      ⟨G1, [], Ex.refl _, Ex.new hD, n1.k.trans (Ex.new hD), fun _ z _ => z, gD, upd_same, .nil⟩ (fun j H' _ _ => trivial) ?_ ?_
    · rintro j x H' H'' hj ⟨G', vs, e1, e2, e3, e4, e5, e6, e7⟩ ⟨rfl, c, hc, rfl⟩
      have ec : s.cps.getD j 0 = c := by
        rw [Array.getD_eq_getD_getElem?, hc]
        rfl
      refine ⟨?_, ?_⟩
      · show (((σ.set i none)).set i (some _)).set i none = σ.set i none
        rw [List.set_set, List.set_set]
      · have fr1 : FrD K G' ((σ.set i none).set i (some (.str ⟨#[c]⟩))) ((sl.set i .no).set i (.d (sgD s j))) := by
          unfold sgD
          rw [ec]
          exact frd_set (.d (.str _)) i (frd_wipe i (FrD.mono (n1.g.trans e1) fr))
        have hd2 : es[j]? = some es[j] := List.getElem?_eq_getElem (by omega)
        refine he j es[j] hj hd2 G' H'' _ e3 fr1 _ fun u G2 H2 n2 r2 => ?_
        have g2D : G2 Dl = none := n2.f Dl e5 (by rw [e6]; intro z; cases z)
        have hl := e7.length
        refine ⟨vs, n2.h Dl _ e6, Nat.lt_of_lt_of_le (m := 100000) (by rw [hl, List.length_take]; omega) (by decide), G2, vs ++ [u], e1.trans n2.g, Evl.Ex.mut (e2.trans n2.h) hD, Evl.Ex.mut n2.k g2D, fun c c1 c2 => n2.f c (e4 c c1 c2) (ne_none e2 c2), g2D, upd_same, ?_⟩
        have et : es.take (j + 1) = es.take j ++ [es[j]] := by
          rw [List.take_add_one, hd2]
          rfl
        rw [et]
        exact (e7.mono n2.g).snoc r2
    · rintro H' ⟨G', vs, e1, e2, e3, e4, e5, e6, e7⟩
      rw [← hes, List.take_length] at e7
      refine q _ (upd G' Dl (.lst vs)) H' (n1.trans ⟨e1.trans (Ex.new e5), e2, fun b o hb => ?_, fun c c1 c2 => ?_⟩) (.lst (.inl (.inl upd_same)) (e7.mono (Ex.new e5)))
      · by_cases z : b = Dl
        · subst z
          rw [upd_same] at hb
          rw [e6]
          exact hb
        · rw [upd_ne z] at hb
          exact e3 _ _ hb
      · by_cases z : c = Dl
        · subst z
          exact absurd hD c2
        · rw [upd_ne z]
          exact e4 c c1 c2
theorem r2_sgIn {K : PySem.W.Frag} {c : Nat} {z : Str} : R2D K (fun x y H Q => ∃ (c : Nat) (z : Str), x = .str ⟨#[c]⟩ ∧ y = .str z ∧ Q (.bl (decide (c ∈ z.cps.toList))) H) (.str ⟨#[c]⟩) (.str z) (.bl (decide (c ∈ z.cps.toList))) := fun G H k v w r1 r2 Q q => by
  cases r1
  cases r2
  exact ⟨c, z, rfl, rfl, q _ G H (.refl k) (.bl _)⟩
theorem rc_lenS {K : PySem.W.Frag} {z : Str} (h : z.length ≤ 100000) : RcD K (fun xs H Q => ∃ z, xs = [.str z] ∧ z.length ≤ sizeLine ∧ Q (.int z.length) H) [.str z] (.int (z.length : Nat)) := fun G H k vs r Q q => by
  obtain ⟨v, rfl, h1⟩ := rps1 r
  cases h1
  exact ⟨z, rfl, sz_ok h, q _ G H (.refl k) (.int _)⟩
theorem kb_strT (x : Dt) : ∃ b, kitB (tyN x) "str" = some b ∧ (b = true ↔ ∃ s, x = .str s) := by
  cases x with
  | str s => exact ⟨true, (by simp only [tyN]; decide +kernel), by simp⟩
  | _ => exact ⟨false, (by simp only [tyN]; decide +kernel), by simp⟩
abbrev abcS : Str := "abcdefghijklmnopqrstuvwxyz"
def isNm : Dt → Bool
  | .str s => (decide (1 ≤ s.length) && decide (s.length ≤ 8)) && s.cps.toList.all fun c => decide (c ∈ abcS.cps.toList)
  | _ => false
/-! ### classes and their methods -/
theorem fldK {X : Cx} {K : PySem.W.Frag} {e : Expr} {f : Str} {pos : Pos} {ta : TE} (eK : X.K = K) (he : PE X e ta) (hb : attributeBase e f X.env (eval e X.env) = eval e X.env) : PE X (.Attribute e f pos) (tFld K ta f) := eK ▸ pe_fld he hb
theorem sfldK {X : Cx} {K : PySem.W.Frag} {o value : Expr} {f : Str} {pos pos' : Pos} {ta tv : TE} (eK : X.K = K) (ha : PE X o ta) (hv : PE X value tv) (hs : swapsWith value (some (.Attribute o f pos')) pos.line X.env = pure false) : PS X (.Assign [.Attribute o f pos'] value pos) (sFld K ta tv f) := eK ▸ ps_fld ha hv hs
structure DdM (K : PySem.W.Frag) (C : Addr) (m q : Str) (st : Stmt) (ps : List Str) : Prop where
  ex : ∃ (f : Addr) (fd : FuncData), Fun K m q st f fd ∧ Meth K C m f ∧ Binds K fd ps []
structure DdI (K : PySem.W.Frag) (C : Addr) (q : Str) (st : Stmt) (ps : List Str) : Prop where
  ex : ∃ (f : Addr) (fd : FuncData), Fun K "__init__" q st f fd ∧ Mk K C f ∧ Binds K fd ps []
structure HasM (P : Program) (w : World) (K : PySem.W.Frag) (mg : Str → Option Value) (base : Heap) (CX : CXT) (k : Nat) (C : Addr) (m : Str) (ps : List Str) (sp : L2.Sp) : Prop where
  ex : ∃ (f : Addr) (fd : FuncData), FnOk P w K mg base CX k f fd ps sp ∧ Meth K C m f ∧ Binds K fd ps []
structure HasI (P : Program) (w : World) (K : PySem.W.Frag) (mg : Str → Option Value) (base : Heap) (CX : CXT) (k : Nat) (C : Addr) (ps : List Str) (sp : L2.Sp) : Prop where
  ex : ∃ (f : Addr) (fd : FuncData), FnOk P w K mg base CX k f fd ps sp ∧ Mk K C f ∧ Binds K fd ps []
section
variable {P : Program} {w : World} {K : PySem.W.Frag} {mg : Str → Option Value} {base : Heap} {m q : Str} {st : Stmt} {N ps : List Str} {k : Nat} {C : Addr}
theorem DdM.any {sp : L2.Sp} {t : TS} (D : DdM K C m q st ps) (S : FnScope N ps (defScope st)) (hl : ∀ vs H Q E, sp vs H Q E → vs.length = ps.length)
    (h1 : ∀ (f : Addr) (cdv : Value) (A : Around) (outer : List Env) (s : Shared) (H : Hp) (E : XK), Room k (A.deeper (envOfC q (defScope st) s.heap.objs.size f cdv)) → PSs (cxOf CX0 P w K mg base N q (defScope st) f cdv A outer s H E).nox (defBody st) t)
    (h2 : ∀ vs H Q E, sp vs H Q E → t { nx := fun _ H' => Q .non H', rt := Q } (L2.start N vs) H) : HasM P w K mg base CX0 (k + 1) C m ps sp := by
  obtain ⟨f, fd, F, hm, b⟩ := D.ex
  exact ⟨f, fd, F.ok S hl (fun cdv A outer s H vs Q E hr h => ⟨t, h1 f cdv A outer s H E hr, h2 vs H Q E h⟩), hm, b⟩
theorem DdM.anyX {sp : L2.Sp} {t : XK → TS} (D : DdM K C m q st ps) (S : FnScope N ps (defScope st)) (hl : ∀ vs H Q E, sp vs H Q E → vs.length = ps.length)
    (h1 : ∀ (f : Addr) (cdv : Value) (A : Around) (outer : List Env) (s : Shared) (H : Hp) (E : XK), Room k (A.deeper (envOfC q (defScope st) s.heap.objs.size f cdv)) → PSs (cxOf (L2.CX P w) P w K mg base N q (defScope st) f cdv A outer s H E) (defBody st) (t E))
    (h2 : ∀ vs H Q E, sp vs H Q E → t E { nx := fun _ H' => Q .non H', rt := Q } (L2.start N vs) H) : HasM P w K mg base (L2.CX P w) (k + 1) C m ps sp := by
  obtain ⟨f, fd, F, hm, b⟩ := D.ex
  exact ⟨f, fd, F.okX S hl (fun cdv A outer s H vs Q E hr h => ⟨t E, h1 f cdv A outer s H E hr, h2 vs H Q E h⟩), hm, b⟩
theorem DdI.any {sp : L2.Sp} {t : TS} (D : DdI K C q st ps) (S : FnScope N ps (defScope st)) (hl : ∀ vs H Q E, sp vs H Q E → vs.length = ps.length)
    (h1 : ∀ (f : Addr) (cdv : Value) (A : Around) (outer : List Env) (s : Shared) (H : Hp) (E : XK), Room k (A.deeper (envOfC q (defScope st) s.heap.objs.size f cdv)) → PSs (cxOf CX0 P w K mg base N q (defScope st) f cdv A outer s H E).nox (defBody st) t)
    (h2 : ∀ vs H Q E, sp vs H Q E → t { nx := fun _ H' => Q .non H', rt := Q } (L2.start N vs) H) : HasI P w K mg base CX0 (k + 1) C ps sp := by
  obtain ⟨f, fd, F, hm, b⟩ := D.ex
  exact ⟨f, fd, F.ok S hl (fun cdv A outer s H vs Q E hr h => ⟨t, h1 f cdv A outer s H E hr, h2 vs H Q E h⟩), hm, b⟩
end
section
variable {X : Cx} {CX : CXT} {k j : Nat} {x m : Str} {ps : List Str} {sp : L2.Sp} {p pos apos : Pos} {o e : Expr} {es : List Expr} {ta : TE} {t : TA} {E : XK} {C : Addr}
theorem pe_mh {pl : Sem Bool} (c : HasM X.prog X.w X.K X.mg X.base CX k C m ps sp) (cl : Cls X.K C) (hr : Room j X.A) (hk : k ≤ j) (hx : Passes CX X E) (ho : PE X o ta) (ha : PA X (e :: es) t)
    (hst : starEach (e :: es) X.env = (false, eval e X.env) :: starEach es X.env := by rfl) (hpl : (backTo pos (starEach es X.env)).any (·.1) = false := by rfl)
    (ht : eval (.Call (.Attribute o m apos) (e :: es) [] pos) X.env = (do
      let ov ← eval o X.env
      standAt apos.atName
      let (f, first) ← holding [ov] (getMethod ov m pl)
      callWith pos f first (backTo pos (starEach (e :: es) X.env)) (backToKw pos (keywordEach [] X.env))) := by rfl) :
    PE X (.Call (.Attribute o m apos) (e :: es) [] pos) (tMeth C m sp [] E ta t) := by
  obtain ⟨f, fd, F, hm, b⟩ := c.ex
  exact pe_meth ho cl hm F (hr.mono hk) b .nil hx ha hst hpl ht
theorem pe_mh0 {pl : Sem Bool} (c : HasM X.prog X.w X.K X.mg X.base CX k C m ps sp) (cl : Cls X.K C) (hr : Room j X.A) (hk : k ≤ j) (hx : Passes CX X E) (ho : PE X o ta)
    (ht : eval (.Call (.Attribute o m apos) [] [] pos) X.env = (do
      let ov ← eval o X.env
      standAt apos.atName
      let (f, first) ← holding [ov] (getMethod ov m pl)
      callWith pos f first (backTo pos (starEach [] X.env)) (backToKw pos (keywordEach [] X.env))) := by rfl) :
    PE X (.Call (.Attribute o m apos) [] [] pos) (tMeth C m sp [] E ta tNil) := by
  obtain ⟨f, fd, F, hm, b⟩ := c.ex
  exact pe_meth0 ho cl hm F (hr.mono hk) b .nil hx ht
theorem pe_mkB (c : HasI X.prog X.w X.K X.mg X.base CX0 k C ps sp) (hm : X.mg x = some (.ref C)) (hr : Room j X.A) (hk : k + 1 ≤ j) (hg : Gl X x := by rfl)
    (hdb : (x == ("__debug__" : Str)) = false := by decide) : PE X (.Call (.Name x p) [] [] pos) (tMake C sp [] E0 tNil) := by
  obtain ⟨f, fd, F, hM, b⟩ := c.ex
  exact pe_make0 hM F (hr.mono hk) hg hm b .nil pass0 hdb
end
/-! ### what a bench holds -/
abbrev Hps := List (Str × (Rat × Rat))
structure Bst where
  haps : Hps
  speed : Rat
  past : List (Hps × Rat)
section
variable (K : PySem.W.Frag)
def KvR (G : Hp) (q : Str × (Rat × Rat)) (p : Key × V) : Prop := p.1 = .inr q.1 ∧ Rp K G p.2 (hpD q.2)
def DicAt (G : Hp) (a : Addr) (hs : Hps) : Prop := ∃ kvs : List (Key × V), G a = some (.dK kvs) ∧ Paired (KvR K G) hs kvs
def PstR (G : Hp) (e : Hps × Rat) (v : V) : Prop := ∃ q a s, v = .ref q ∧ SqX K G q [.ref a, s] ∧ DicAt K G a e.1 ∧ Rp K G s (fq e.2)
def flds (a : Addr) (s : V) (p : Addr) : List (Str × V) := putF "_past" (.ref p) (putF "_speed" s (putF "_haps" (.ref a) []))
structure BnAt (C x p : Addr) (G H : Hp) (b : Bst) : Prop where
  ex : ∃ dx a s pv, H x = some (.ins C dx (flds a s p)) ∧ DicAt K G a b.haps ∧ Rp K G s (fq b.speed) ∧ H p = some (.lst pv) ∧ Paired (PstR K G) b.past pv
  gx : G x = none
  gp : G p = none
end
theorem kf1 : ¬ (("_haps" : Str) = "_speed") := by decide +kernel
theorem kf2 : ¬ (("_haps" : Str) = "_past") := by decide +kernel
theorem kf3 : ¬ (("_speed" : Str) = "_past") := by decide +kernel
theorem flds_eq (a : Addr) (s : V) (p : Addr) : flds a s p = ([("_haps", V.ref a), ("_speed", s), ("_past", .ref p)] : List (Str × V)) := by
  unfold flds
  simp only [putF, if_neg kf1, if_neg kf2, if_neg kf3]
theorem flds_haps (a : Addr) (s : V) (p : Addr) : (flds a s p).lookup ("_haps" : Str) = some (.ref a) := by
  unfold flds
  rw [lookup_putF, if_neg kf2, lookup_putF, if_neg kf1, lookup_putF, if_pos rfl]
theorem flds_speed (a : Addr) (s : V) (p : Addr) : (flds a s p).lookup ("_speed" : Str) = some s := by
  unfold flds
  rw [lookup_putF, if_neg kf3, lookup_putF, if_pos rfl]
theorem flds_past (a : Addr) (s : V) (p : Addr) : (flds a s p).lookup ("_past" : Str) = some (.ref p) := by
  unfold flds
  rw [lookup_putF, if_pos rfl]
theorem flds_no (a : Addr) (s : V) (p : Addr) {m : Str} (h1 : ¬ m = "_past") (h2 : ¬ m = "_speed") (h3 : ¬ m = "_haps") : (flds a s p).lookup m = none := by
  unfold flds
  rw [lookup_putF, if_neg h1, lookup_putF, if_neg h2, lookup_putF, if_neg h3]
  rfl
theorem flds_put1 (a a2 : Addr) (s : V) (p : Addr) : putF "_haps" (.ref a2) (flds a s p) = flds a2 s p := by
  rw [flds_eq, flds_eq]
  simp only [putF, if_true]
theorem flds_put2 (a : Addr) (s s2 : V) (p : Addr) : putF "_speed" s2 (flds a s p) = flds a s2 p := by
  rw [flds_eq, flds_eq]
  simp only [putF, if_neg kf1, if_true]
section
variable {K : PySem.W.Frag} {C x p : Addr} {G H G2 H2 : Hp} {b : Bst}
theorem DicAt.mono {a : Addr} {hs : Hps} (e : Ex G G2) (h : DicAt K G a hs) : DicAt K G2 a hs := by
  obtain ⟨kvs, h1, h2⟩ := h
  exact ⟨kvs, e _ _ h1, L2.Paired.mapP h2 fun _ _ ⟨r1, r2⟩ => ⟨r1, r2.mono e⟩⟩
theorem PstR.mono {q : Hps × Rat} {v : V} (e : Ex G G2) (h : PstR K G q v) : PstR K G2 q v := by
  obtain ⟨q, a, s, h1, h2, h3, h4⟩ := h
  exact ⟨q, a, s, h1, h2.mono e, h3.mono e, h4.mono e⟩
theorem BnAt.ne (h : BnAt K C x p G H b) : x ≠ p := by
  obtain ⟨dx, a, s, pv, h1, _, _, h2, _⟩ := h.ex
  exact ne_of h1 h2 (by intro z; cases z)
/-- what does not touch it leaves it as it was -/
theorem BnAt.nxP {us : List Addr} (h : BnAt K C x p G H b) (n : NxP us G H G2 H2) (hx : x ∉ us) (hp : p ∉ us) : BnAt K C x p G2 H2 b := by
  obtain ⟨dx, a, s, pv, h1, h2, h3, h4, h5⟩ := h.ex
  refine ⟨⟨dx, a, s, pv, n.h _ _ hx h1, h2.mono n.g, h3.mono n.g, n.h _ _ hp h4, L2.Paired.mapP h5 fun _ _ r => PstR.mono n.g r⟩, n.f _ h.gx (by rw [h1]; intro z; cases z), n.f _ h.gp (by rw [h4]; intro z; cases z)⟩
theorem BnAt.nx (h : BnAt K C x p G H b) (n : Nx G H G2 H2) : BnAt K C x p G2 H2 b := h.nxP (us := []) n.p (by simp) (by simp)
end
/-! ### a bench that is asked: its dict may be locked -/
def DicR (K : PySem.W.Frag) (G : Hp) (a : Addr) (hs : Hps) : Prop := ∃ kvs : List (Key × V), Rd G a (.dK kvs) ∧ Paired (KvR K G) hs kvs
structure BnR (K : PySem.W.Frag) (C x : Addr) (G H : Hp) (b : Bst) : Prop where
  ex : ∃ dx a s p, H x = some (.ins C dx (flds a s p)) ∧ DicR K G a b.haps ∧ Rp K G s (fq b.speed)
  gx : G x = none
section
variable {K : PySem.W.Frag} {C x p : Addr} {G H G2 H2 : Hp} {b : Bst}
theorem DicAt.r {a : Addr} {hs : Hps} (h : DicAt K G a hs) : DicR K G a hs := by
  obtain ⟨kvs, h1, h2⟩ := h
  exact ⟨kvs, .inl h1, h2⟩
theorem DicR.mono {a : Addr} {hs : Hps} (e : Ex G G2) (h : DicR K G a hs) : DicR K G2 a hs := by
  obtain ⟨kvs, h1, h2⟩ := h
  exact ⟨kvs, rd_mono e h1, L2.Paired.mapP h2 fun _ _ ⟨r1, r2⟩ => ⟨r1, r2.mono e⟩⟩
theorem BnAt.r (h : BnAt K C x p G H b) : BnR K C x G H b := by
  obtain ⟨dx, a, s, pv, h1, h2, h3, _⟩ := h.ex
  exact ⟨⟨dx, a, s, p, h1, h2.r, h3⟩, h.gx⟩
theorem BnR.nxP {us : List Addr} (h : BnR K C x G H b) (n : NxP us G H G2 H2) (hx : x ∉ us) : BnR K C x G2 H2 b := by
  obtain ⟨dx, a, s, p, h1, h2, h3⟩ := h.ex
  exact ⟨⟨dx, a, s, p, n.h _ _ hx h1, h2.mono n.g, h3.mono n.g⟩, n.f _ h.gx (by rw [h1]; intro z; cases z)⟩
theorem BnR.nx (h : BnR K C x G H b) (n : Nx G H G2 H2) : BnR K C x G2 H2 b := h.nxP (us := []) n.p (by simp)
end
theorem stb_br {K : PySem.W.Frag} {C x : Addr} {b : Bst} : ∀ G H G2 H2, BnR K C x G H b → Nx G H G2 H2 → BnR K C x G2 H2 b := fun _ _ _ _ h n => h.nx n
/-! ### expressions, where a world S of things that may change stands -/
def Stb (S : Hp → Hp → Prop) : Prop := ∀ G H G2 H2, S G H → Nx G H G2 H2 → S G2 H2
theorem stb_bn {K : PySem.W.Frag} {C x p : Addr} {b : Bst} : Stb fun G H => BnAt K C x p G H b := fun _ _ _ _ h n => h.nx n
def Eb (K : PySem.W.Frag) (S : Hp → Hp → Prop) (te : TE) (sl : List Sl) (x : Dt) : Prop := ∀ (G H : Hp) (σ : L2.St), Ex G H → FrD K G σ sl → S G H → ∀ Q : VK, (∀ v G2 H2, Nx G H G2 H2 → Rp K G2 v x → Q v H2) → te σ H Q
def EbT (K : PySem.W.Frag) (S : Hp → Hp → Prop) (tt : TT) (sl : List Sl) (b : Bool) : Prop := ∀ (G H : Hp) (σ : L2.St), Ex G H → FrD K G σ sl → S G H → ∀ Q : Bool → Hp → Prop, (∀ G2 H2, Nx G H G2 H2 → Q b H2) → tt σ H Q
def EbA (K : PySem.W.Frag) (S : Hp → Hp → Prop) (ta : TA) (sl : List Sl) (xs : List Dt) : Prop := ∀ (G H : Hp) (σ : L2.St), Ex G H → FrD K G σ sl → S G H → ∀ Q : List V → Hp → Prop, (∀ vs G2 H2, Nx G H G2 H2 → Rps K G2 vs xs → Q vs H2) → ta σ H Q
section
variable {K : PySem.W.Frag} {S : Hp → Hp → Prop} {sl : List Sl} {ta tb te tc : TE} {tt uu : TT} {x y z : Dt} {r : R2} {tr : TA} {xs : List Dt} {E : XK} {b a : Bool}
theorem eb_ev (h : Ev K te sl x) : Eb K S te sl x := fun G H σ k f _ Q q => h G H σ k f Q q
theorem eb_is (h : Eb K S te sl x) (e : x = y) : Eb K S te sl y := e ▸ h
theorem eba_ev (h : EvA K tr sl xs) : EbA K S tr sl xs := fun G H σ k f _ Q q => h G H σ k f Q q
theorem eb_op (hS : Stb S) (ha : Eb K S ta sl x) (hb : Eb K S tb sl y) (hr : R2D K r x y z) : Eb K S (tOp r ta tb) sl z := fun G H σ k f s Q q =>
  ha G H σ k f s _ fun v G1 H1 n1 r1 => hb G1 H1 σ n1.k (FrD.mono n1.g f) (hS _ _ _ _ s n1) _ fun w G2 H2 n2 r2 => hr G2 H2 n2.k v w (r1.mono n2.g) r2 Q fun u G3 H3 n3 r3 => q u G3 H3 ((n1.trans n2).trans n3) r3
theorem eba_cons (hS : Stb S) (ha : Eb K S ta sl x) (hr : EbA K S tr sl xs) : EbA K S (tCons ta tr) sl (x :: xs) := fun G H σ k f s Q q =>
  ha G H σ k f s _ fun v G1 H1 n1 r1 => hr G1 H1 σ n1.k (FrD.mono n1.g f) (hS _ _ _ _ s n1) _ fun vs G2 H2 n2 r2 => q _ G2 H2 (n1.trans n2) (.cons (r1.mono n2.g) r2)
theorem eb_tup (h : EbA K S tr sl xs) (hn : xs.length ≤ 100000 := by exact Nat.le_of_ble_eq_true rfl) : Eb K S (tTup tr) sl (.tup xs) := fun G H σ k f s Q q =>
  h G H σ k f s _ fun vs G1 H1 n1 r1 => ⟨by rw [r1.length]; exact sz_ok hn, fun p o hp ho => q _ _ _ (n1.trans (.new n1.k hp)) (.tup (sqx_new ho) (r1.mono (Ex.new (free_of n1.k hp))))⟩
theorem eb_call {R : List Dt → Dt → Prop} (h : EbA K S tr sl xs) (hr : R xs x) : Eb K S (tCall (spP K R) [] E tr) sl x := fun G H σ k f s Q q =>
  h G H σ k f s _ fun vs G1 H1 n1 r1 => ⟨xs, x, G1, n1.k, rps_nil r1, hr, fun v G2 H2 n2 r2 => q v G2 H2 (n1.trans n2) r2⟩
theorem eb_callX {R : List Dt → Dt → Prop} {XF : List Dt → Value → Prop} (h : EbA K S tr sl xs) (hr : R xs x) : Eb K S (tCall (spX K R XF) [] E tr) sl x := fun G H σ k f s Q q =>
  h G H σ k f s _ fun vs G1 H1 n1 r1 => ⟨xs, G1, n1.k, rps_nil r1, .inl ⟨x, hr, fun v G2 H2 n2 r2 => q v G2 H2 (n1.trans n2) r2⟩⟩
theorem eb_cb {rc : List V → Hp → VK → Prop} (h : EbA K S tr sl xs) (hr : RcD K rc xs x) : Eb K S (tCB rc tr) sl x := fun G H σ k f s Q q =>
  h G H σ k f s _ fun vs G1 H1 n1 r1 => hr G1 H1 n1.k vs r1 Q fun u G2 H2 n2 r2 => q u G2 H2 (n1.trans n2) r2
theorem ebt_ev (h : EvT K tt sl b) : EbT K S tt sl b := fun G H σ k f _ Q q => h G H σ k f Q q
theorem ebt_is (h : EbT K S tt sl a) (e : a = b) : EbT K S tt sl b := e ▸ h
theorem ebt_test (h : Eb K S te sl (.bl b)) : EbT K S (tTest te) sl b := fun G H σ k f s Q q => h G H σ k f s _ fun v G2 H2 n r => by
  cases r
  exact ⟨b, rfl, q G2 H2 n⟩
theorem ebt_B (h : Eb K S te sl (.bl b)) : EbT K S (tB te) sl b := fun G H σ k f s Q q => h G H σ k f s _ fun v G2 H2 n r => by
  cases r
  exact ⟨b, rfl, q G2 H2 n⟩
theorem ebt_not (h : EbT K S tt sl b) : EbT K S (tNot tt) sl (!b) := fun G H σ k f s Q q => h G H σ k f s _ fun G2 H2 n => q G2 H2 n
end
/-! ### promises of methods -/
section
variable (K : PySem.W.Frag) (C : Addr)
def spMkB : L2.Sp := fun vs H Q _ => ∃ x dx G, vs = [.ref x] ∧ H x = some (.ins C dx []) ∧ Ex G H ∧ G x = none ∧
  ∀ p G2 H2, H p = none → NxP [x] G H G2 H2 → BnAt K C x p G2 H2 ⟨[], 0, []⟩ → Q .non H2
/-- a deed -/
def spBd (R : Bst → List Dt → Bst → Prop) (X : Bst → List Dt → Value → Prop) : L2.Sp := fun vs H Q E => ∃ x p ws ds b G, vs = .ref x :: ws ∧ Ex G H ∧ Rps K G ws ds ∧ BnAt K C x p G H b ∧
  ((∃ b', R b ds b' ∧ ∀ G2 H2, NxP [x, p] G H G2 H2 → BnAt K C x p G2 H2 b' → Q .non H2) ∨ (∃ c, X b ds c ∧ ∀ G2 H2, Nx G H G2 H2 → E c none H2))
/-- a question -/
def spBq (R : Bst → List Dt → Dt → Prop) (X : Bst → List Dt → Value → Prop) : L2.Sp := fun vs H Q E => ∃ x ws ds b G, vs = .ref x :: ws ∧ Ex G H ∧ Rps K G ws ds ∧ BnR K C x G H b ∧
  ((∃ d, R b ds d ∧ ∀ v G2 H2, Nx G H G2 H2 → Rp K G2 v d → Q v H2) ∨ (∃ c, X b ds c ∧ ∀ G2 H2, Nx G H G2 H2 → E c none H2))
def spDo : L2.Sp := fun vs H Q _ => ∃ x p a s b hs q G, vs = [.ref x, .ref a, s] ∧ Ex G H ∧ BnAt K C x p G H b ∧ DicAt K G a hs ∧ Rp K G s (fq q) ∧ b.past.length ≤ 90000 ∧
  ∀ G2 H2, NxP [x, p] G H G2 H2 → BnAt K C x p G2 H2 ⟨hs, q, b.past ++ [(b.haps, b.speed)]⟩ → Q .non H2
end
section
variable {K : PySem.W.Frag} {C x p : Addr} {G H G2 H2 : Hp} {b b' : Bst} {S : Hp → Hp → Prop} {sl : List Sl} {te : TE} {tr : TA} {xs : List Dt} {d : Dt} {E : XK} {i : Nat} {m : Str}
theorem paired_snoc {α β : Type} {F : α → β → Prop} : ∀ {l : List α} {r : List β} {a : α} {c : β}, Paired F l r → F a c → Paired F (l ++ [a]) (r ++ [c])
  | _, _, _, _, .nil, h => .cons h .nil
  | _, _, _, _, .cons h t, g => .cons h (paired_snoc t g)
/-- one deed more: the past grown, other haps, another speed -/
theorem BnAt.step (h : BnAt K C x p G H b) (k : Ex G H) {a : Addr} {hs : Hps} {s : V} {q : Rat} {dx a0 : Addr} {s0 : V} {pv : List V} (h1 : H x = some (.ins C dx (flds a0 s0 p))) (h2 : DicAt K G a0 b.haps) (h3 : Rp K G s0 (fq b.speed)) (h4 : H p = some (.lst pv)) (h5 : Paired (PstR K G) b.past pv)
    (ha : DicAt K G a hs) (hs' : Rp K G s (fq q)) {t : Addr} {o : Obj} (ht : H t = none) (ho : o.dict = none) :
    NxP [x, p] G H (upd G t (.frz o (.tup [.ref a0, s0]))) (upd (upd (upd H t (.frz o (.tup [.ref a0, s0]))) p (.lst (pv ++ [.ref t]))) x (.ins C dx (flds a s p))) ∧
    BnAt K C x p (upd G t (.frz o (.tup [.ref a0, s0]))) (upd (upd (upd H t (.frz o (.tup [.ref a0, s0]))) p (.lst (pv ++ [.ref t]))) x (.ins C dx (flds a s p))) ⟨hs, q, b.past ++ [(b.haps, b.speed)]⟩ := by
  have nxp := h.ne
  have ntx : x ≠ t := ne_of_none h1 ht
  have ntp : p ≠ t := ne_of_none h4 ht
  have gt : G t = none := free_of k ht
  have eg : Ex G (upd G t (.frz o (.tup [.ref a0, s0]))) := Ex.new gt
  refine ⟨⟨eg, fun c u e => ?_, fun c u hc e => ?_, fun c hc => ?_, fun c h1' h2' => ?_⟩, ⟨⟨dx, a, s, pv ++ [.ref t], upd_same, ha.mono eg, hs'.mono eg, by rw [upd_ne nxp.symm, upd_same], ?_⟩, ?_, ?_⟩⟩
  · by_cases z : c = t
    · subst z
      rw [upd_same] at e
      rw [upd_ne (Ne.symm ntx), upd_ne (Ne.symm ntp), upd_same]
      exact e
    · rw [upd_ne z] at e
      have cx : c ≠ x := fun y => by rw [y, h.gx] at e; cases e
      have cp : c ≠ p := fun y => by rw [y, h.gp] at e; cases e
      rw [upd_ne cx, upd_ne cp, upd_ne z]
      exact k _ _ e
  · have hc1 : c ≠ x := fun y => hc (by simp [y])
    have hc2 : c ≠ p := fun y => hc (by simp [y])
    rw [upd_ne hc1, upd_ne hc2, upd_ne (ne_of_none e ht)]
    exact e
  · by_cases z1 : c = x
    · rw [z1, upd_same]; intro z; cases z
    · rw [upd_ne z1]
      by_cases z2 : c = p
      · rw [z2, upd_same]; intro z; cases z
      · rw [upd_ne z2]
        by_cases z3 : c = t
        · rw [z3, upd_same]; intro z; cases z
        · rw [upd_ne z3]
          exact hc
  · by_cases z : c = t
    · rw [z] at h2'
      exact absurd ht h2'
    · rw [upd_ne z]
      exact h1'
  · refine paired_snoc (L2.Paired.mapP h5 fun _ _ r => PstR.mono eg r) ⟨t, a0, s0, rfl, sqx_new ho, h2.mono eg, h3.mono eg⟩
  · rw [upd_ne ntx]
    exact h.gx
  · rw [upd_ne ntp]
    exact h.gp
/-- a question within an expression -/
theorem eb_mq {R : Bst → List Dt → Dt → Prop} {XF : Bst → List Dt → Value → Prop} (hS : Stb S) (hB : ∀ G H, S G H → BnR K C x G H b) (hi : sl[i]? = some (.raw (.ref x))) (hm1 : ¬ m = "_past") (hm2 : ¬ m = "_speed") (hm3 : ¬ m = "_haps") (h : EbA K S tr sl xs) (hr : R b xs d) :
    Eb K S (tMeth C m (spBq K C R XF) [] E (tVar i) tr) sl d := fun G H σ k f s Q q => by
  obtain ⟨dx, a, sp, pq, h1, _⟩ := (hB G H s).ex
  refine ⟨.ref x, frd_raw f hi, x, dx, _, rfl, h1, flds_no _ _ _ hm1 hm2 hm3, ?_⟩
  exact h G H σ k f s _ fun vs G1 H1 n1 r1 => ⟨x, vs ++ [], xs, b, G1, rfl, n1.k, rps_nil r1, hB G1 H1 (hS _ _ _ _ s n1), .inl ⟨d, hr, fun v G2 H2 n2 r2 => q v G2 H2 (n1.trans n2) r2⟩⟩
/-- the speed, read -/
theorem eb_speed (hB : ∀ G H, S G H → BnR K C x G H b) (hc : Cls K C) (hn : NoAttr K C "_speed") (hi : sl[i]? = some (.raw (.ref x))) : Eb K S (tFld K (tVar i) "_speed") sl (fq b.speed) := fun G H σ k f s Q q => by
  obtain ⟨dx, a, sp, pq, h1, h2, h3⟩ := (hB G H s).ex
  exact ⟨.ref x, frd_raw f hi, x, C, dx, _, _, rfl, h1, hc, hn, flds_speed _ _ _, q _ G H (.refl k) h3⟩
end
/-! ### statements, where a world stands: from S to S2, what is at us may be written -/
def Bn (K : PySem.W.Frag) (us : List Addr) (S S2 : Hp → Hp → Prop) (ts : TS) (sl : List Sl) (N : List Sl → Prop) : Prop := ∀ (G H : Hp) (σ : L2.St), Ex G H → FrD K G σ sl → S G H → ∀ D : Ends, (∀ σ2 sl2 G2 H2, N sl2 → NxP us G H G2 H2 → S2 G2 H2 → FrD K G2 σ2 sl2 → D.nx σ2 H2) → ts D σ H
section
variable {K : PySem.W.Frag} {us : List Addr} {S S1 S2 : Hp → Hp → Prop} {t u : TS} {sl sl1 sl2 : List Sl} {N M : List Sl → Prop} {tc : TT} {te : TE} {C : Addr} {b b' : Bst} {tr : TA} {xs : List Dt} {E : XK} {i : Nat} {m : Str}
theorem bn_seq (h : Bn K us S S1 t sl M) (g : ∀ s, M s → Bn K us S1 S2 u s N) : Bn K us S S2 (tSeq t u) sl N := fun G H σ k f s D q =>
  h G H σ k f s _ fun σ1 sl1 G1 H1 m1 n1 s1 f1 => g sl1 m1 G1 H1 σ1 n1.k f1 s1 D fun σ2 sl2 G2 H2 m2 n2 s2 f2 => q σ2 sl2 G2 H2 m2 (n1.trans n2) s2 f2
theorem bn_imp {N2 : List Sl → Prop} (h : Bn K us S S2 t sl N) (w : ∀ s, N s → N2 s) : Bn K us S S2 t sl N2 := fun G H σ k f s D q => h G H σ k f s D fun σ2 sl2 G2 H2 h2 => q σ2 sl2 G2 H2 (w sl2 h2)
/-- a test that is never true -/
theorem bn_no (hS : Stb S) (h : EbT K S tc sl false) (g : N sl) : Bn K us S S (tIfS tc t tNext) sl N := fun G H σ k f s D q =>
  h G H σ k f s _ fun G1 H1 n1 => q σ sl G1 H1 g n1.p (hS _ _ _ _ s n1) (FrD.mono n1.g f)
theorem bn_asg (hS : Stb S) (h : Eb K S te sl x) (g : N (sl.set i (.d x))) : Bn K us S S (tAsg te (gName i)) sl N := fun G H σ k f s D q =>
  h G H σ k f s _ fun v G1 H1 n1 r1 => q _ _ G1 H1 g n1.p (hS _ _ _ _ s n1) (frd_set (.d r1) i (FrD.mono n1.g f))
end
/-! ### a dict of haps -/
def getH (hs : Hps) (n : Str) : Option (Rat × Rat) := (hs.find? fun q => decide (q.1 = n)).map (·.2)
def putH (hs : Hps) (n : Str) (q : Rat × Rat) : Hps := if (hs.any fun e => decide (e.1 = n)) = true then hs.map (fun e => if e.1 = n then (e.1, q) else e) else hs ++ [(n, q)]
def dropH (hs : Hps) (n : Str) : Hps := hs.filter fun e => decide (e.1 ≠ n)
section
variable {K : PySem.W.Frag} {G H : Hp}
theorem kv_dec {q : Str × (Rat × Rat)} {p : Key × V} {n : Str} (h : KvR K G q p) : decide (p.1 = .inr n) = decide (q.1 = n) := by
  rw [h.1]
  exact decide_eq_decide.mpr ⟨fun e => by cases e; rfl, fun e => by rw [e]⟩
theorem pair_get : ∀ {hs : Hps} {kvs : List (Key × V)} (n : Str), Paired (KvR K G) hs kvs → (getH hs n = none ∧ valV kvs (.inr n : Key) = none) ∨ ∃ q v, getH hs n = some q ∧ valV kvs (.inr n : Key) = some v ∧ Rp K G v (hpD q)
  | _, _, n, .nil => .inl ⟨rfl, rfl⟩
  | q :: hs, p :: kvs, n, .cons h t => by
    have e := kv_dec (n := n) h
    unfold getH valV
    rw [List.find?_cons, List.find?_cons, e]
    cases d : decide (q.1 = n) with
    | true => exact .inr ⟨q.2, p.2, rfl, rfl, h.2⟩
    | false => exact pair_get n t
theorem pair_any : ∀ {hs : Hps} {kvs : List (Key × V)} (n : Str), Paired (KvR K G) hs kvs → (kvs.any fun kv => decide (kv.1 = (.inr n : Key))) = hs.any fun e => decide (e.1 = n)
  | _, _, n, .nil => rfl
  | q :: hs, p :: kvs, n, .cons h t => by
    rw [List.any_cons, List.any_cons, kv_dec h, pair_any n t]
theorem pair_set : ∀ {hs : Hps} {kvs : List (Key × V)} (n : Str) {q : Rat × Rat} {v : V}, Paired (KvR K G) hs kvs → Rp K G v (hpD q) → Paired (KvR K G) (hs.map fun e => if e.1 = n then (e.1, q) else e) (kvs.map fun kv => if kv.1 = (.inr n : Key) then (kv.1, v) else kv)
  | _, _, n, _, _, .nil, _ => .nil
  | q :: hs, p :: kvs, n, _, _, .cons h t, r => by
    rw [List.map_cons, List.map_cons]
    refine .cons ?_ (pair_set n t r)
    have e := kv_dec (n := n) h
    by_cases z : q.1 = n
    · rw [decide_eq_true z] at e
      rw [if_pos z, if_pos (of_decide_eq_true e)]
      exact ⟨h.1, r⟩
    · rw [decide_eq_false z] at e
      rw [if_neg z, if_neg (of_decide_eq_false e)]
      exact h
theorem pair_put {hs : Hps} {kvs : List (Key × V)} (n : Str) {q : Rat × Rat} {v : V} (h : Paired (KvR K G) hs kvs) (r : Rp K G v (hpD q)) : Paired (KvR K G) (putH hs n q) (putK kvs (.inr n : Key) v) := by
  unfold putH putK
  rw [pair_any n h]
  split
  · exact pair_set n h r
  · exact paired_snoc h ⟨rfl, r⟩
theorem pair_drop : ∀ {hs : Hps} {kvs : List (Key × V)} (n : Str), Paired (KvR K G) hs kvs → Paired (KvR K G) (dropH hs n) (dropK kvs (.inr n : Key))
  | _, _, n, .nil => .nil
  | q :: hs, p :: kvs, n, .cons h t => by
    have e := kv_dec (n := n) h
    have ih := pair_drop n t
    unfold dropH dropK at *
    by_cases z : q.1 = n
    · rw [decide_eq_true z] at e
      rw [List.filter_cons_of_neg (by simp [z]), List.filter_cons_of_neg (by simp [of_decide_eq_true e])]
      exact ih
    · rw [decide_eq_false z] at e
      rw [List.filter_cons_of_pos (by simp [z]), List.filter_cons_of_pos (by simp [of_decide_eq_false e])]
      exact .cons h ih
end
/-! ### defs that may raise, where a world stands -/
def By (K : PySem.W.Frag) (us : List Addr) (S S2 : Hp → Hp → Prop) (ts : XK → TS) (sl : List Sl) (x : Option Dt) (cls : Value) : Prop := ∀ (G H : Hp) (σ : L2.St), Ex G H → FrD K G σ sl → S G H → ∀ (D : Ends) (E : XK), (∀ d, x = some d → ∀ v G2 H2, NxP us G H G2 H2 → S2 G2 H2 → Rp K G2 v d → D.rt v H2) → (x = some .non → ∀ σ2 G2 H2, NxP us G H G2 H2 → S2 G2 H2 → D.nx σ2 H2) → (x = none → ∀ G2 H2, Nx G H G2 H2 → E cls none H2) → ts E D σ H
section
variable {K : PySem.W.Frag} {us : List Addr} {S S1 S2 : Hp → Hp → Prop} {t : TS} {u r : XK → TS} {sl sl1 sl2 : List Sl} {N M : List Sl → Prop} {tc : TT} {te : TE} {C : Addr} {tr : TA} {xs : List Dt} {i : Nat} {x : Option Dt} {d : Dt} {c : Value}
theorem by_no (hS : Stb S) (h : EbT K S tc sl false) (g : By K us S S2 u sl x c) : By K us S S2 (fun E => tSeq (tIfS tc (r E) tNext) (u E)) sl x c := fun G H σ k f s D E q1 q2 q3 =>
  h G H σ k f s _ fun G1 H1 n1 => g G1 H1 σ n1.k (FrD.mono n1.g f) (hS _ _ _ _ s n1) D E (fun d e v G2 H2 n2 => q1 d e v G2 H2 (n1.p.trans n2)) (fun e σ2 G2 H2 n2 => q2 e σ2 G2 H2 (n1.p.trans n2)) fun e G2 H2 n2 => q3 e G2 H2 (n1.trans n2)
theorem by_raise (h : EbT K S tc sl true) : By K us S S2 (fun E => tSeq (tIfS tc (tRs C E) tNext) (u E)) sl none (.ref C) := fun G H σ k f s D E q1 q2 q3 =>
  h G H σ k f s _ fun G1 H1 n1 => q3 rfl G1 H1 n1
theorem by_ok {R : List Dt → Dt → Prop} {XF : List Dt → Value → Prop} (hS : Stb S) (h : EbA K S tr sl xs) (hr : R xs d) (g : By K us S S2 u sl x c) : By K us S S2 (fun E => tSeq (tDrop (tCall (spX K R XF) [] E tr)) (u E)) sl x c := fun G H σ k f s D E q1 q2 q3 =>
  h G H σ k f s _ fun vs G1 H1 n1 r1 => ⟨xs, G1, n1.k, rps_nil r1, .inl ⟨d, hr, fun v G2 H2 n2 r2 => g G2 H2 σ n2.k (FrD.mono (n1.g.trans n2.g) f) (hS _ _ _ _ (hS _ _ _ _ s n1) n2) D E (fun d e v G3 H3 n3 => q1 d e v G3 H3 ((n1.trans n2).p.trans n3)) (fun e σ2 G3 H3 n3 => q2 e σ2 G3 H3 ((n1.trans n2).p.trans n3)) fun e G3 H3 n3 => q3 e G3 H3 ((n1.trans n2).trans n3)⟩⟩
theorem by_out {R : List Dt → Dt → Prop} {XF : List Dt → Value → Prop} (h : EbA K S tr sl xs) (hX : XF xs c) : By K us S S2 (fun E => tSeq (tDrop (tCall (spX K R XF) [] E tr)) (u E)) sl none c := fun G H σ k f s D E q1 q2 q3 =>
  h G H σ k f s _ fun vs G1 H1 n1 r1 => ⟨xs, G1, n1.k, rps_nil r1, .inr ⟨c, hX, fun G2 H2 n2 => q3 rfl G2 H2 (n1.trans n2)⟩⟩
theorem by_end (h : ∀ E, Bn K us S S2 (u E) sl N) : By K us S S2 u sl (some .non) c := fun G H σ k f s D E q1 q2 q3 =>
  h E G H σ k f s D fun σ2 sl2 G2 H2 m2 n2 s2 f2 => q2 rfl σ2 G2 H2 n2 s2
theorem by_ret {te : XK → TE} (hS : Stb S) (h : ∀ E, Eb K S (te E) sl d) : By K us S S (fun E => tRet (te E)) sl (some d) c := fun G H σ k f s D E q1 q2 q3 =>
  h E G H σ k f s _ fun v G2 H2 n2 r2 => q1 d rfl v G2 H2 n2.p (hS _ _ _ _ s n2) r2
/-- a copy of the haps, one put, handed on -/
theorem bn_put {C x p : Addr} {b : Bst} {n : Str} {q : Rat × Rat} {E : XK} (hc : Cls K C) (h1 : NoAttr K C "_haps") (h2 : NoAttr K C "_speed") (hl : b.haps.length ≤ 90000) (hp : b.past.length ≤ 90000) :
    Bn K [x, p] (fun G H => BnAt K C x p G H b) (fun G H => BnAt K C x p G H ⟨putH b.haps n q, b.speed, b.past ++ [(b.haps, b.speed)]⟩) (tSeq (tAsg (tBM0 K "dict" rCopyD (tFld K (tVar 0) "_haps")) (gName 3)) (tSeq (sDPut (tVar 3) (tVar 1) (tVar 2)) (tDrop (tMeth C "_do" (spDo K C) [] E (tVar 0) (tCons (tVar 3) (tCons (tFld K (tVar 0) "_speed") tNil)))))) [.raw (.ref x), .d (.str n), .d (hpD q), .no] fun _ => True := fun G H σ k f s D qq => by
  obtain ⟨dx, a, sp, pv, e1, ⟨kvs, e2, e3⟩, e4, e5, e6⟩ := s.ex
  have lk : kvs.length = b.haps.length := (Paired.length e3).symm
  have fx := frd_raw (i := 0) f rfl
  obtain ⟨vn, fn, rn⟩ := frd_get (i := 1) f rfl
  obtain ⟨vq, fq', rq⟩ := frd_get (i := 2) f rfl
  cases rn
  have hlen : σ.length = 4 := (Paired.length f)
  refine ⟨_, fx, x, C, dx, _, _, rfl, e1, hc, h1, flds_haps _ _ _, ⟨.inr (.inr (.inl ⟨rfl, .inl ⟨kvs, k _ _ e2⟩⟩)), a, kvs, rfl, rfl, k _ _ e2, fun a2 ha2 => ?_⟩⟩
  have nxa : x ≠ a2 := ne_of_none e1 ha2
  have npa : p ≠ a2 := ne_of_none e5 ha2
  have ga2 : G a2 = none := free_of k ha2
  refine ⟨vq, by rw [List.getElem?_set_ne (by decide)]; exact fq', .ref a2, by rw [List.getElem?_set_self (by omega)], .str n, by rw [List.getElem?_set_ne (by decide)]; exact fn, a2, _, rfl, DPut.k (k := .inr n) upd_same (by rw [lk]; exact Nat.lt_of_le_of_lt hl (Nat.lt_of_lt_of_le (m := 100000) (by decide) (by decide))), ?_⟩
  rw [upd_upd]
  have pr := pair_put n e3 rq
  have nn : Nx G H (upd G a2 (.dK (putK kvs (.inr n) vq))) (upd H a2 (.dK (putK kvs (.inr n) vq))) := .new k ha2
  have hB2 := s.nx nn
  have hx2 : upd H a2 (.dK (putK kvs (.inr n) vq)) x = some (.ins C dx (flds a sp p)) := by rw [upd_ne nxa]; exact e1
  refine ⟨_, by rw [List.getElem?_set_ne (by decide)]; exact fx, x, dx, _, rfl, hx2, flds_no _ _ _ (by decide +kernel) (by decide +kernel) (by decide +kernel), ?_⟩
  refine ⟨.ref a2, by rw [List.getElem?_set_self (by omega)], _, by rw [List.getElem?_set_ne (by decide)]; exact fx, x, C, dx, _, _, rfl, hx2, hc, h2, flds_speed _ _ _, ?_⟩
  refine ⟨x, p, a2, sp, b, putH b.haps n q, b.speed, _, rfl, nn.k, hB2, ⟨_, upd_same, L2.Paired.mapP pr fun _ _ ⟨r1, r2⟩ => ⟨r1, r2.mono nn.g⟩⟩, e4.mono nn.g, hp, fun G2 H2 n2 b2 => ?_⟩
  exact qq _ [.raw (.ref x), .d (.str n), .d (hpD q), .no] G2 H2 trivial (nn.p.trans n2) b2 (frd_wk (FrD.mono (nn.g.trans n2.g) (frd_set (.raw (.ref a2)) 3 f)) (.cons (.same _) (.cons (.same _) (.cons (.same _) (.cons (.no _) .nil)))))
end
section
variable {K : PySem.W.Frag} {S : Hp → Hp → Prop} {sl : List Sl} {ty : TE} {C x p : Addr} {b : Bst} {i : Nat} {n : Str} {q : Rat × Rat} {tt uu : TT} {a c : Bool}
theorem eb_dnotin (hB : ∀ G H, S G H → BnR K C x G H b) (hS : Stb S) (hc : Cls K C) (hn : NoAttr K C "_haps") (hi : sl[i]? = some (.raw (.ref x))) (h : Ev K ty sl (.str n)) : Eb K S (tDNotIn ty (tFld K (tVar i) "_haps")) sl (.bl (!(getH b.haps n).isSome)) := fun G H σ k f s Q qq =>
  h G H σ k f _ fun v G1 H1 n1 r1 => by
    cases r1
    obtain ⟨dx, a, sp, pq, e1, ⟨kvs, e2, e3⟩, _⟩ := (hB _ _ (hS _ _ _ _ s n1)).ex
    refine ⟨.ref x, frd_raw (FrD.mono n1.g f) hi, x, C, dx, _, _, rfl, e1, hc, hn, flds_haps _ _ _, a, _, rfl, DGet.r (k := .inr n) (rd_mono n1.k e2), ?_⟩
    have e : (valV kvs (.inr n : Key)).isSome = (getH b.haps n).isSome := by
      rcases pair_get n e3 with ⟨h1, h2⟩ | ⟨_, _, h1, h2, _⟩ <;> rw [h1, h2] <;> rfl
    rw [e]
    exact qq _ G1 H1 n1 (.bl _)
theorem eb_dget (hB : ∀ G H, S G H → BnR K C x G H b) (hc : Cls K C) (hn : NoAttr K C "_haps") (hi : sl[i]? = some (.raw (.ref x))) (h : Ev K ty sl (.str n)) (hq : getH b.haps n = some q) : Eb K S (tDGet (tFld K (tVar i) "_haps") ty) sl (hpD q) := fun G H σ k f s Q qq => by
  obtain ⟨dx, a, sp, pq, e1, ⟨kvs, e2, e3⟩, _⟩ := (hB _ _ s).ex
  refine ⟨.ref x, frd_raw f hi, x, C, dx, _, _, rfl, e1, hc, hn, flds_haps _ _ _, ?_⟩
  refine h G H σ k f _ fun v G1 H1 n1 r1 => ?_
  cases r1
  rcases pair_get n e3 with ⟨h1, _⟩ | ⟨q2, v, h1, h2, h3⟩
  · rw [h1] at hq
    cases hq
  · rw [h1] at hq
    cases hq
    exact ⟨a, v, rfl, h2 ▸ DGet.r (k := .inr n) (rd_mono (fun c o z => n1.h c o z) (rd_mono k e2)), qq v G1 H1 n1 (h3.mono n1.g)⟩
theorem eb_lenH (hB : ∀ G H, S G H → BnR K C x G H b) (hc : Cls K C) (hn : NoAttr K C "_haps") (hi : sl[i]? = some (.raw (.ref x))) : Eb K S (tCB rLenR (tCons (tFld K (tVar i) "_haps") tNil)) sl (.int (b.haps.length : Nat)) := fun G H σ k f s Q qq => by
  obtain ⟨dx, a, sp, pq, e1, ⟨kvs, e2, e3⟩, _⟩ := (hB _ _ s).ex
  refine ⟨.ref x, frd_raw f hi, x, C, dx, _, _, rfl, e1, hc, hn, flds_haps _ _ _, a, kvs, rfl, rd_mono k e2, ?_⟩
  rw [← Paired.length e3]
  exact qq _ G H (.refl k) (.int _)
theorem ebt_or (hS : Stb S) (h1 : EbT K S tt sl a) (h2 : a = false → EbT K S uu sl c) (e : (a || c) = d) : EbT K S (tOr tt uu) sl d := fun G H σ k f s Q q => h1 G H σ k f s _ fun G1 H1 n1 => by
  subst e
  cases a with
  | true => exact q G1 H1 n1
  | false => exact h2 rfl G1 H1 σ n1.k (FrD.mono n1.g f) (hS _ _ _ _ s n1) _ fun G2 H2 n2 => q G2 H2 (n1.trans n2)
theorem ebt_and (hS : Stb S) (h1 : EbT K S tt sl a) (h2 : a = true → EbT K S uu sl c) (e : (a && c) = d) : EbT K S (tAnd tt uu) sl d := fun G H σ k f s Q q => h1 G H σ k f s _ fun G1 H1 n1 => by
  subst e
  cases a with
  | false => exact q G1 H1 n1
  | true => exact h2 rfl G1 H1 σ n1.k (FrD.mono n1.g f) (hS _ _ _ _ s n1) _ fun G2 H2 n2 => q G2 H2 (n1.trans n2)
/-- haps kept, another speed -/
theorem bn_turn {te : TE} {E : XK} {v : Rat} (hc : Cls K C) (h1 : NoAttr K C "_haps") (hp : b.past.length ≤ 90000) (hx : sl[0]? = some (.raw (.ref x))) (h : Eb K (fun G H => BnAt K C x p G H b) te sl (fq v)) :
    Bn K [x, p] (fun G H => BnAt K C x p G H b) (fun G H => BnAt K C x p G H ⟨b.haps, v, b.past ++ [(b.haps, b.speed)]⟩) (tDrop (tMeth C "_do" (spDo K C) [] E (tVar 0) (tCons (tFld K (tVar 0) "_haps") (tCons te tNil)))) sl fun _ => True := fun G H σ k f s D qq => by
  obtain ⟨dx, a, sp, pv, e1, e2, _⟩ := s.ex
  have fx := frd_raw f hx
  refine ⟨_, fx, x, dx, _, rfl, e1, flds_no _ _ _ (by decide +kernel) (by decide +kernel) (by decide +kernel), _, fx, x, C, dx, _, _, rfl, e1, hc, h1, flds_haps _ _ _, ?_⟩
  refine h G H σ k f s _ fun u G1 H1 n1 r1 => ?_
  exact ⟨x, p, a, u, b, b.haps, v, G1, rfl, n1.k, s.nx n1, e2.mono n1.g, r1, hp, fun G2 H2 n2 b2 => qq _ sl G2 H2 trivial (n1.p.trans n2) b2 (FrD.mono (n1.g.trans n2.g) f)⟩
end
section
variable {P : Program} {w : World} {K : PySem.W.Frag} {mg : Str → Option Value} {base : Heap} {m q : Str} {st : Stmt} {N ps : List Str} {k : Nat} {C : Addr} {t : XK → TS}
theorem start_bn {G : Hp} {x : Addr} {ws : List V} {ds : List Dt} (r : Rps K G ws ds) (e : ds.length + 1 = ps.length) : FrD K G (L2.start N (.ref x :: ws)) (Sl.raw (.ref x) :: (ds.map Sl.d ++ List.replicate (N.length - ps.length) .no)) := by
  unfold L2.start
  have e2 : (V.ref x :: ws).length = ps.length := by
    show ws.length + 1 = _
    rw [r.length]
    exact e
  rw [e2]
  exact .cons (.raw _) (frd_start _ r)
theorem DdM.deed {R : Bst → List Dt → Bst → Prop} {XF : Bst → List Dt → Value → Prop} (D : DdM K C m q st ps) (S : FnScope N ps (defScope st)) (hl : ∀ b ds b', R b ds b' → ds.length + 1 = ps.length) (hl2 : ∀ b ds c, XF b ds c → ds.length + 1 = ps.length)
    (h1 : ∀ (f : Addr) (cdv : Value) (A : Around) (outer : List Env) (s : Shared) (H : Hp) (E : XK), Room k (A.deeper (envOfC q (defScope st) s.heap.objs.size f cdv)) → PSs (cxOf (L2.CX P w) P w K mg base N q (defScope st) f cdv A outer s H E) (defBody st) (t E))
    (h2 : ∀ x p b ds b', R b ds b' → By K [x, p] (fun G H => BnAt K C x p G H b) (fun G H => BnAt K C x p G H b') t (Sl.raw (.ref x) :: (ds.map Sl.d ++ List.replicate (N.length - ps.length) .no)) (some .non) .none)
    (h3 : ∀ x p b ds c, XF b ds c → By K [x, p] (fun G H => BnAt K C x p G H b) (fun G H => BnAt K C x p G H b) t (Sl.raw (.ref x) :: (ds.map Sl.d ++ List.replicate (N.length - ps.length) .no)) none c) : HasM P w K mg base (L2.CX P w) (k + 1) C m ps (spBd K C R XF) := by
  refine D.anyX S (fun vs H Q E h => ?_) h1 fun vs H Q E h => ?_
  · obtain ⟨x, p, ws, ds, b, G, rfl, _, r, _, h⟩ := h
    show ws.length + 1 = _
    rw [r.length]
    rcases h with ⟨b', hR, _⟩ | ⟨c, hX, _⟩
    · exact hl b ds b' hR
    · exact hl2 b ds c hX
  · obtain ⟨x, p, ws, ds, b, G, rfl, kk, r, hB, h⟩ := h
    rcases h with ⟨b', hR, qq⟩ | ⟨c, hX, qq⟩
    · exact h2 x p b ds b' hR G H _ kk (start_bn r (hl b ds b' hR)) hB _ E (fun d e v G2 H2 n2 b2 r2 => by cases e; cases r2; exact qq G2 H2 n2 b2) (fun _ σ2 G2 H2 n2 b2 => qq G2 H2 n2 b2) (fun z => by cases z)
    · exact h3 x p b ds c hX G H _ kk (start_bn r (hl2 b ds c hX)) hB _ E (fun d e => by cases e) (fun e => by cases e) fun _ => qq
theorem DdM.query {R : Bst → List Dt → Dt → Prop} {XF : Bst → List Dt → Value → Prop} (D : DdM K C m q st ps) (S : FnScope N ps (defScope st)) (hl : ∀ b ds d, R b ds d → ds.length + 1 = ps.length) (hl2 : ∀ b ds c, XF b ds c → ds.length + 1 = ps.length)
    (h1 : ∀ (f : Addr) (cdv : Value) (A : Around) (outer : List Env) (s : Shared) (H : Hp) (E : XK), Room k (A.deeper (envOfC q (defScope st) s.heap.objs.size f cdv)) → PSs (cxOf (L2.CX P w) P w K mg base N q (defScope st) f cdv A outer s H E) (defBody st) (t E))
    (h2 : ∀ x b ds d, R b ds d → By K [] (fun G H => BnR K C x G H b) (fun G H => BnR K C x G H b) t (Sl.raw (.ref x) :: (ds.map Sl.d ++ List.replicate (N.length - ps.length) .no)) (some d) .none)
    (h3 : ∀ x b ds c, XF b ds c → By K [] (fun G H => BnR K C x G H b) (fun G H => BnR K C x G H b) t (Sl.raw (.ref x) :: (ds.map Sl.d ++ List.replicate (N.length - ps.length) .no)) none c) : HasM P w K mg base (L2.CX P w) (k + 1) C m ps (spBq K C R XF) := by
  refine D.anyX S (fun vs H Q E h => ?_) h1 fun vs H Q E h => ?_
  · obtain ⟨x, ws, ds, b, G, rfl, _, r, _, h⟩ := h
    show ws.length + 1 = _
    rw [r.length]
    rcases h with ⟨b', hR, _⟩ | ⟨c, hX, _⟩
    · exact hl b ds b' hR
    · exact hl2 b ds c hX
  · obtain ⟨x, ws, ds, b, G, rfl, kk, r, hB, h⟩ := h
    rcases h with ⟨d, hR, qq⟩ | ⟨c, hX, qq⟩
    · exact h2 x b ds d hR G H _ kk (start_bn r (hl b ds d hR)) hB _ E (fun d' e v G2 H2 n2 b2 r2 => by cases e; exact qq v G2 H2 n2.nx r2) (fun e σ2 G2 H2 n2 b2 => by cases e; exact qq .non G2 H2 n2.nx .non) (fun z => by cases z)
    · exact h3 x b ds c hX G H _ kk (start_bn r (hl2 b ds c hX)) hB _ E (fun d e => by cases e) (fun e => by cases e) fun _ => qq
/-- a question that can't be refused, of a method that raises nothing -/
theorem DdM.ask {R : Bst → List Dt → Dt → Prop} {t : TS} (D : DdM K C m q st ps) (S : FnScope N ps (defScope st)) (hl : ∀ b ds d, R b ds d → ds.length + 1 = ps.length)
    (h1 : ∀ (f : Addr) (cdv : Value) (A : Around) (outer : List Env) (s : Shared) (H : Hp) (E : XK), Room k (A.deeper (envOfC q (defScope st) s.heap.objs.size f cdv)) → PSs (cxOf CX0 P w K mg base N q (defScope st) f cdv A outer s H E).nox (defBody st) t)
    (h2 : ∀ x b ds d, R b ds d → By K [] (fun G H => BnR K C x G H b) (fun G H => BnR K C x G H b) (fun _ => t) (Sl.raw (.ref x) :: (ds.map Sl.d ++ List.replicate (N.length - ps.length) .no)) (some d) .none) : HasM P w K mg base CX0 (k + 1) C m ps (spBq K C R fun _ _ _ => False) := by
  refine D.any S (fun vs H Q E h => ?_) h1 fun vs H Q E h => ?_
  · obtain ⟨x, ws, ds, b, G, rfl, _, r, _, h⟩ := h
    show ws.length + 1 = _
    rw [r.length]
    rcases h with ⟨b', hR, _⟩ | ⟨c, hX, _⟩
    · exact hl b ds b' hR
    · exact hX.elim
  · obtain ⟨x, ws, ds, b, G, rfl, kk, r, hB, h⟩ := h
    rcases h with ⟨d, hR, qq⟩ | ⟨c, hX, qq⟩
    · exact h2 x b ds d hR G H _ kk (start_bn r (hl b ds d hR)) hB _ E (fun d' e v G2 H2 n2 b2 r2 => by cases e; exact qq v G2 H2 n2.nx r2) (fun e σ2 G2 H2 n2 b2 => by cases e; exact qq .non G2 H2 n2.nx .non) (fun z => by cases z)
    · exact hX.elim
end
/-! ### a bench made, used and forgotten -/
/-! ### what goes with a speed, told from a seat; clocks -/
end Z
namespace L2
open PySem PySem.Spec PyProof.Rows
/-! ### o.f among the targets -/
def gFld (K : PySem.W.Frag) (ta : TE) (f : Str) : TG := fun v σ H Q => ta σ H fun x H1 => ∃ a C dx fs, x = .ref a ∧ H1 a = some (.ins C dx fs) ∧ Cls K C ∧ NoAttr K C f ∧ fs.length < 1000 ∧ Q σ (upd H1 a (.ins C dx (putF f v fs)))
theorem pg_fld {X : Cx} {o : Expr} {f : Str} {pos : Pos} {ta : TE} (ho : PE X o ta) : PG X (.Attribute o f pos) (gFld X.K ta f) := by
  refine ⟨fun pins s σ H v u Q I r h => ?_⟩
  rw [assign_Attribute]
  refine wpAny_bind (wpAny_holding (thn (ho.run pins s σ H _ I h) fun ov s1 ⟨x, H1, I1, r1, a, C, dx, fs, ex, ea, c, n, l, q⟩ => ?_))
  subst ex
  obtain rfl : ov = Value.ref a := r1
  exact wpAny_bind (wpAny_standAt (wpAny_bind (wpAny_holding (setattr_ok I1 ea c n l r fun s3 I3 => wpAny_release ⟨σ, _, I3, q⟩))))
/-! ### list == [] -/
def rEqE (K : PySem.W.Frag) : R2 := fun x y H Q => ∃ a b xs, x = .ref a ∧ y = .ref b ∧ SqL K H a xs ∧ SqL K H b [] ∧ Q (.bl xs.isEmpty) H
theorem op_eqE {X : Cx} (hu : X.A.units < cLine) : OpR X (compareOp .Eq) (rEqE X.K) := by
  intro pins s σ H x y v u Q I rx ry h
  obtain ⟨a, b, xs, rfl, rfl, ha, hb, q⟩ := h
  obtain ⟨its, rv, pl, _⟩ := I.list ha
  obtain ⟨its2, rv2, pl2, _⟩ := I.list hb
  cases rx
  cases ry
  cases rv2
  show wpAny _ _ (richCompare .Eq _ _) _ _ _
  cases rv with
  | nil => exact PySem.SeqAt.RcAt.lists (e := fun _ => true) pl.isList pl2.isList rfl hu (fun j h1 h2 => absurd h1 (Nat.not_lt_zero _)) _ _ _ _ ⟨.bl _, H, I, rfl, q⟩
  | cons r rr => exact PySem.SeqAt.RcAt.lists_lengths pl.isList pl2.isList (by simp) hu _ _ _ _ ⟨.bl _, H, I, rfl, q⟩
end L2
namespace Z
open PySem PySem.Spec PyProof.Rows L2 RZ
open Evl (Ex)
/-! ### texts in order -/
def leS (a b : Str) : Bool := !ltCps b.cps.toList a.cps.toList
theorem ltc_tri : ∀ a b : List Nat, ltCps a b = false → ltCps b a = false → a = b
  | [], [], _, _ => rfl
  | [], _ :: _, h, _ => by simp [ltCps] at h
  | _ :: _, [], _, h => by simp [ltCps] at h
  | a :: r, b :: t, h, g => by
    simp only [ltCps, Bool.or_eq_false_iff, Bool.and_eq_false_iff, decide_eq_false_iff_not, beq_eq_false_iff_ne] at h g
    have e : a = b := by omega
    subst e
    have h2 := h.2.resolve_left (fun z => z rfl)
    have g2 := g.2.resolve_left (fun z => z rfl)
    rw [ltc_tri r t h2 g2]
theorem ltc_tr : ∀ a b c : List Nat, ltCps b a = false → ltCps c b = false → ltCps c a = false
  | [], _, [], _, _ => rfl
  | _ :: _, _, [], _, g => by
    rename_i b h
    cases b with
    | nil => simp [ltCps] at h
    | cons => simp [ltCps] at g
  | [], _, _ :: _, _, _ => rfl
  | a :: r, [], c :: t, h, _ => by simp [ltCps] at h
  | a :: r, b :: s, c :: t, h, g => by
    simp only [ltCps, Bool.or_eq_false_iff, Bool.and_eq_false_iff, decide_eq_false_iff_not, beq_eq_false_iff_ne] at h g ⊢
    refine ⟨by omega, ?_⟩
    by_cases e : c = a
    · have e1 : b = a := by omega
      have e2 : c = b := by omega
      exact .inr (ltc_tr r s t (h.2.resolve_left (fun z => z e1)) (g.2.resolve_left (fun z => z e2)))
    · exact .inl e
theorem leS_tot (a b : Str) : leS a b = true ∨ leS b a = true := by
  have key : ∀ a b : List Nat, ltCps a b = false ∨ ltCps b a = false := by
    intro a
    induction a with
    | nil => intro b; cases b <;> simp [ltCps]
    | cons x r ih =>
      intro b
      cases b with
      | nil => simp [ltCps]
      | cons y t =>
        simp only [ltCps, Bool.or_eq_false_iff, Bool.and_eq_false_iff, decide_eq_false_iff_not, beq_eq_false_iff_ne]
        rcases Nat.lt_trichotomy x y with h | h | h
        · exact .inr ⟨by omega, .inl (by omega)⟩
        · rcases ih t with g | g
          · exact .inl ⟨by omega, .inr g⟩
          · exact .inr ⟨by omega, .inr g⟩
        · exact .inl ⟨by omega, .inl (by omega)⟩
  unfold leS
  rcases key b.cps.toList a.cps.toList with h | h <;> simp [h]
theorem leS_tr {a b c : Str} (h : leS a b = true) (g : leS b c = true) : leS a c = true := by
  unfold leS at *
  rw [Bool.not_eq_true'] at *
  exact ltc_tr _ _ _ h g
theorem leS_eq {a b : Str} (h : leS a b = true) (g : leS b a = true) : a = b := by
  unfold leS at *
  rw [Bool.not_eq_true'] at *
  have e := ltc_tri _ _ g h
  cases a
  cases b
  congr 1
  exact Array.ext' e
theorem srtS_pair : ∀ {l : List Str}, sortedS l = true → l.Pairwise fun a b => leS a b = true
  | [], _ => .nil
  | x :: r, h => by
    have key : ∀ (r : List Str) (x : Str), risingS x r = true → (x :: r).Pairwise fun a b => leS a b = true := by
      intro r
      induction r with
      | nil => intro x _; exact List.pairwise_singleton _ _
      | cons y t ih =>
        intro x h
        have h' : (leS x y && risingS y t) = true := h
        rw [Bool.and_eq_true] at h'
        have p := ih y h'.2
        refine List.pairwise_cons.mpr ⟨fun z hz => ?_, p⟩
        rcases List.mem_cons.mp hz with rfl | hz
        · exact h'.1
        · exact leS_tr h'.1 ((List.pairwise_cons.mp p).1 z hz)
    exact key r x h
theorem srtS_one : ∀ {l m : List Str}, l.Perm m → (l.Pairwise fun a b => leS a b = true) → (m.Pairwise fun a b => leS a b = true) → l = m
  | [], m, p, _, _ => (List.nil_perm.mp p).symm
  | x :: l, [], p, _, _ => by simp at p
  | x :: l, y :: m, p, h, g => by
    have e : x = y := by
      have hx : x ∈ y :: m := p.mem_iff.mp List.mem_cons_self
      have hy : y ∈ x :: l := p.mem_iff.mpr List.mem_cons_self
      rcases List.mem_cons.mp hx with e | hx
      · exact e
      · rcases List.mem_cons.mp hy with e | hy
        · exact e.symm
        · exact leS_eq ((List.pairwise_cons.mp h).1 y hy) ((List.pairwise_cons.mp g).1 x hx)
    subst e
    rw [srtS_one (List.perm_cons x |>.mp p) (List.pairwise_cons.mp h).2 (List.pairwise_cons.mp g).2]
def srtN (l : List Str) : List Str := l.mergeSort leS
theorem srtN_is {l ys : List Str} (p : ys.Perm l) (h : sortedS ys = true) : ys = srtN l :=
  srtS_one (p.trans (List.mergeSort_perm l leS).symm) (srtS_pair h) (List.pairwise_mergeSort (le := leS) (fun a b c h g => leS_tr h g) (fun a b => by rcases leS_tot a b with h | h <;> rw [h]; rfl; exact Bool.or_true _) l)
theorem srtN_len (l : List Str) : (srtN l).length = l.length := List.length_mergeSort ..
theorem srtN_mem {l : List Str} {n : Str} : n ∈ srtN l ↔ n ∈ l := (List.mergeSort_perm l leS).mem_iff
/-! ### benches: a deed undone, a name dropped, the names -/
theorem paired_last {α β : Type} {F : α → β → Prop} : ∀ {l : List α} {a : α} {r : List β}, Paired F (l ++ [a]) r → ∃ r0 v, r = r0 ++ [v] ∧ Paired F l r0 ∧ F a v
  | [], a, _, h => by
    cases h with
    | cons h t =>
      cases t
      exact ⟨[], _, rfl, .nil, h⟩
  | x :: l, a, _, h => by
    cases h with
    | cons h t =>
      obtain ⟨r0, v, e, p, g⟩ := paired_last t
      exact ⟨_ :: r0, v, by rw [e]; rfl, .cons h p, g⟩
section
variable {K : PySem.W.Frag} {C x p : Addr} {b : Bst} {sl : List Sl} {S : Hp → Hp → Prop} {i : Nat} {n : Str}
theorem eb_pastE (hB : ∀ G H, S G H → BnAt K C x p G H b) (hc : Cls K C) (hn : NoAttr K C "_past") (hi : sl[i]? = some (.raw (.ref x))) : Eb K S (tOp (rEqE K) (tFld K (tVar i) "_past") (tLst tNil)) sl (.bl b.past.isEmpty) := fun G H σ k f s Q qq => by
  obtain ⟨dx, a, sp, pv, e1, e2, e3, e4, e5⟩ := (hB _ _ s).ex
  refine ⟨.ref x, frd_raw f hi, x, C, dx, _, _, rfl, e1, hc, hn, flds_past _ _ _, ⟨by exact sz_ok (Nat.zero_le _), fun q hq => ⟨p, q, pv, rfl, rfl, .of (by rw [upd_ne (ne_of_none e4 hq)]; exact e4), .of upd_same, ?_⟩⟩⟩
  have e : pv.isEmpty = b.past.isEmpty := by
    revert e5
    generalize b.past = l
    intro e5
    cases e5 <;> rfl
  rw [e]
  exact qq _ _ _ (Nx.new k hq) (.bl _)
/-- the last deed undone -/
theorem bn_undo {h0 : Hps} {s0 : Rat} {pt : List (Hps × Rat)} (hc : Cls K C) (h1 : NoAttr K C "_haps") (h2 : NoAttr K C "_speed") (h3 : NoAttr K C "_past") (hx : sl[0]? = some (.raw (.ref x))) (hp : b.past = pt ++ [(h0, s0)]) :
    Bn K [x, p] (fun G H => BnAt K C x p G H b) (fun G H => BnAt K C x p G H ⟨h0, s0, pt⟩) (tAsg (tBM0 K "list" rPop (tFld K (tVar 0) "_past")) (gTup K 2 (gCons (gFld K (tVar 0) "_haps") (gCons (gFld K (tVar 0) "_speed") gNil)))) sl fun _ => True := fun G H σ k f s D qq => by
  obtain ⟨dx, a, sp, pv, e1, e2, e3, e4, e5⟩ := s.ex
  rw [hp] at e5
  obtain ⟨r0, v, rfl, e6, ⟨q, a1, s1, rfl, t1, t2, t3⟩⟩ := paired_last e5
  have fx := frd_raw f hx
  have nxp := s.ne
  have gp := s.gp
  have gx := s.gx
  have kp : ∀ u, Ex G (upd H p u) := fun u c o e => by
    rw [upd_ne (fun y : c = p => by rw [y, gp] at e; cases e)]
    exact k _ _ e
  refine ⟨_, fx, x, C, dx, _, _, rfl, e1, hc, h3, flds_past _ _ _, ⟨.inl ⟨rfl, ⟨_, .inl (.inl e4)⟩⟩, p, _, .ref q, rfl, rfl, e4, by simp, ?_⟩⟩
  rw [List.dropLast_concat]
  have hx2 : upd H p (.lst r0) x = some (.ins C dx (flds a sp p)) := by rw [upd_ne nxp]; exact e1
  refine ⟨q, [.ref a1, s1], rfl, exT (kp _) t1, rfl, .ref a1, [s1], rfl, _, fx, x, C, dx, _, rfl, hx2, hc, h1, by rw [flds_eq]; show 3 < 1000; decide, ?_⟩
  rw [flds_put1]
  refine ⟨s1, [], rfl, _, fx, x, C, dx, _, rfl, upd_same, hc, h2, by rw [flds_eq]; show 3 < 1000; decide, rfl, ?_⟩
  rw [flds_put2, upd_upd]
  refine qq _ sl G _ trivial ⟨fun _ _ e => e, fun c u e => ?_, fun c u hc e => ?_, fun c hc => ?_, fun c h1 h2 => h1⟩ ⟨⟨dx, a1, s1, r0, upd_same, t2, t3, by rw [upd_ne nxp.symm, upd_same], e6⟩, gx, gp⟩ f
  · rw [upd_ne (fun y : c = x => by rw [y, gx] at e; cases e), upd_ne (fun y : c = p => by rw [y, gp] at e; cases e)]
    exact k _ _ e
  · rw [upd_ne (fun y : c = x => hc (by simp [y])), upd_ne (fun y : c = p => hc (by simp [y]))]
    exact e
  · by_cases z1 : c = x
    · rw [z1, upd_same]; intro z; cases z
    · rw [upd_ne z1]
      by_cases z2 : c = p
      · rw [z2, upd_same]; intro z; cases z
      · rw [upd_ne z2]
        exact hc
/-- a copy of the haps, one dropped, handed on -/
theorem bn_drop {E : XK} (hc : Cls K C) (h1 : NoAttr K C "_haps") (h2 : NoAttr K C "_speed") (hn : getH b.haps n ≠ none) (hp : b.past.length ≤ 90000) :
    Bn K [x, p] (fun G H => BnAt K C x p G H b) (fun G H => BnAt K C x p G H ⟨dropH b.haps n, b.speed, b.past ++ [(b.haps, b.speed)]⟩) (tSeq (tAsg (tBM0 K "dict" rCopyD (tFld K (tVar 0) "_haps")) (gName 2)) (tSeq (sDDel (tVar 2) (tVar 1)) (tDrop (tMeth C "_do" (spDo K C) [] E (tVar 0) (tCons (tVar 2) (tCons (tFld K (tVar 0) "_speed") tNil)))))) [.raw (.ref x), .d (.str n), .no] fun _ => True := fun G H σ k f s D qq => by
  obtain ⟨dx, a, sp, pv, e1, ⟨kvs, e2, e3⟩, e4, e5, e6⟩ := s.ex
  have fx := frd_raw (i := 0) f rfl
  obtain ⟨vn, fn, rn⟩ := frd_get (i := 1) f rfl
  cases rn
  have hlen : σ.length = 3 := (Paired.length f)
  refine ⟨_, fx, x, C, dx, _, _, rfl, e1, hc, h1, flds_haps _ _ _, ⟨.inr (.inr (.inl ⟨rfl, .inl ⟨kvs, k _ _ e2⟩⟩)), a, kvs, rfl, rfl, k _ _ e2, fun a2 ha2 => ?_⟩⟩
  have nxa : x ≠ a2 := ne_of_none e1 ha2
  refine ⟨.ref a2, by rw [List.getElem?_set_self (by omega)], .str n, by rw [List.getElem?_set_ne (by decide)]; exact fn, a2, kvs, .inr n, rfl, upd_same, rfl, ?_, ?_⟩
  · rcases pair_get n e3 with ⟨g1, _⟩ | ⟨_, _, _, g2, _⟩
    · exact absurd g1 hn
    · rw [g2]
      rfl
  rw [upd_upd]
  have pr := pair_drop n e3
  have nn : Nx G H (upd G a2 (.dK (dropK kvs (.inr n)))) (upd H a2 (.dK (dropK kvs (.inr n)))) := .new k ha2
  have hB2 := s.nx nn
  have hx2 : upd H a2 (.dK (dropK kvs (.inr n))) x = some (.ins C dx (flds a sp p)) := by rw [upd_ne nxa]; exact e1
  refine ⟨_, by rw [List.getElem?_set_ne (by decide)]; exact fx, x, dx, _, rfl, hx2, flds_no _ _ _ (by decide +kernel) (by decide +kernel) (by decide +kernel), ?_⟩
  refine ⟨.ref a2, by rw [List.getElem?_set_self (by omega)], _, by rw [List.getElem?_set_ne (by decide)]; exact fx, x, C, dx, _, _, rfl, hx2, hc, h2, flds_speed _ _ _, ?_⟩
  refine ⟨x, p, a2, sp, b, dropH b.haps n, b.speed, _, rfl, nn.k, hB2, ⟨_, upd_same, L2.Paired.mapP pr fun _ _ ⟨r1, r2⟩ => ⟨r1, r2.mono nn.g⟩⟩, e4.mono nn.g, hp, fun G2 H2 n2 b2 => ?_⟩
  exact qq _ [.raw (.ref x), .d (.str n), .no] G2 H2 trivial (nn.p.trans n2) b2 (frd_wk (FrD.mono (nn.g.trans n2.g) (frd_set (.raw (.ref a2)) 2 f)) (.cons (.same _) (.cons (.same _) (.cons (.no _) .nil))))
end
/-! ### what raises within an expression -/
def Ebx (K : PySem.W.Frag) (S : Hp → Hp → Prop) (te : XK → TE) (sl : List Sl) (c : Value) : Prop := ∀ (G H : Hp) (σ : L2.St), Ex G H → FrD K G σ sl → S G H → ∀ (E : XK) (Q : VK), (∀ G2 H2, Nx G H G2 H2 → E c none H2) → te E σ H Q
def EbAx (K : PySem.W.Frag) (S : Hp → Hp → Prop) (ta : XK → TA) (sl : List Sl) (c : Value) : Prop := ∀ (G H : Hp) (σ : L2.St), Ex G H → FrD K G σ sl → S G H → ∀ (E : XK) (Q : List V → Hp → Prop), (∀ G2 H2, Nx G H G2 H2 → E c none H2) → ta E σ H Q
section
variable {K : PySem.W.Frag} {S S2 : Hp → Hp → Prop} {us : List Addr} {sl : List Sl} {C x p : Addr} {b : Bst} {i : Nat} {m : Str} {tr : TA} {xs : List Dt} {c : Value} {d : Dt} {te : XK → TE} {ta : XK → TA} {u : XK → TS} {y : Option Dt}
theorem ebx_mq {R : Bst → List Dt → Dt → Prop} {XF : Bst → List Dt → Value → Prop} (hS : Stb S) (hB : ∀ G H, S G H → BnR K C x G H b) (hi : sl[i]? = some (.raw (.ref x))) (hm1 : ¬ m = "_past") (hm2 : ¬ m = "_speed") (hm3 : ¬ m = "_haps") (h : EbA K S tr sl xs) (hX : XF b xs c) :
    Ebx K S (fun E => tMeth C m (spBq K C R XF) [] E (tVar i) tr) sl c := fun G H σ k f s E Q q => by
  obtain ⟨dx, a, sp, pq, h1, _⟩ := (hB G H s).ex
  refine ⟨.ref x, frd_raw f hi, x, dx, _, rfl, h1, flds_no _ _ _ hm1 hm2 hm3, ?_⟩
  exact h G H σ k f s _ fun vs G1 H1 n1 r1 => ⟨x, vs ++ [], xs, b, G1, rfl, n1.k, rps_nil r1, hB G1 H1 (hS _ _ _ _ s n1), .inr ⟨c, hX, fun G2 H2 n2 => q G2 H2 (n1.trans n2)⟩⟩
theorem eax_1 {tr : XK → TA} (h : Ebx K S te sl c) : EbAx K S (fun E => tCons (te E) (tr E)) sl c := fun G H σ k f s E Q q => h G H σ k f s E _ q
theorem eax_2 {tr : XK → TA} (hS : Stb S) (h1 : ∀ E, Eb K S (te E) sl d) (h : EbAx K S tr sl c) : EbAx K S (fun E => tCons (te E) (tr E)) sl c := fun G H σ k f s E Q q =>
  h1 E G H σ k f s _ fun v G1 H1 n1 r1 => h G1 H1 σ n1.k (FrD.mono n1.g f) (hS _ _ _ _ s n1) E _ fun G2 H2 n2 => q G2 H2 (n1.trans n2)
theorem ebx_arg {sp : XK → L2.Sp} {zs : List V} {F : XK → XK} (h : EbAx K S ta sl c) : Ebx K S (fun E => tCall (sp E) zs (F E) (ta E)) sl c := fun G H σ k f s E Q q => h G H σ k f s E _ q
theorem by_retX (h : Ebx K S te sl c) : By K us S S2 (fun E => tRet (te E)) sl none c := fun G H σ k f s D E q1 q2 q3 => h G H σ k f s E _ fun G2 H2 n2 => q3 rfl G2 H2 n2
theorem by_dropX (h : Ebx K S te sl c) : By K us S S2 (fun E => tSeq (tDrop (te E)) (u E)) sl none c := fun G H σ k f s D E q1 q2 q3 => h G H σ k f s E _ fun G2 H2 n2 => q3 rfl G2 H2 n2
theorem by_drop (hS : Stb S) (h : ∀ E, Eb K S (te E) sl d) (g : By K us S S2 u sl y c) : By K us S S2 (fun E => tSeq (tDrop (te E)) (u E)) sl y c := fun G H σ k f s D E q1 q2 q3 =>
  h E G H σ k f s _ fun v G1 H1 n1 r1 => g G1 H1 σ n1.k (FrD.mono n1.g f) (hS _ _ _ _ s n1) D E (fun d e v G2 H2 n2 => q1 d e v G2 H2 (n1.p.trans n2)) (fun e σ2 G2 H2 n2 => q2 e σ2 G2 H2 (n1.p.trans n2)) fun e G2 H2 n2 => q3 e G2 H2 (n1.trans n2)
/-- sorted(self._haps) -/
def rSortH : List V → Hp → VK → Prop := fun xs H Q => ∃ (a : Addr) (kvs : List (Key × V)) (ks : List Str), xs = [.ref a] ∧ Rd H a (.dK kvs) ∧ kvs.map (·.1) = ks.map Sum.inr ∧ ks.length < 64 ∧
    ∀ ys p, ys.Perm ks → sortedS ys = true → H p = none → Q (.ref p) (upd H p (.lst (ys.map V.str)))
theorem sortH {X : Cx} (h : X.calm = true) : CallR X (.builtin "sorted") rSortH := call_sortedD h
theorem dic_keys {G : Hp} : ∀ {hs : Hps} {kvs : List (Key × V)}, Paired (KvR K G) hs kvs → kvs.map (·.1) = (hs.map (·.1)).map Sum.inr
  | _, _, .nil => rfl
  | _, _, .cons h t => by rw [List.map_cons, List.map_cons, List.map_cons, h.1, dic_keys t]
theorem rps_strs {G : Hp} (l : List Str) : Rps K G (l.map V.str) (l.map Dt.str) := by
  induction l with
  | nil => exact .nil
  | cons a l ih => exact .cons (.str _) ih
def namesD (b : Bst) : Dt := .lst ((srtN (b.haps.map (·.1))).map Dt.str)
theorem eb_names (hB : ∀ G H, S G H → BnR K C x G H b) (hc : Cls K C) (hn : NoAttr K C "_haps") (hi : sl[i]? = some (.raw (.ref x))) (hl : b.haps.length < 64) : Eb K S (tCB rSortH (tCons (tFld K (tVar i) "_haps") tNil)) sl (namesD b) := fun G H σ k f s Q qq => by
  obtain ⟨dx, a, sp, pq, e1, ⟨kvs, e2, e3⟩, _⟩ := (hB _ _ s).ex
  refine ⟨.ref x, frd_raw f hi, x, C, dx, _, _, rfl, e1, hc, hn, flds_haps _ _ _, a, kvs, b.haps.map (·.1), rfl, rd_mono k e2, dic_keys e3, by rw [List.length_map]; exact hl, fun ys q hp hs hq => ?_⟩
  have e := srtN_is hp hs
  subst e
  exact qq _ _ _ (Nx.new k hq) (.lst (.inl (.inl upd_same)) (rps_strs _))
end
theorem fldGK {X : Cx} {K : PySem.W.Frag} {o : Expr} {f : Str} {pos : Pos} {ta : TE} (eK : X.K = K) (ho : PE X o ta) : PG X (.Attribute o f pos) (gFld K ta f) := eK ▸ pg_fld ho
theorem eqEK {X : Cx} {K : PySem.W.Frag} (e : X.K = K) (hu : X.A.units + 64 < cLine) : OpR X (compareOp .Eq) (rEqE K) := e ▸ op_eqE (by omega)
end Z
namespace Z
open PySem PySem.Spec PyProof.Rows L2 RZ
open Evl (Ex)
/-! ### hands back, where a world stands -/
def Br (K : PySem.W.Frag) (us : List Addr) (S S2 : Hp → Hp → Prop) (ts : TS) (sl : List Sl) (d : Dt) : Prop := ∀ (G H : Hp) (σ : L2.St), Ex G H → FrD K G σ sl → S G H → ∀ D : Ends, (∀ v G2 H2, NxP us G H G2 H2 → S2 G2 H2 → Rp K G2 v d → D.rt v H2) → ts D σ H
section
variable {K : PySem.W.Frag} {us : List Addr} {S S1 S2 : Hp → Hp → Prop} {t u r : TS} {sl : List Sl} {N : List Sl → Prop} {tc : TT} {te ta tb : TE} {d x : Dt} {b : Bool} {C : Addr} {tr : TA} {xs : List Dt} {i : Nat}
theorem br_ret (hS : Stb S) (h : Eb K S te sl d) : Br K us S S (tRet te) sl d := fun G H σ k f s D q => h G H σ k f s _ fun v G2 H2 n2 r2 => q v G2 H2 n2.p (hS _ _ _ _ s n2) r2
theorem br_seq (h : Bn K us S S1 t sl N) (g : ∀ s, N s → Br K us S1 S2 u s d) : Br K us S S2 (tSeq t u) sl d := fun G H σ k f s D q =>
  h G H σ k f s _ fun σ1 sl1 G1 H1 m1 n1 s1 f1 => g sl1 m1 G1 H1 σ1 n1.k f1 s1 D fun v G2 H2 n2 => q v G2 H2 (n1.trans n2)
theorem br_no (hS : Stb S) (h : EbT K S tc sl false) (g : Br K us S S2 u sl d) : Br K us S S2 (tSeq (tIfS tc r tNext) u) sl d := fun G H σ k f s D q =>
  h G H σ k f s _ fun G1 H1 n1 => g G1 H1 σ n1.k (FrD.mono n1.g f) (hS _ _ _ _ s n1) D fun v G2 H2 n2 => q v G2 H2 (n1.p.trans n2)
theorem br_yes (hS : Stb S) (h : EbT K S tc sl true) (g : Br K us S S2 r sl d) : Br K us S S2 (tSeq (tIfS tc r tNext) u) sl d := fun G H σ k f s D q =>
  h G H σ k f s _ fun G1 H1 n1 => g G1 H1 σ n1.k (FrD.mono n1.g f) (hS _ _ _ _ s n1) { D with nx := u D } fun v G2 H2 n2 => q v G2 H2 (n1.p.trans n2)
theorem br_is {x : Dt} (h : Br K us S S2 t sl d) (e : d = x) : Br K us S S2 t sl x := e ▸ h
theorem eb_if (hS : Stb S) (h : EbT K S tc sl b) (h1 : b = true → Eb K S ta sl d) (h2 : b = false → Eb K S tb sl d) : Eb K S (tIf tc ta tb) sl d := fun G H σ k f s Q q =>
  h G H σ k f s _ fun G1 H1 n1 => by
    cases b with
    | true => exact h1 rfl G1 H1 σ n1.k (FrD.mono n1.g f) (hS _ _ _ _ s n1) Q fun v G2 H2 n2 => q v G2 H2 (n1.trans n2)
    | false => exact h2 rfl G1 H1 σ n1.k (FrD.mono n1.g f) (hS _ _ _ _ s n1) Q fun v G2 H2 n2 => q v G2 H2 (n1.trans n2)
end
/-! ### a law's own books: a dict of the haps, the speed, the past -/
def stD (a : Addr) (s : V) (p : Addr) : List (Key × V) := [(.inr ("haps" : Str), .ref a), (.inr ("speed" : Str), s), (.inr ("past" : Str), .ref p)]
structure SoAt (K : PySem.W.Frag) (y p : Addr) (G H : Hp) (b : Bst) : Prop where
  ex : ∃ a s pv, H y = some (.dK (stD a s p)) ∧ DicAt K G a b.haps ∧ Rp K G s (fq b.speed) ∧ H p = some (.lst pv) ∧ Paired (PstR K G) b.past pv
  gy : G y = none
  gp : G p = none
theorem ks1 : ¬ ((.inr ("haps" : Str) : Key) = .inr ("speed" : Str)) := by decide +kernel
theorem ks2 : ¬ ((.inr ("haps" : Str) : Key) = .inr ("past" : Str)) := by decide +kernel
theorem ks3 : ¬ ((.inr ("speed" : Str) : Key) = .inr ("past" : Str)) := by decide +kernel
section
variable {a a2 : Addr} {s s2 : V} {p : Addr}
theorem st_haps : valV (stD a s p) (.inr ("haps" : Str) : Key) = some (.ref a) := by
  unfold stD valV
  rw [List.find?_cons, decide_eq_true rfl]
  rfl
theorem st_speed : valV (stD a s p) (.inr ("speed" : Str) : Key) = some s := by
  unfold stD valV
  rw [List.find?_cons, decide_eq_false ks1, List.find?_cons, decide_eq_true rfl]
  rfl
theorem st_past : valV (stD a s p) (.inr ("past" : Str) : Key) = some (.ref p) := by
  unfold stD valV
  rw [List.find?_cons, decide_eq_false ks2, List.find?_cons, decide_eq_false ks3, List.find?_cons, decide_eq_true rfl]
  rfl
theorem st_put1 : putK (stD a s p) (.inr ("haps" : Str) : Key) (.ref a2) = stD a2 s p := by
  unfold putK stD
  have e : List.any [((.inr ("haps" : Str) : Key), V.ref a), (.inr ("speed" : Str), s), (.inr ("past" : Str), V.ref p)] (fun kv => decide (kv.1 = (.inr ("haps" : Str) : Key))) = true := by
    rw [List.any_cons, decide_eq_true rfl, Bool.true_or]
  rw [if_pos e]
  simp only [List.map_cons, List.map_nil, if_true, if_neg (Ne.symm ks1), if_neg (Ne.symm ks2)]
theorem st_put2 : putK (stD a s p) (.inr ("speed" : Str) : Key) s2 = stD a s2 p := by
  unfold putK stD
  have e : List.any [((.inr ("haps" : Str) : Key), V.ref a), (.inr ("speed" : Str), s), (.inr ("past" : Str), V.ref p)] (fun kv => decide (kv.1 = (.inr ("speed" : Str) : Key))) = true := by
    rw [List.any_cons, List.any_cons, decide_eq_true rfl, Bool.true_or, Bool.or_true]
  rw [if_pos e]
  simp only [List.map_cons, List.map_nil, if_true, if_neg ks1, if_neg (Ne.symm ks3)]
end
section
variable {K : PySem.W.Frag} {y p : Addr} {G H G2 H2 : Hp} {b : Bst}
theorem SoAt.ne (h : SoAt K y p G H b) : y ≠ p := by
  obtain ⟨a, s, pv, h1, _, _, h2, _⟩ := h.ex
  exact ne_of h1 h2 (by intro z; cases z)
theorem SoAt.nxP {us : List Addr} (h : SoAt K y p G H b) (n : NxP us G H G2 H2) (hy : y ∉ us) (hp : p ∉ us) : SoAt K y p G2 H2 b := by
  obtain ⟨a, s, pv, h1, h2, h3, h4, h5⟩ := h.ex
  exact ⟨⟨a, s, pv, n.h _ _ hy h1, h2.mono n.g, h3.mono n.g, n.h _ _ hp h4, L2.Paired.mapP h5 fun _ _ r => PstR.mono n.g r⟩, n.f _ h.gy (by rw [h1]; intro z; cases z), n.f _ h.gp (by rw [h4]; intro z; cases z)⟩
theorem SoAt.nx (h : SoAt K y p G H b) (n : Nx G H G2 H2) : SoAt K y p G2 H2 b := h.nxP (us := []) n.p (by simp) (by simp)
theorem stb_so : Stb fun G H => SoAt K y p G H b := fun _ _ _ _ h n => h.nx n
end
/-- books that are asked: their dict may be locked -/
structure SoR (K : PySem.W.Frag) (y : Addr) (G H : Hp) (b : Bst) : Prop where
  ex : ∃ a s p pv, H y = some (.dK (stD a s p)) ∧ DicR K G a b.haps ∧ Rp K G s (fq b.speed) ∧ H p = some (.lst pv) ∧ pv.length = b.past.length ∧ G p = none
  gy : G y = none
theorem SoAt.r {K : PySem.W.Frag} {y p : Addr} {G H : Hp} {b : Bst} (h : SoAt K y p G H b) : SoR K y G H b := by
  obtain ⟨a, s, pv, h1, h2, h3, h4, h5⟩ := h.ex
  exact ⟨⟨a, s, p, pv, h1, h2.r, h3, h4, (Paired.length h5).symm, h.gp⟩, h.gy⟩
theorem SoR.nx {K : PySem.W.Frag} {y : Addr} {G H G2 H2 : Hp} {b : Bst} (h : SoR K y G H b) (n : Nx G H G2 H2) : SoR K y G2 H2 b := by
  obtain ⟨a, s, p, pv, h1, h2, h3, h4, h5, h6⟩ := h.ex
  exact ⟨⟨a, s, p, pv, n.h _ _ h1, h2.mono n.g, h3.mono n.g, n.h _ _ h4, h5, n.f _ h6 (by rw [h4]; intro z; cases z)⟩, n.f _ h.gy (by rw [h1]; intro z; cases z)⟩
theorem stb_sr {K : PySem.W.Frag} {y : Addr} {b : Bst} : Stb fun G H => SoR K y G H b := fun _ _ _ _ h n => h.nx n
section
variable {K : PySem.W.Frag} {S : Hp → Hp → Prop} {sl : List Sl} {y p : Addr} {b : Bst} {i : Nat} {te : TE} {n : Str}
theorem es_pastE (hB : ∀ G H, S G H → SoR K y G H b) (hi : sl[i]? = some (.raw (.ref y))) : Eb K S (tOp (rEqE K) (tDGet (tVar i) (tC (.str "past"))) (tLst tNil)) sl (.bl b.past.isEmpty) := fun G H σ k f s Q qq => by
  obtain ⟨a, sp, p, pv, e1, e2, e3, e4, e5, _⟩ := (hB _ _ s).ex
  refine ⟨.ref y, frd_raw f hi, y, .ref p, rfl, st_past (a := a) (s := sp) ▸ DGet.k (k := .inr "past") e1, ⟨by exact sz_ok (Nat.zero_le _), fun q hq => ⟨p, q, pv, rfl, rfl, .of (by rw [upd_ne (ne_of_none e4 hq)]; exact e4), .of upd_same, ?_⟩⟩⟩
  have e : pv.isEmpty = b.past.isEmpty := by
    revert e5
    generalize b.past = l
    intro e5
    cases pv <;> cases l <;> first | rfl | cases e5
  rw [e]
  exact qq _ _ _ (Nx.new k hq) (.bl _)
theorem es_notin (hS : Stb S) (hB : ∀ G H, S G H → SoR K y G H b) (hi : sl[i]? = some (.raw (.ref y))) (h : Eb K S te sl (.str n)) : Eb K S (tDNotIn te (tDGet (tVar i) (tC (.str "haps")))) sl (.bl (!(getH b.haps n).isSome)) := fun G H σ k f s Q qq =>
  h G H σ k f s _ fun v G1 H1 n1 r1 => by
    cases r1
    obtain ⟨a, sp, p, pv, e1, ⟨kvs, e2, e3⟩, _⟩ := (hB _ _ (hS _ _ _ _ s n1)).ex
    refine ⟨.ref y, frd_raw (FrD.mono n1.g f) hi, y, .ref a, rfl, st_haps (s := sp) (p := p) ▸ DGet.k (k := .inr "haps") e1, a, _, rfl, DGet.r (k := .inr n) (rd_mono n1.k e2), ?_⟩
    have e : (valV kvs (.inr n : Key)).isSome = (getH b.haps n).isSome := by
      rcases pair_get n e3 with ⟨h1, h2⟩ | ⟨_, _, h1, h2, _⟩ <;> rw [h1, h2] <;> rfl
    rw [e]
    exact qq _ G1 H1 n1 (.bl _)
theorem es_in (hS : Stb S) (hB : ∀ G H, S G H → SoR K y G H b) (hi : sl[i]? = some (.raw (.ref y))) (h : Eb K S te sl (.str n)) : Eb K S (tDIn te (tDGet (tVar i) (tC (.str "haps")))) sl (.bl (getH b.haps n).isSome) := fun G H σ k f s Q qq =>
  h G H σ k f s _ fun v G1 H1 n1 r1 => by
    cases r1
    obtain ⟨a, sp, p, pv, e1, ⟨kvs, e2, e3⟩, _⟩ := (hB _ _ (hS _ _ _ _ s n1)).ex
    refine ⟨.ref y, frd_raw (FrD.mono n1.g f) hi, y, .ref a, rfl, st_haps (s := sp) (p := p) ▸ DGet.k (k := .inr "haps") e1, a, _, rfl, DGet.r (k := .inr n) (rd_mono n1.k e2), ?_⟩
    have e : (valV kvs (.inr n : Key)).isSome = (getH b.haps n).isSome := by
      rcases pair_get n e3 with ⟨h1, h2⟩ | ⟨_, _, h1, h2, _⟩ <;> rw [h1, h2] <;> rfl
    rw [e]
    exact qq _ G1 H1 n1 (.bl _)
theorem es_len (hB : ∀ G H, S G H → SoR K y G H b) (hi : sl[i]? = some (.raw (.ref y))) : Eb K S (tCB rLenR (tCons (tDGet (tVar i) (tC (.str "haps"))) tNil)) sl (.int (b.haps.length : Nat)) := fun G H σ k f s Q qq => by
  obtain ⟨a, sp, p, pv, e1, ⟨kvs, e2, e3⟩, _⟩ := (hB _ _ s).ex
  refine ⟨.ref y, frd_raw f hi, y, .ref a, rfl, st_haps (s := sp) (p := p) ▸ DGet.k (k := .inr "haps") e1, a, kvs, rfl, rd_mono k e2, ?_⟩
  rw [← Paired.length e3]
  exact qq _ G H (.refl k) (.int _)
end
/-! ### deeds, and how they are refused -/
inductive Deed
  | put (x y : Dt)
  | drop (x : Dt)
  | turn (x : Dt)
  | push (x : Dt)
  | undo
def Deed.w : Deed → Str
  | .put .. => "put"
  | .drop .. => "drop"
  | .turn .. => "turn"
  | .push .. => "push"
  | .undo => "undo"
def Deed.t : Deed → List Dt
  | .put x y => [x, y]
  | .drop x => [x]
  | .turn x => [x]
  | .push x => [x]
  | .undo => []
def getX (hs : Hps) : Dt → Option (Rat × Rat)
  | .str n => getH hs n
  | _ => none
def ratOf : Dt → Rat
  | .tup [.int t, .int b] => (t : Rat) / (b : Rat)
  | _ => 0
theorem ratOf_fq (q : Rat) : ratOf (fq q) = q := fq_self q
def spdR (x : Dt) : Option Str := if isSpD x = false then some "speed" else if isNon (beatD (ratOf x)) = true then some "plain" else none
def refw (b : Bst) : Deed → Option Str
  | .undo => if b.past.isEmpty = true then some "deed" else none
  | .put x y => if isNm x = false then some "name" else if isHp y = false then some "hap" else if (!(getX b.haps x).isSome && decide (b.haps.length = 12)) = true then some "many" else none
  | .drop x => if (isNm x && (getX b.haps x).isSome) = true then none else some "name"
  | .turn x => spdR x
  | .push x => spdR x
def wD : Option Str → Dt
  | none => .non
  | some s => .str s
def TxtB (x : Dt) : Prop := ∀ s, x = .str s → s.length ≤ 90000
def NmT (x : Dt) : Prop := TxtB x ∧ x ≠ .str "q"
def SpdB (x : Dt) : Prop := Sz x ∧ (isSpD x = true → ∃ v, x = fq v ∧ Sp v ∧ Bq 67 v)
def DeedOk : Deed → Prop
  | .put x y => NmT x ∧ Sz2 y ∧ (isHp y = true → ∃ q : Rat × Rat, y = hpD q ∧ Bq 90 q.1 ∧ Bq 4 q.2)
  | .drop x => TxtB x
  | .turn x => SpdB x
  | .push x => SpdB x
  | .undo => True
theorem isNm_str {x : Dt} (h : isNm x = true) : ∃ n, x = .str n := by
  cases x <;> first | exact ⟨_, rfl⟩ | cases h
/-! ### calls where the books stand -/
section
variable (K : PySem.W.Frag)
def spStQ (R : Bst → List Dt → Dt → Prop) : L2.Sp := fun vs H Q _ => ∃ y ws ds b G d, vs = .ref y :: ws ∧ Ex G H ∧ Rps K G ws ds ∧ SoR K y G H b ∧ R b ds d ∧ ∀ v G2 H2, Nx G H G2 H2 → Rp K G2 v d → Q v H2
def spStD (R : Bst → List Dt → Dt → Bst → Prop) : L2.Sp := fun vs H Q _ => ∃ y p ws ds b G d b', vs = .ref y :: ws ∧ Ex G H ∧ Rps K G ws ds ∧ SoAt K y p G H b ∧ R b ds d b' ∧ ∀ v G2 H2, NxP [y, p] G H G2 H2 → SoAt K y p G2 H2 b' → Rp K G2 v d → Q v H2
def spBnD (C : Addr) (R : Bst → List Dt → Dt → Bst → Prop) : L2.Sp := fun vs H Q _ => ∃ y p ws ds b G d b', vs = .ref y :: ws ∧ Ex G H ∧ Rps K G ws ds ∧ BnAt K C y p G H b ∧ R b ds d b' ∧ ∀ v G2 H2, NxP [y, p] G H G2 H2 → BnAt K C y p G2 H2 b' → Rp K G2 v d → Q v H2
end
section
variable {P : Program} {w : World} {K : PySem.W.Frag} {mg : Str → Option Value} {base : Heap} {x : Str} {st : Stmt} {N ps : List Str} {k : Nat} {C : Addr} {t : TS}
theorem Dd.askS {R : Bst → List Dt → Dt → Prop} (D : Dd K mg x st ps) (S : FnScope N ps (defScope st)) (hl : ∀ b ds d, R b ds d → ds.length + 1 = ps.length)
    (h1 : ∀ (f : Addr) (cdv : Value) (A : Around) (outer : List Env) (s : Shared) (H : Hp) (E : XK), Room k (A.deeper (envOfC x (defScope st) s.heap.objs.size f cdv)) → PSs (cxOf CX0 P w K mg base N x (defScope st) f cdv A outer s H E).nox (defBody st) t)
    (h2 : ∀ y b ds d, R b ds d → Br K [] (fun G H => SoR K y G H b) (fun G H => SoR K y G H b) t (Sl.raw (.ref y) :: (ds.map Sl.d ++ List.replicate (N.length - ps.length) .no)) d) : Has P w K mg base CX0 (k + 1) x ps (spStQ K R) := by
  refine D.any S (fun vs H Q E h => ?_) h1 fun vs H Q E h => ?_
  · obtain ⟨y, ws, ds, b, G, d, rfl, _, r, _, hR, _⟩ := h
    show ws.length + 1 = _
    rw [r.length]
    exact hl b ds d hR
  · obtain ⟨y, ws, ds, b, G, d, rfl, kk, r, hB, hR, qq⟩ := h
    exact h2 y b ds d hR G H _ kk (start_bn r (hl b ds d hR)) hB _ fun v G2 H2 n2 b2 r2 => qq v G2 H2 n2.nx r2
theorem Dd.deedS {R : Bst → List Dt → Dt → Bst → Prop} (D : Dd K mg x st ps) (S : FnScope N ps (defScope st)) (hl : ∀ b ds d b', R b ds d b' → ds.length + 1 = ps.length)
    (h1 : ∀ (f : Addr) (cdv : Value) (A : Around) (outer : List Env) (s : Shared) (H : Hp) (E : XK), Room k (A.deeper (envOfC x (defScope st) s.heap.objs.size f cdv)) → PSs (cxOf CX0 P w K mg base N x (defScope st) f cdv A outer s H E).nox (defBody st) t)
    (h2 : ∀ y p b ds d b', R b ds d b' → Br K [y, p] (fun G H => SoAt K y p G H b) (fun G H => SoAt K y p G H b') t (Sl.raw (.ref y) :: (ds.map Sl.d ++ List.replicate (N.length - ps.length) .no)) d) : Has P w K mg base CX0 (k + 1) x ps (spStD K R) := by
  refine D.any S (fun vs H Q E h => ?_) h1 fun vs H Q E h => ?_
  · obtain ⟨y, p, ws, ds, b, G, d, b', rfl, _, r, _, hR, _⟩ := h
    show ws.length + 1 = _
    rw [r.length]
    exact hl b ds d b' hR
  · obtain ⟨y, p, ws, ds, b, G, d, b', rfl, kk, r, hB, hR, qq⟩ := h
    exact h2 y p b ds d b' hR G H _ kk (start_bn r (hl b ds d b' hR)) hB _ fun v G2 H2 n2 b2 r2 => qq v G2 H2 n2 b2 r2
end
section
variable {K : PySem.W.Frag} {S : Hp → Hp → Prop} {sl : List Sl} {y p : Addr} {b : Bst} {i : Nat} {tr : TA} {xs : List Dt} {d : Dt} {E : XK}
theorem es_call {R : Bst → List Dt → Dt → Prop} (hS : Stb S) (hB : ∀ G H, S G H → SoR K y G H b) (hi : sl[i]? = some (.raw (.ref y))) (h : EbA K S tr sl xs) (hr : R b xs d) : Eb K S (tCall (spStQ K R) [] E (tCons (tVar i) tr)) sl d := fun G H σ k f s Q qq => by
  refine ⟨.ref y, frd_raw f hi, ?_⟩
  exact h G H σ k f s _ fun vs G1 H1 n1 r1 => ⟨y, vs ++ [], xs, b, G1, d, rfl, n1.k, rps_nil r1, hB G1 H1 (hS _ _ _ _ s n1), hr, fun v G2 H2 n2 r2 => qq v G2 H2 (n1.trans n2) r2⟩
end
end Z
namespace Z
open PySem PySem.Spec PyProof.Rows L2 RZ
open Evl (Ex)
/-! ### a law's own books, written -/
def rDictH : List V → Hp → VK → Prop := fun xs H Q => ∃ (a : Addr) (kvs : List (Key × V)), xs = [.ref a] ∧ Rd H a (.dK kvs) ∧ ∀ p, H p = none → Q (.ref p) (upd H p (.dK kvs))
theorem dictH {X : Cx} : CallR X (.type "dict") rDictH := call_dictD
theorem nxp_freeze {us : List Addr} {G H G4 H4 H5 : Hp} {a : Addr} {u : HO} (n : NxP us G H G4 H4) (ha : H a = none) (hg : G4 a = none) (h5 : H5 a = some u) (e : ∀ c, c ≠ a → H5 c = H4 c) : NxP us G H (upd G4 a u) H5 := by
  refine ⟨n.g.trans (Ex.new hg), fun c o q => ?_, fun c o hc q => ?_, fun c hc => ?_, fun c h1 h2 => ?_⟩
  · by_cases z : c = a
    · rw [z, upd_same] at q
      rw [z, ← q]
      exact h5
    · rw [upd_ne z] at q
      rw [e c z]
      exact n.k _ _ q
  · have z : c ≠ a := fun z => by rw [z, ha] at q; cases q
    rw [e c z]
    exact n.h c o hc q
  · have z : c ≠ a := fun z => hc (by rw [z]; exact ha)
    rw [e c z]
    exact n.t c hc
  · have z : c ≠ a := fun z => h2 (by rw [z]; exact ha)
    rw [upd_ne z]
    exact n.f c h1 h2
theorem nxp_write {us : List Addr} {G H : Hp} {y : Addr} {u : HO} (k : Ex G H) (hy : y ∈ us) (gy : G y = none) : NxP us G H G (upd H y u) := by
  refine ⟨fun _ _ e => e, fun c o q => ?_, fun c o hc q => ?_, fun c hc => ?_, fun c h1 _ => h1⟩
  · rw [upd_ne (fun z : c = y => by rw [z, gy] at q; cases q)]
    exact k _ _ q
  · rw [upd_ne (fun z : c = y => hc (by rw [z]; exact hy))]
    exact q
  · by_cases z : c = y
    · rw [z, upd_same]; intro z; cases z
    · rw [upd_ne z]
      exact hc
section
variable {K : PySem.W.Frag} {y p : Addr} {b : Bst} {sl : List Sl} {i : Nat}
/-- the last deed undone -/
theorem bs_undo {h0 : Hps} {s0 : Rat} {pt : List (Hps × Rat)} (hy : sl[0]? = some (.raw (.ref y))) (hp : b.past = pt ++ [(h0, s0)]) :
    Bn K [y, p] (fun G H => SoAt K y p G H b) (fun G H => SoAt K y p G H ⟨h0, s0, pt⟩) (tAsg (tBM0 K "list" rPop (tDGet (tVar 0) (tC (.str "past")))) (gTup K 2 (gCons (gSub (tVar 0) (tC (.str "haps")) rSetD) (gCons (gSub (tVar 0) (tC (.str "speed")) rSetD) gNil)))) sl fun _ => True := fun G H σ k f s D qq => by
  obtain ⟨a, sp, pv, e1, e2, e3, e4, e5⟩ := s.ex
  rw [hp] at e5
  obtain ⟨r0, v, rfl, e6, ⟨q, a1, s1, rfl, t1, t2, t3⟩⟩ := paired_last e5
  have fy := frd_raw f hy
  have nyp := s.ne
  have gy := s.gy
  have gp := s.gp
  refine ⟨.ref y, fy, y, .ref p, rfl, st_past (a := a) (s := sp) ▸ DGet.k (k := .inr "past") e1, ⟨.inl ⟨rfl, ⟨_, .inl (.inl e4)⟩⟩, p, _, .ref q, rfl, rfl, e4, by simp, ?_⟩⟩
  rw [List.dropLast_concat]
  have n1 : NxP [y, p] G H G (upd H p (.lst r0)) := nxp_write k (by simp) gp
  have ey : upd H p (.lst r0) y = some (.dK (stD a sp p)) := by rw [upd_ne nyp]; exact e1
  have l3 : ∀ (a : Addr) (s : V), (stD a s p).length < sizeLine := fun _ _ => by exact Nat.lt_of_lt_of_le (m := 100000) (by show 3 < 100000; decide) (by decide)
  refine ⟨q, [.ref a1, s1], rfl, exT n1.k t1, rfl, .ref a1, [s1], rfl, .ref y, fy, ?_⟩
  refine ⟨y, _, rfl, DPut.k (k := .inr "haps") ey (l3 _ _), ?_⟩
  rw [st_put1]
  refine ⟨s1, [], rfl, .ref y, fy, ?_⟩
  refine ⟨y, _, rfl, DPut.k (k := .inr "speed") upd_same (l3 _ _), rfl, ?_⟩
  rw [st_put2, upd_upd]
  have n2 := n1.trans (nxp_write (u := .dK (stD a1 s1 p)) n1.k (by simp) gy)
  exact qq _ sl G _ trivial n2 ⟨⟨a1, s1, r0, upd_same, t2, t3, by rw [upd_ne nyp.symm, upd_same], e6⟩, gy, gp⟩ f
/-- what is so now, kept for undoing -/
theorem bs_past (hy : sl[0]? = some (.raw (.ref y))) (hl : b.past.length ≤ 90000) :
    Bn K [y, p] (fun G H => SoAt K y p G H b) (fun G H => SoAt K y p G H ⟨b.haps, b.speed, b.past ++ [(b.haps, b.speed)]⟩) (tDrop (tBM K "list" rAppend (tDGet (tVar 0) (tC (.str "past"))) (tCons (tTup (tCons (tDGet (tVar 0) (tC (.str "haps"))) (tCons (tDGet (tVar 0) (tC (.str "speed"))) tNil))) tNil))) sl fun s => s = sl := fun G H σ k f s D qq => by
  obtain ⟨a, sp, pv, e1, e2, e3, e4, e5⟩ := s.ex
  have fy := frd_raw f hy
  have nyp := s.ne
  have lp : pv.length = b.past.length := (Paired.length e5).symm
  refine ⟨.ref y, fy, y, .ref p, rfl, st_past (a := a) (s := sp) ▸ DGet.k (k := .inr "past") e1, ⟨.inl ⟨rfl, ⟨_, .inl (.inl e4)⟩⟩, ?_⟩⟩
  refine ⟨.ref y, fy, y, .ref a, rfl, st_haps (s := sp) (p := p) ▸ DGet.k (k := .inr "haps") e1, .ref y, fy, y, sp, rfl, st_speed (a := a) (p := p) ▸ DGet.k (k := .inr "speed") e1, by exact sz_ok (by exact Nat.le_of_ble_eq_true rfl), fun t o ht ho => ?_⟩
  have nty : y ≠ t := ne_of_none e1 ht
  have ntp : p ≠ t := ne_of_none e4 ht
  have nn : Nx G H (upd G t (.frz o (.tup [.ref a, sp]))) (upd H t (.frz o (.tup [.ref a, sp]))) := .new k ht
  have s2 := s.nx nn
  refine ⟨p, pv, .ref t, rfl, rfl, by rw [upd_ne ntp]; exact e4, by rw [lp]; exact Nat.lt_of_le_of_lt hl (Nat.lt_of_lt_of_le (m := 100000) (by decide) (by decide)), ?_⟩
  have n2 : NxP [y, p] G H (upd G t (.frz o (.tup [.ref a, sp]))) (upd (upd H t (.frz o (.tup [.ref a, sp]))) p (.lst (pv ++ [.ref t]))) := nn.p.trans (nxp_write nn.k (by simp) s2.gp)
  refine qq _ sl _ _ rfl n2 ⟨⟨a, sp, pv ++ [.ref t], by rw [upd_ne nyp, upd_ne nty]; exact e1, e2.mono nn.g, e3.mono nn.g, upd_same, paired_snoc (L2.Paired.mapP e5 fun _ _ r => PstR.mono nn.g r) ⟨t, a, sp, rfl, sqx_new ho, e2.mono nn.g, e3.mono nn.g⟩⟩, s2.gy, s2.gp⟩ (FrD.mono nn.g f)
/-- a copy of the haps is made, and stands for the time being -/
theorem bs_copy {D : Ends} {σ : L2.St} {G H : Hp} (k : Ex G H) (f : FrD K G σ sl) (s : SoAt K y p G H b) (hy : sl[0]? = some (.raw (.ref y)))
    (q : ∀ (a2 : Addr) (sp : V) (pv : List V) (kvs : List (Key × V)) (H1 : Hp), H a2 = none → G a2 = none → NxP [y, p] G H G H1 → H1 y = some (.dK (stD a2 sp p)) → H1 a2 = some (.dK kvs) → Paired (KvR K G) b.haps kvs → Rp K G sp (fq b.speed) → H1 p = some (.lst pv) → Paired (PstR K G) b.past pv → D.nx σ H1) :
    sDPut (tVar 0) (tC (.str "haps")) (tCB rDictH (tCons (tDGet (tVar 0) (tC (.str "haps"))) tNil)) D σ H := by
  obtain ⟨a, sp, pv, e1, ⟨kvs, e2, e3⟩, e4, e5, e6⟩ := s.ex
  have fy := frd_raw f hy
  refine ⟨.ref y, fy, y, .ref a, rfl, st_haps (s := sp) (p := p) ▸ DGet.k (k := .inr "haps") e1, a, kvs, rfl, .inl (k _ _ e2), fun a2 ha2 => ?_⟩
  have nya : y ≠ a2 := ne_of_none e1 ha2
  have npa : p ≠ a2 := ne_of_none e5 ha2
  have nyp := s.ne
  refine ⟨.ref y, fy, y, _, rfl, DPut.k (k := .inr "haps") (by rw [upd_ne nya]; exact e1) (by exact Nat.lt_of_lt_of_le (m := 100000) (by show 3 < 100000; decide) (by decide)), ?_⟩
  rw [st_put1]
  have ga2 : G a2 = none := free_of k ha2
  have n1 : NxP [y, p] G H G (upd H a2 (.dK kvs)) := by
    refine ⟨fun _ _ e => e, fun c o e => ?_, fun c o hc e => ?_, fun c hc => ?_, fun c h1 _ => h1⟩
    · rw [upd_ne (fun z : c = a2 => by rw [z, ga2] at e; cases e)]
      exact k _ _ e
    · rw [upd_ne (fun z : c = a2 => by rw [z, ha2] at e; cases e)]
      exact e
    · rw [upd_ne (fun z : c = a2 => hc (by rw [z]; exact ha2))]
      exact hc
  exact q a2 sp pv kvs _ ha2 ga2 (n1.trans (nxp_write n1.k (by simp) s.gy)) upd_same (by rw [upd_ne nya.symm, upd_same]) e3 e4 (by rw [upd_ne nyp.symm, upd_ne npa]; exact e5) e6
theorem br_two {us : List Addr} {S S1 S2 : Hp → Hp → Prop} {N : List Sl → Prop} {t u r : TS} {d : Dt} (h : Bn K us S S1 (tSeq t u) sl N) (g : ∀ s, N s → Br K us S1 S2 r s d) : Br K us S S2 (tSeq t (tSeq u r)) sl d := fun G H σ k f s D q =>
  h G H σ k f s { D with nx := r D } fun σ1 sl1 G1 H1 m1 n1 s1 f1 => g sl1 m1 G1 H1 σ1 n1.k f1 s1 D fun v G2 H2 n2 => q v G2 H2 (n1.trans n2)
/-- a hap put -/
theorem bs_put {n : Str} {q : Rat × Rat} {tc : TT} {tk tv : TE} {u : TS} (hy : sl[0]? = some (.raw (.ref y))) (hl : b.haps.length ≤ 90000) (hc : EvT K tc sl true) (hk : Ev K tk sl (.str n)) (hv : Ev K tv sl (hpD q)) :
    Bn K [y, p] (fun G H => SoAt K y p G H b) (fun G H => SoAt K y p G H ⟨putH b.haps n q, b.speed, b.past⟩) (tSeq (sDPut (tVar 0) (tC (.str "haps")) (tCB rDictH (tCons (tDGet (tVar 0) (tC (.str "haps"))) tNil))) (tIfS tc (sDPut (tDGet (tVar 0) (tC (.str "haps"))) tk tv) u)) sl fun s => s = sl := fun G H σ k f s D qq => by
  refine bs_copy (D := { D with nx := fun σ' H' => tIfS tc (sDPut (tDGet (tVar 0) (tC (.str "haps"))) tk tv) u D σ' H' }) k f s hy fun a2 sp pv kvs H1 ha2 ga2 n1 e1 e2 e3 e4 e5 e6 => ?_
  refine hc G H1 σ n1.k f _ fun G2 H2 n2 => ?_
  show sDPut _ _ _ D σ H2
  refine hv G2 H2 σ n2.k (FrD.mono n2.g f) _ fun v G3 H3 n3 r3 => ?_
  have n23 := n2.trans n3
  have ey := n23.h y _ e1
  have ea := n23.h a2 _ e2
  refine ⟨.ref y, frd_raw f hy, y, .ref a2, rfl, st_haps (s := sp) (p := p) ▸ DGet.k (k := .inr "haps") ey, ?_⟩
  refine hk G3 H3 σ n3.k (FrD.mono n23.g f) _ fun w G4 H4 n4 r4 => ?_
  cases r4
  have n24 := n23.trans n4
  have ey := n24.h y _ e1
  have ea := n24.h a2 _ e2
  have g4 : G4 a2 = none := n24.f a2 ga2 (by rw [e2]; intro z; cases z)
  have lk : kvs.length = b.haps.length := (Paired.length e3).symm
  refine ⟨a2, _, rfl, DPut.k (k := .inr n) ea (by rw [lk]; exact Nat.lt_of_le_of_lt hl (Nat.lt_of_lt_of_le (m := 100000) (by decide) (by decide))), ?_⟩
  have nya : y ≠ a2 := fun z => by
    have h := s.ex
    obtain ⟨_, _, _, h, _⟩ := h
    rw [z, ha2] at h
    cases h
  have npa : p ≠ a2 := fun z => by
    obtain ⟨_, _, _, _, _, _, h, _⟩ := s.ex
    rw [z, ha2] at h
    cases h
  have fz : NxP [y, p] G H (upd G4 a2 (.dK (putK kvs (.inr n) v))) (upd H4 a2 (.dK (putK kvs (.inr n) v))) := nxp_freeze (n1.trans n24.p) ha2 g4 upd_same fun c hc => upd_ne hc
  have gg : Ex G (upd G4 a2 (.dK (putK kvs (.inr n) v))) := fz.g
  have g3 : Ex G3 (upd G4 a2 (.dK (putK kvs (.inr n) v))) := n4.g.trans (Ex.new g4)
  refine qq σ sl _ _ rfl fz ⟨⟨a2, sp, pv, by rw [upd_ne nya]; exact ey, ⟨_, upd_same, pair_put n (L2.Paired.mapP e3 fun _ _ ⟨r1, r2⟩ => ⟨r1, r2.mono gg⟩) (r3.mono g3)⟩, e4.mono gg, by rw [upd_ne npa]; exact n24.h p _ e5, L2.Paired.mapP e6 fun _ _ r => PstR.mono gg r⟩, ?_, ?_⟩ (FrD.mono gg f)
  · rw [upd_ne nya]
    exact n24.f y s.gy (by rw [e1]; intro z; cases z)
  · rw [upd_ne npa]
    exact n24.f p s.gp (by rw [e5]; intro z; cases z)
/-- a hap dropped -/
theorem bs_drop {n : Str} {tc td : TT} {tk : TE} {t u : TS} (hy : sl[0]? = some (.raw (.ref y))) (hg : getH b.haps n ≠ none) (hc : EvT K tc sl false) (hd : EvT K td sl true) (hk : Ev K tk sl (.str n)) :
    Bn K [y, p] (fun G H => SoAt K y p G H b) (fun G H => SoAt K y p G H ⟨dropH b.haps n, b.speed, b.past⟩) (tSeq (sDPut (tVar 0) (tC (.str "haps")) (tCB rDictH (tCons (tDGet (tVar 0) (tC (.str "haps"))) tNil))) (tIfS tc t (tIfS td (tDrop (tDPop1 (tDGet (tVar 0) (tC (.str "haps"))) tk)) u))) sl fun s => s = sl := fun G H σ k f s D qq => by
  refine bs_copy (D := { D with nx := fun σ' H' => tIfS tc t (tIfS td (tDrop (tDPop1 (tDGet (tVar 0) (tC (.str "haps"))) tk)) u) D σ' H' }) k f s hy fun a2 sp pv kvs H1 ha2 ga2 n1 e1 e2 e3 e4 e5 e6 => ?_
  refine hc G H1 σ n1.k f _ fun G2 H2 n2 => ?_
  show tIfS td _ u D σ H2
  refine hd G2 H2 σ n2.k (FrD.mono n2.g f) _ fun G3 H3 n3 => ?_
  rw [if_pos rfl]
  have n23 := n2.trans n3
  have ey := n23.h y _ e1
  have ea := n23.h a2 _ e2
  refine ⟨.ref y, frd_raw f hy, y, .ref a2, rfl, st_haps (s := sp) (p := p) ▸ DGet.k (k := .inr "haps") ey, a2, rfl, .inl ⟨kvs, .inl ea⟩, ?_⟩
  refine hk G3 H3 σ n3.k (FrD.mono n23.g f) _ fun w G4 H4 n4 r4 => ?_
  cases r4
  have n24 := n23.trans n4
  have ey := n24.h y _ e1
  have ea := n24.h a2 _ e2
  have g4 : G4 a2 = none := n24.f a2 ga2 (by rw [e2]; intro z; cases z)
  obtain ⟨v, hv⟩ : ∃ v, valV kvs (.inr n : Key) = some v := by
    rcases pair_get n e3 with ⟨g1, _⟩ | ⟨_, v, _, g2, _⟩
    · exact absurd g1 hg
    · exact ⟨v, g2⟩
  refine ⟨kvs, .inr n, v, ea, rfl, hv, ?_⟩
  have nya : y ≠ a2 := fun z => by
    obtain ⟨_, _, _, h, _⟩ := s.ex
    rw [z, ha2] at h
    cases h
  have npa : p ≠ a2 := fun z => by
    obtain ⟨_, _, _, _, _, _, h, _⟩ := s.ex
    rw [z, ha2] at h
    cases h
  have fz : NxP [y, p] G H (upd G4 a2 (.dK (dropK kvs (.inr n)))) (upd H4 a2 (.dK (dropK kvs (.inr n)))) := nxp_freeze (n1.trans n24.p) ha2 g4 upd_same fun c hc => upd_ne hc
  have gg := fz.g
  refine qq σ sl _ _ rfl fz ⟨⟨a2, sp, pv, by rw [upd_ne nya]; exact ey, ⟨_, upd_same, pair_drop n (L2.Paired.mapP e3 fun _ _ ⟨r1, r2⟩ => ⟨r1, r2.mono gg⟩)⟩, e4.mono gg, by rw [upd_ne npa]; exact n24.h p _ e5, L2.Paired.mapP e6 fun _ _ r => PstR.mono gg r⟩, ?_, ?_⟩ (FrD.mono gg f)
  · rw [upd_ne nya]
    exact n24.f y s.gy (by rw [e1]; intro z; cases z)
  · rw [upd_ne npa]
    exact n24.f p s.gp (by rw [e5]; intro z; cases z)
/-- another speed, the haps in a copy -/
theorem bs_spd {v : Rat} {tc td : TT} {tv : TE} {t u : TS} (hy : sl[0]? = some (.raw (.ref y))) (hc : EvT K tc sl false) (hd : EvT K td sl false) (hv : Eb K (fun G H => ∃ a s, H y = some (.dK (stD a s p)) ∧ Rp K G s (fq b.speed)) tv sl (fq v)) :
    Bn K [y, p] (fun G H => SoAt K y p G H b) (fun G H => SoAt K y p G H ⟨b.haps, v, b.past⟩) (tSeq (sDPut (tVar 0) (tC (.str "haps")) (tCB rDictH (tCons (tDGet (tVar 0) (tC (.str "haps"))) tNil))) (tIfS tc t (tIfS td u (sDPut (tVar 0) (tC (.str "speed")) tv)))) sl fun s => s = sl := fun G H σ k f s D qq => by
  refine bs_copy (D := { D with nx := fun σ' H' => tIfS tc t (tIfS td u (sDPut (tVar 0) (tC (.str "speed")) tv)) D σ' H' }) k f s hy fun a2 sp pv kvs H1 ha2 ga2 n1 e1 e2 e3 e4 e5 e6 => ?_
  refine hc G H1 σ n1.k f _ fun G2 H2 n2 => ?_
  show tIfS td u _ D σ H2
  refine hd G2 H2 σ n2.k (FrD.mono n2.g f) _ fun G3 H3 n3 => ?_
  show sDPut _ _ _ D σ H3
  have n23 := n2.trans n3
  refine hv G3 H3 σ n3.k (FrD.mono n23.g f) ⟨a2, sp, n23.h y _ e1, e4.mono n23.g⟩ _ fun w G4 H4 n4 r4 => ?_
  have n24 := n23.trans n4
  have ey := n24.h y _ e1
  have ea := n24.h a2 _ e2
  have g4 : G4 a2 = none := n24.f a2 ga2 (by rw [e2]; intro z; cases z)
  have nya : y ≠ a2 := fun z => by
    obtain ⟨_, _, _, h, _⟩ := s.ex
    rw [z, ha2] at h
    cases h
  have npa : p ≠ a2 := fun z => by
    obtain ⟨_, _, _, _, _, _, h, _⟩ := s.ex
    rw [z, ha2] at h
    cases h
  have fz : NxP [y, p] G H (upd G4 a2 (.dK kvs)) H4 := nxp_freeze (n1.trans n24.p) ha2 g4 ea fun _ _ => rfl
  have gy : (upd G4 a2 (.dK kvs)) y = none := by
    rw [upd_ne nya]
    exact n24.f y s.gy (by rw [e1]; intro z; cases z)
  have gp : (upd G4 a2 (.dK kvs)) p = none := by
    rw [upd_ne npa]
    exact n24.f p s.gp (by rw [e5]; intro z; cases z)
  have gg := fz.g
  refine ⟨.ref y, frd_raw f hy, y, _, rfl, DPut.k (k := .inr "speed") ey (by exact Nat.lt_of_lt_of_le (m := 100000) (by show 3 < 100000; decide) (by decide)), ?_⟩
  rw [st_put2]
  refine qq σ sl _ _ rfl (fz.trans (nxp_write fz.k (by simp) gy)) ⟨⟨a2, w, pv, upd_same, ⟨kvs, upd_same, L2.Paired.mapP e3 fun _ _ ⟨r1, r2⟩ => ⟨r1, r2.mono gg⟩⟩, r4.mono (Ex.new g4), by rw [upd_ne s.ne.symm]; exact n24.h p _ e5, L2.Paired.mapP e6 fun _ _ r => PstR.mono gg r⟩, gy, gp⟩ (FrD.mono gg f)
theorem stb_w : Stb fun (G H : Hp) => ∃ a s, H y = some (.dK (stD a s p)) ∧ Rp K G s (fq b.speed) := fun G H G2 H2 ⟨a, s, h1, h2⟩ n => ⟨a, s, n.h _ _ h1, h2.mono n.g⟩
theorem ew_speed (hi : sl[i]? = some (.raw (.ref y))) : Eb K (fun (G H : Hp) => ∃ a s, H y = some (.dK (stD a s p)) ∧ Rp K G s (fq b.speed)) (tDGet (tVar i) (tC (.str "speed"))) sl (fq b.speed) := fun G H σ k f ⟨a, sp, e1, e3⟩ Q qq =>
  ⟨.ref y, frd_raw f hi, y, sp, rfl, st_speed (a := a) (p := p) ▸ DGet.k (k := .inr "speed") e1, qq _ G H (.refl k) e3⟩
end
/-! ### what a deed makes of a bench -/
def Aft (b : Bst) : Deed → Bst → Prop
  | .undo, b' => ∃ (h0 : Hps) (s0 : Rat) (pt : List (Hps × Rat)), b.past = pt ++ [(h0, s0)] ∧ b' = ⟨h0, s0, pt⟩
  | .put x y, b' => ∃ (n : Str) (q : Rat × Rat), x = .str n ∧ y = hpD q ∧ b' = ⟨putH b.haps n q, b.speed, b.past ++ [(b.haps, b.speed)]⟩
  | .drop x, b' => ∃ n : Str, x = .str n ∧ getH b.haps n ≠ none ∧ b' = ⟨dropH b.haps n, b.speed, b.past ++ [(b.haps, b.speed)]⟩
  | .turn x, b' => ∃ v w : Rat, x = fq v ∧ Pl v w ∧ Bq 67 v ∧ b' = ⟨b.haps, v, b.past ++ [(b.haps, b.speed)]⟩
  | .push x, b' => ∃ v w : Rat, x = fq v ∧ Pl v w ∧ Bq 67 v ∧ b' = ⟨b.haps, jn b.speed v, b.past ++ [(b.haps, b.speed)]⟩
structure SpB (b : Bst) : Prop where
  l1 : b.haps.length ≤ 90000
  l2 : b.past.length ≤ 90000
  s : Sp b.speed
  q : Bq 4000 b.speed
/-- a deed's answer, and what is so behind it -/
def DoneR (b : Bst) (de : Deed) (d : Dt) (b' : Bst) : Prop := (∃ w, refw b de = some w ∧ d = .str w ∧ b' = b) ∨ (refw b de = none ∧ d = .non ∧ Aft b de b')
theorem aft_ex {b : Bst} {de : Deed} (ok : DeedOk de) (h : refw b de = none) : ∃ b', Aft b de b' := by
  have pln : ∀ {x : Dt}, SpdB x → spdR x = none → ∃ v w, x = fq v ∧ Pl v w ∧ Bq 67 v := fun {x} ⟨_, o⟩ h => by
    unfold spdR at h
    cases hs : isSpD x with
    | false =>
      rw [if_pos hs] at h
      cases h
    | true =>
      rw [if_neg (by rw [hs]; intro z; cases z)] at h
      obtain ⟨v, rfl, sv, bv⟩ := o hs
      rw [ratOf_fq] at h
      cases hb : isNon (beatD v) with
      | true =>
        rw [if_pos hb] at h
        cases h
      | false =>
        rcases beat_cases sv with ⟨w, w1, w2, _⟩ | ⟨e, _⟩
        · exact ⟨v, w, rfl, ⟨sv, w1, w2⟩, bv⟩
        · rw [e] at hb
          cases hb
  cases de with
  | undo =>
    have h : (if b.past.isEmpty = true then some ("deed" : Str) else none) = none := h
    cases hp : b.past.reverse with
    | nil =>
      have e : b.past = [] := List.reverse_eq_nil_iff.mp hp
      rw [e] at h
      cases h
    | cons l r => exact ⟨_, l.1, l.2, r.reverse, by rw [← List.reverse_reverse b.past, hp, List.reverse_cons], rfl⟩
  | put x z =>
    have h : (if isNm x = false then some ("name" : Str) else if isHp z = false then some "hap" else if (!(getX b.haps x).isSome && decide (b.haps.length = 12)) = true then some "many" else none) = none := h
    obtain ⟨_, _, o3⟩ := ok
    cases hn : isNm x with
    | false => rw [if_pos hn] at h; cases h
    | true =>
      rw [if_neg (by rw [hn]; intro z; cases z)] at h
      cases hh : isHp z with
      | false => rw [if_pos hh] at h; cases h
      | true =>
        obtain ⟨n, rfl⟩ := isNm_str hn
        obtain ⟨q, rfl, _⟩ := o3 hh
        exact ⟨_, n, q, rfl, rfl, rfl⟩
  | drop x =>
    have h : (if (isNm x && (getX b.haps x).isSome) = true then none else some ("name" : Str)) = none := h
    cases hn : isNm x with
    | false => rw [hn, Bool.false_and, if_neg (by intro z; cases z)] at h; cases h
    | true =>
      obtain ⟨n, rfl⟩ := isNm_str hn
      rw [hn, Bool.true_and] at h
      refine ⟨_, n, rfl, fun z => ?_, rfl⟩
      rw [show getX b.haps (.str n) = getH b.haps n from rfl, z] at h
      cases h
  | turn x =>
    obtain ⟨v, w, rfl, h1, h2⟩ := pln ok h
    exact ⟨_, v, w, rfl, h1, h2, rfl⟩
  | push x =>
    obtain ⟨v, w, rfl, h1, h2⟩ := pln ok h
    exact ⟨_, v, w, rfl, h1, h2, rfl⟩
theorem done_ex {b : Bst} {de : Deed} (ok : DeedOk de) : ∃ d b', DoneR b de d b' := by
  cases h : refw b de with
  | some w => exact ⟨_, _, .inl ⟨w, h, rfl, rfl⟩⟩
  | none =>
    obtain ⟨b', hb⟩ := aft_ex ok h
    exact ⟨_, b', .inr ⟨h, rfl, hb⟩⟩
end Z
namespace Z
open PySem PySem.Spec PyProof.Rows L2 RZ
open Evl (Ex)
/-! ### o.m(..) where what is raised is wished for at the slots -/
def tMethE (C : Addr) (m : Str) (sp : L2.Sp) (E : L2.St → XK) (ta : TE) (t : TA) : TE := fun σ H Q => tMeth C m sp [] (E σ) ta t σ H Q
section
variable {X : Cx} {CX : CXT} {k j : Nat} {x m : Str} {ps : List Str} {sp : L2.Sp} {p pos apos : Pos} {o e : Expr} {es : List Expr} {ta : TE} {t : TA} {E : L2.St → XK} {C : Addr}
theorem pe_mhS {pl : Sem Bool} (c : HasM X.prog X.w X.K X.mg X.base CX k C m ps sp) (cl : Cls X.K C) (hr : Room j X.A) (hk : k ≤ j) (hx : ∀ σ, PassesAt CX X σ (E σ)) (ho : PE X o ta) (ha : PA X (e :: es) t)
    (hst : starEach (e :: es) X.env = (false, eval e X.env) :: starEach es X.env := by rfl) (hpl : (backTo pos (starEach es X.env)).any (·.1) = false := by rfl)
    (ht : eval (.Call (.Attribute o m apos) (e :: es) [] pos) X.env = (do
      let ov ← eval o X.env
      standAt apos.atName
      let (f, first) ← holding [ov] (getMethod ov m pl)
      callWith pos f first (backTo pos (starEach (e :: es) X.env)) (backToKw pos (keywordEach [] X.env))) := by rfl) :
    PE X (.Call (.Attribute o m apos) (e :: es) [] pos) (tMethE C m sp E ta t) := by
  obtain ⟨f, fd, F, hm, b⟩ := c.ex
  refine ⟨fun pins s σ H Q I h => ?_⟩
  refine PySem.W.methodCall_KW (pl := pl) (thn (ho.run pins s σ H _ I h) fun u s1 ⟨x, H1, I1, rx, a, dx, fs, ex, ea, l, q⟩ => ?_) ht
  subst ex
  obtain rfl : u = Value.ref a := rx
  refine getmeth_ok I1 ea cl hm l ?_
  refine PySem.W.callWith_K (first := [.ref a]) (h₀ := X.base) I.ok.mod.kin hm.kp (thn (ha.run pos pins s1 σ H1 _ I1 q) fun us s2 ⟨vs, H2, I2, r, q2⟩ => ⟨I2.kIn, ?_⟩) hst hpl
  exact run_fnSD (us := .ref a :: us) (vs := .ref a :: vs) (dvs := []) F (hr.mono hk) b .nil (hx σ) I2 (.cons rfl r) q2
theorem pe_mhS0 {pl : Sem Bool} (c : HasM X.prog X.w X.K X.mg X.base CX k C m ps sp) (cl : Cls X.K C) (hr : Room j X.A) (hk : k ≤ j) (hx : ∀ σ, PassesAt CX X σ (E σ)) (ho : PE X o ta)
    (ht : eval (.Call (.Attribute o m apos) [] [] pos) X.env = (do
      let ov ← eval o X.env
      standAt apos.atName
      let (f, first) ← holding [ov] (getMethod ov m pl)
      callWith pos f first (backTo pos (starEach [] X.env)) (backToKw pos (keywordEach [] X.env))) := by rfl) :
    PE X (.Call (.Attribute o m apos) [] [] pos) (tMethE C m sp E ta tNil) := by
  obtain ⟨f, fd, F, hm, b⟩ := c.ex
  refine ⟨fun pins s σ H Q I h => ?_⟩
  refine PySem.W.methodCall_KW (pl := pl) (thn (ho.run pins s σ H _ I h) fun u s1 ⟨x, H1, I1, rx, a, dx, fs, ex, ea, l, q⟩ => ?_) ht
  subst ex
  obtain rfl : u = Value.ref a := rx
  refine getmeth_ok I1 ea cl hm l ?_
  exact PySem.W.callWith_K0 (first := [.ref a]) I1.kIn hm.kp (run_fnSD (us := [.ref a]) (vs := [.ref a]) (dvs := []) F (hr.mono hk) b .nil (hx σ) I1 (.cons rfl .nil) q)
end
/-! ### try, where a world stands -/
def Tw (K : PySem.W.Frag) (us : List Addr) (S S2 : Hp → Hp → Prop) (tb : WX → TS) (sl : List Sl) (o : Oc) (N : List Sl → Prop) : Prop := ∀ (G H : Hp) (σ : L2.St), Ex G H → FrD K G σ sl → S G H → ∀ (D : Ends) (W : WX),
  (∀ d, o = .ret d → ∀ v G2 H2, NxP us G H G2 H2 → S2 G2 H2 → Rp K G2 v d → D.rt v H2) → (o = .go → ∀ σ2 sl2 G2 H2, N sl2 → NxP us G H G2 H2 → S2 G2 H2 → FrD K G2 σ2 sl2 → D.nx σ2 H2) → (∀ c, o = .out c → ∀ G2 H2, Nx G H G2 H2 → W c none σ H2) → tb W D σ H
section
variable {K : PySem.W.Frag} {us : List Addr} {S S2 S3 : Hp → Hp → Prop} {sl : List Sl} {t u : WX → TS} {o : Oc} {N : List Sl → Prop} {tc : TT} {b : Bool} {C x p : Addr} {bs bs' : Bst} {tr : TA} {xs : List Dt} {c : Value} {d : Dt} {i j : Nat} {m : Str} {M : Value} {Kd : Addr → Str → Prop} {ts : TS}
theorem tw_if (hS : Stb S) (h : EbT K S tc sl b) (h1 : b = true → Tw K us S S2 t sl o N) (h2 : b = false → Tw K us S S2 u sl o N) : Tw K us S S2 (fun W => tIfS tc (t W) (u W)) sl o N := fun G H σ k f s D W q1 q2 q3 => h G H σ k f s _ fun G1 H1 n1 => by
  cases b with
  | true =>
    show t W D σ H1
    exact h1 rfl G1 H1 σ n1.k (FrD.mono n1.g f) (hS _ _ _ _ s n1) D W (fun d e v G2 H2 n2 => q1 d e v G2 H2 (n1.p.trans n2)) (fun e σ2 sl2 G2 H2 w n2 => q2 e σ2 sl2 G2 H2 w (n1.p.trans n2)) fun c e G2 H2 n2 => q3 c e G2 H2 (n1.trans n2)
  | false =>
    show u W D σ H1
    exact h2 rfl G1 H1 σ n1.k (FrD.mono n1.g f) (hS _ _ _ _ s n1) D W (fun d e v G2 H2 n2 => q1 d e v G2 H2 (n1.p.trans n2)) (fun e σ2 sl2 G2 H2 w n2 => q2 e σ2 sl2 G2 H2 w (n1.p.trans n2)) fun c e G2 H2 n2 => q3 c e G2 H2 (n1.trans n2)
theorem tw_deed {R : Bst → List Dt → Bst → Prop} {XF : Bst → List Dt → Value → Prop} (hi : sl[i]? = some (.raw (.ref x))) (hm1 : ¬ m = "_past") (hm2 : ¬ m = "_speed") (hm3 : ¬ m = "_haps") (h : EvA K tr sl xs) (hr : R bs xs bs') :
    Tw K [x, p] (fun G H => BnAt K C x p G H bs) (fun G H => BnAt K C x p G H bs') (fun W => tAsg (tMethE C m (spBd K C R XF) (fun σ c d H => W c d σ H) (tVar i) tr) (gName j)) sl .go fun s => s = sl.set j (.d .non) := fun G H σ k f s D W q1 q2 q3 => by
  obtain ⟨dx, a, sp, pv, h1, _⟩ := s.ex
  refine ⟨.ref x, frd_raw f hi, x, dx, _, rfl, h1, flds_no _ _ _ hm1 hm2 hm3, ?_⟩
  refine h G H σ k f _ fun vs G1 H1 n1 r1 => ⟨x, p, vs ++ [], xs, bs, G1, rfl, n1.k, rps_nil r1, s.nx n1, .inl ⟨bs', hr, fun G2 H2 n2 b2 => ?_⟩⟩
  exact q2 rfl _ _ G2 H2 rfl (n1.p.trans n2) b2 (frd_set (.d .non) j (FrD.mono (n1.g.trans n2.g) f))
theorem tw_deedX {R : Bst → List Dt → Bst → Prop} {XF : Bst → List Dt → Value → Prop} (hi : sl[i]? = some (.raw (.ref x))) (hm1 : ¬ m = "_past") (hm2 : ¬ m = "_speed") (hm3 : ¬ m = "_haps") (h : EvA K tr sl xs) (hX : XF bs xs c) :
    Tw K us (fun G H => BnAt K C x p G H bs) S2 (fun W => tAsg (tMethE C m (spBd K C R XF) (fun σ c d H => W c d σ H) (tVar i) tr) (gName j)) sl (.out c) N := fun G H σ k f s D W q1 q2 q3 => by
  obtain ⟨dx, a, sp, pv, h1, _⟩ := s.ex
  refine ⟨.ref x, frd_raw f hi, x, dx, _, rfl, h1, flds_no _ _ _ hm1 hm2 hm3, ?_⟩
  exact h G H σ k f _ fun vs G1 H1 n1 r1 => ⟨x, p, vs ++ [], xs, bs, G1, rfl, n1.k, rps_nil r1, s.nx n1, .inr ⟨c, hX, fun G2 H2 n2 => q3 c rfl G2 H2 (n1.trans n2)⟩⟩
theorem br_try_go (h : Tw K us S S2 t sl .go N) (g : ∀ s, N s → Br K us S2 S3 ts s d) : Br K us S S3 (tSeq (tTry K M i (fun a cls dd => tRet (tKind Kd i a cls dd)) (fun _ _ _ _ => False) t) ts) sl d := fun G H σ k f s D q =>
  h G H σ k f s { D with nx := ts D } _ (fun x e => by cases e) (fun _ σ2 sl2 G2 H2 w n2 s2 f2 => g sl2 w G2 H2 σ2 n2.k f2 s2 D fun v G3 H3 n3 => q v G3 H3 (n2.trans n3)) fun c e => by cases e
theorem br_try_out (hS : Stb S) (h : Tw K us S S t sl (.out c) N) (hi : i < sl.length) (ok : ∃ C ans, c = .ref C ∧ PySem.W.exmOne K (.ref C) M = some true ∧ Kd C ans ∧ d = .str ans) : Br K us S S (tSeq (tTry K M i (fun a cls dd => tRet (tKind Kd i a cls dd)) (fun _ _ _ _ => False) t) ts) sl d := fun G H σ k f s D q =>
  h G H σ k f s { D with nx := ts D } _ (fun x e => by cases e) (fun e => by cases e) fun c' e G2 H2 n2 => by
    cases e
    obtain ⟨C, ans, rfl, h1, h2, rfl⟩ := ok
    exact was_kind (D := { D with nx := ts D }) h1 h2 (by rw [frd_len f]; exact hi) n2.k fun v G3 H3 n3 r3 => q v G3 H3 (n2.trans n3).p (hS _ _ _ _ s (n2.trans n3)) r3
end
/-! ### which refusal it is -/
theorem ref_put {b : Bst} {x z : Dt} {w : Str} (h : refw b (.put x z) = some w) : (isNm x = false ∧ w = "name") ∨ (isNm x = true ∧ isHp z = false ∧ w = "hap") ∨ ∃ n, x = .str n ∧ isNm x = true ∧ isHp z = true ∧ getH b.haps n = none ∧ b.haps.length = 12 ∧ w = "many" := by
  have h : (if isNm x = false then some ("name" : Str) else if isHp z = false then some "hap" else if (!(getX b.haps x).isSome && decide (b.haps.length = 12)) = true then some "many" else none) = some w := h
  cases hn : isNm x with
  | false =>
    rw [if_pos hn] at h
    cases h
    exact .inl ⟨rfl, rfl⟩
  | true =>
    rw [if_neg (by rw [hn]; intro z; cases z)] at h
    cases hh : isHp z with
    | false =>
      rw [if_pos hh] at h
      cases h
      exact .inr (.inl ⟨rfl, rfl, rfl⟩)
    | true =>
      rw [if_neg (by rw [hh]; intro z; cases z)] at h
      obtain ⟨n, rfl⟩ := isNm_str hn
      cases hc : (!(getX b.haps (.str n)).isSome && decide (b.haps.length = 12)) with
      | false =>
        rw [if_neg (by rw [hc]; intro z; cases z)] at h
        cases h
      | true =>
        rw [if_pos hc] at h
        cases h
        rw [Bool.and_eq_true, decide_eq_true_iff, show getX b.haps (.str n) = getH b.haps n from rfl] at hc
        refine .inr (.inr ⟨n, rfl, rfl, rfl, ?_, hc.2, rfl⟩)
        cases hg : getH b.haps n with
        | none => rfl
        | some q => rw [hg] at hc; cases hc.1
theorem ref_put0 {b : Bst} {n : Str} {q : Rat × Rat} (h : refw b (.put (.str n) (hpD q)) = none) : isNm (.str n) = true ∧ (getH b.haps n ≠ none ∨ b.haps.length ≠ 12) := by
  have h : (if isNm (.str n) = false then some ("name" : Str) else if isHp (hpD q) = false then some "hap" else if (!(getX b.haps (.str n)).isSome && decide (b.haps.length = 12)) = true then some "many" else none) = none := h
  cases hn : isNm (.str n) with
  | false => rw [if_pos hn] at h; cases h
  | true =>
    rw [if_neg (by rw [hn]; intro z; cases z), if_neg (by rw [show isHp (hpD q) = true from isHp_hap _ _]; intro z; cases z)] at h
    refine ⟨rfl, ?_⟩
    cases hg : getH b.haps n with
    | some q => exact .inl (by intro z; cases z)
    | none =>
      right
      intro z
      rw [show getX b.haps (.str n) = getH b.haps n from rfl, hg, z] at h
      cases h
theorem ref_drop {b : Bst} {x : Dt} {w : Str} (ok : TxtB x) (h : refw b (.drop x) = some w) : ((∀ s, x = .str s → s.length ≤ 90000) ∧ (isNm x = false ∨ ∃ n, x = .str n ∧ isNm x = true ∧ getH b.haps n = none)) ∧ w = "name" := by
  have h : (if (isNm x && (getX b.haps x).isSome) = true then none else some ("name" : Str)) = some w := h
  cases hc : (isNm x && (getX b.haps x).isSome) with
  | true => rw [if_pos hc] at h; cases h
  | false =>
    rw [if_neg (by rw [hc]; intro z; cases z)] at h
    cases h
    refine ⟨⟨ok, ?_⟩, rfl⟩
    cases hn : isNm x with
    | false => exact .inl rfl
    | true =>
      obtain ⟨n, rfl⟩ := isNm_str hn
      rw [hn, Bool.true_and] at hc
      refine .inr ⟨n, rfl, rfl, ?_⟩
      cases hg : getH b.haps n with
      | none => rfl
      | some q => rw [show getX b.haps (.str n) = getH b.haps n from rfl, hg] at hc; cases hc
theorem ref_drop0 {b : Bst} {n : Str} (h : refw b (.drop (.str n)) = none) : isNm (.str n) = true := by
  have h : (if (isNm (.str n) && (getX b.haps (.str n)).isSome) = true then none else some ("name" : Str)) = none := h
  cases hn : isNm (.str n) with
  | true => rfl
  | false => rw [hn, Bool.false_and, if_neg (by intro z; cases z)] at h; cases h
theorem ref_spd {x : Dt} {w : Str} (ok : SpdB x) (h : spdR x = some w) : (isSpD x = false ∧ w = "speed") ∨ ∃ v, x = fq v ∧ Sp v ∧ Bq 67 v ∧ beatD v = .non ∧ w = "plain" := by
  unfold spdR at h
  cases hs : isSpD x with
  | false =>
    rw [if_pos hs] at h
    cases h
    exact .inl ⟨rfl, rfl⟩
  | true =>
    rw [if_neg (by rw [hs]; intro z; cases z)] at h
    obtain ⟨v, rfl, sv, bv⟩ := ok.2 hs
    rw [ratOf_fq] at h
    cases hb : isNon (beatD v) with
    | false => rw [if_neg (by rw [hb]; intro z; cases z)] at h; cases h
    | true =>
      rw [if_pos hb] at h
      cases h
      refine .inr ⟨v, rfl, sv, bv, ?_, rfl⟩
      exact isNon_iff hb
theorem Dd.deedB {P : Program} {w : World} {K : PySem.W.Frag} {mg : Str → Option Value} {base : Heap} {x : Str} {st : Stmt} {N ps : List Str} {k : Nat} {C : Addr} {t : TS} {R : Bst → List Dt → Dt → Bst → Prop} (D : Dd K mg x st ps) (S : FnScope N ps (defScope st)) (hl : ∀ b ds d b', R b ds d b' → ds.length + 1 = ps.length)
    (h1 : ∀ (f : Addr) (cdv : Value) (A : Around) (outer : List Env) (s : Shared) (H : Hp) (E : XK), Room k (A.deeper (envOfC x (defScope st) s.heap.objs.size f cdv)) → PSs (cxOf CX0 P w K mg base N x (defScope st) f cdv A outer s H E).nox (defBody st) t)
    (h2 : ∀ y p b ds d b', R b ds d b' → Br K [y, p] (fun G H => BnAt K C y p G H b) (fun G H => BnAt K C y p G H b') t (Sl.raw (.ref y) :: (ds.map Sl.d ++ List.replicate (N.length - ps.length) .no)) d) : Has P w K mg base CX0 (k + 1) x ps (spBnD K C R) := by
  refine D.any S (fun vs H Q E h => ?_) h1 fun vs H Q E h => ?_
  · obtain ⟨y, p, ws, ds, b, G, d, b', rfl, _, r, _, hR, _⟩ := h
    show ws.length + 1 = _
    rw [r.length]
    exact hl b ds d b' hR
  · obtain ⟨y, p, ws, ds, b, G, d, b', rfl, kk, r, hB, hR, qq⟩ := h
    exact h2 y p b ds d b' hR G H _ kk (start_bn r (hl b ds d b' hR)) hB _ fun v G2 H2 n2 b2 r2 => qq v G2 H2 n2 b2 r2
end Z
namespace Z
open PySem PySem.Spec PyProof.Rows L2 RZ
open Evl (Ex)
/-! ### a dict of haps, walked: it is locked meanwhile -/
/-- slots that hold nothing of a dict -/
def okS : Sl → Bool
  | .no => true
  | .raw _ => true
  | .d (.str _) => true
  | _ => false
theorem frd_lock {K : PySem.W.Frag} {G : Hp} {a : Addr} {o : HO} : ∀ {σ : L2.St} {sl : List Sl}, FrD K G σ sl → (∀ z ∈ sl, okS z = true) → FrD K (upd G a o) σ sl
  | _, _, .nil, _ => .nil
  | _ :: _, z :: sl, .cons r t, h => .cons (by
      have h0 := h z List.mem_cons_self
      cases r with
      | no => exact .no _
      | raw => exact .raw _
      | d q => cases q <;> first | exact .d (.str _) | cases h0
      | ud => cases h0
      | kd => cases h0
      | tk => cases h0) (frd_lock t fun z hz => h z (List.mem_cons_of_mem _ hz))
section
variable {K : PySem.W.Frag} {S Si : Hp → Hp → Prop} {sl : List Sl} {t : TS} {a : Addr} {hs : Hps} {m i : Nat} {N : List Sl → Prop}
/-- what is known of a dict that is locked -/
def Frz (a : Addr) (od : Obj) (kvs : List (Key × V)) (G : Hp) : Prop := G a = some (.frz od (.dK kvs))
theorem bn_lock {Pk : List (Key × V) → Prop} (hS : Stb S) (hd : ∀ G H, S G H → ∃ kvs, G a = some (.dK kvs))
    (hin : ∀ G H od kvs, S G H → Ex G H → G a = some (.dK kvs) → Si (upd G a (.frz od (.dK kvs))) (upd H a (.frz od (.dK kvs))))
    (hsl : ∀ z ∈ sl, okS z = true) (hN : ∀ s, N s → ∀ z ∈ s, okS z = true)
    (hP : ∀ G H kvs, S G H → G a = some (.dK kvs) → Pk kvs)
    (h : ∀ od kvs, Pk kvs → Bn K [] (fun G H => Si G H ∧ Frz a od kvs G) (fun G H => Si G H ∧ Frz a od kvs G) t sl N) : Bn K [] S S (tLock t) sl N := fun G H σ k f s D q => by
  obtain ⟨kvs, ga⟩ := hd G H s
  have ha := k _ _ ga
  refine ⟨a, _, ha, trivial, fun od => ?_⟩
  have k1 : Ex (upd G a (.frz od (.dK kvs))) (upd H a (.frz od (.dK kvs))) := fun c o e => by
    by_cases z : c = a
    · rw [z, upd_same] at e
      rw [z, upd_same]
      exact e
    · rw [upd_ne z] at e
      rw [upd_ne z]
      exact k _ _ e
  refine h od kvs (hP G H kvs s ga) _ _ σ k1 (frd_lock f hsl) ⟨hin G H od kvs s k ga, upd_same⟩ _ fun σ2 sl2 G2 H2 w n2 ⟨_, g2⟩ f2 => ?_
  have h2 := n2.k _ _ g2
  refine ⟨h2, ?_⟩
  have n3 : NxP [] G H (upd G2 a (.dK kvs)) (upd H2 a (.dK kvs)) := by
    refine ⟨fun c o e => ?_, fun c o e => ?_, fun c o hc e => ?_, fun c hc => ?_, fun c h1 h3 => ?_⟩
    · by_cases z : c = a
      · rw [z, upd_same, ← e, z, ga]
      · rw [upd_ne z]
        exact n2.g _ _ (by rw [upd_ne z]; exact e)
    · by_cases z : c = a
      · rw [z, upd_same] at e
        rw [z, upd_same]
        exact e
      · rw [upd_ne z] at e
        rw [upd_ne z]
        exact n2.k _ _ e
    · by_cases z : c = a
      · rw [z, upd_same, ← e, z, ha]
      · rw [upd_ne z]
        exact n2.h _ _ hc (by rw [upd_ne z]; exact e)
    · by_cases z : c = a
      · rw [z, upd_same]; intro y; cases y
      · rw [upd_ne z]
        exact n2.t c (by rw [upd_ne z]; exact hc)
    · have z : c ≠ a := fun z => by rw [z, ga] at h1; cases h1
      rw [upd_ne z]
      exact n2.f c (by rw [upd_ne z]; exact h1) (by rw [upd_ne z]; exact h3)
  exact q σ2 sl2 _ _ w n3 (hS _ _ _ _ s n3.nx) (frd_lock f2 (hN _ w))
/-- for key in the locked dict -/
theorem bn_forF {kvs : List (Key × V)} {od : Obj} {ks : List Str} (hS : Stb S) (hk : ∀ G H, S G H → Frz a od kvs G) (he : kvs.map (·.1) = ks.map Sum.inr) (hm : sl[m]? = some (.raw (.ref a))) (hw : ∀ n : Str, Paired Wk (sl.set i (.d (.str n))) sl)
    (hs : ∀ n ∈ ks, Bn K [] S S t (sl.set i (.d (.str n))) fun s => Paired Wk s sl) : Bn K [] S S (tFor (iKeys (tVar m)) (gName i) t) sl fun s => s = sl := fun G H σ k f s D q => by
  have g := hk G H s
  have hlen : kvs.length = ks.length := by
    have := congrArg List.length he
    rwa [List.length_map, List.length_map] at this
  refine ⟨.ref a, frd_raw f hm, a, od, rfl, .inl ⟨kvs, k _ _ g, for_it (walk_keys (d := a) (o := od)) (fun n σ' H' => ∃ G', NxP [] G H G' H' ∧ S G' H' ∧ FrD K G' σ' sl) ⟨G, .refl k, s, f⟩ (fun n σ' H' _ ⟨G', n1, s1, _⟩ => n1.k _ _ (hk _ _ s1)) ?_ ?_⟩⟩
  · rintro n x σ' H' H'' hlt ⟨G', n1, s1, f1⟩ ⟨rfl, key, v, hkv, rfl⟩
    have hn : n < ks.length := by omega
    have ek : key = Sum.inr ks[n] := by
      have h1 : (kvs.map (·.1))[n]? = some key := by rw [List.getElem?_map, hkv]; rfl
      rw [he, List.getElem?_map, List.getElem?_eq_getElem hn] at h1
      cases h1
      rfl
    subst ek
    exact hs ks[n] (List.getElem_mem hn) G' H'' _ n1.k (frd_set (.d (.str _)) i f1) s1 _ fun σ3 s3 G3 H3 w3 n3 s3' f3 => ⟨G3, n1.trans n3, s3', frd_wk f3 w3⟩
  · rintro σ' H' ⟨G', n1, s1, f1⟩
    exact q σ' sl G' H' rfl n1 s1 f1
end
/-! ### what is known stays known while the dict is locked -/
mutual
def noDc : Dt → Bool
  | .tup l => noDcs l
  | .lst l => noDcs l
  | .dct => false
  | _ => true
def noDcs : List Dt → Bool
  | [] => true
  | d :: l => noDc d && noDcs l
end
mutual
theorem rp_lock {K : PySem.W.Frag} {G : Hp} {a : Addr} {o : HO} {kvs : List (Key × V)} (h : G a = some (.dK kvs)) : ∀ {v : V} {x : Dt}, Rp K G v x → noDc x = true → Rp K (upd G a o) v x
  | _, _, .non, _ => .non
  | _, _, .bl b, _ => .bl b
  | _, _, .int i, _ => .int i
  | _, _, .str s, _ => .str s
  | _, _, .tup hs r, n => .tup (by
      rcases hs with ⟨ob, hs, d⟩ | hs
      · exact .inl ⟨ob, by rw [upd_ne (fun z => by rw [z, h] at hs; cases hs)]; exact hs, d⟩
      · exact .inr hs) (rps_lock h r (by simpa [noDc] using n))
  | _, _, .lst hs r, n => .lst (by
      rcases hs with (hs | ⟨ob, hs⟩) | hs
      · exact .inl (.inl (by rw [upd_ne (fun z => by rw [z, h] at hs; cases hs)]; exact hs))
      · exact .inl (.inr ⟨ob, by rw [upd_ne (fun z => by rw [z, h] at hs; cases hs)]; exact hs⟩)
      · exact .inr hs) (rps_lock h r (by simpa [noDc] using n))
  | _, _, .dct hs, n => by simp [noDc] at n
theorem rps_lock {K : PySem.W.Frag} {G : Hp} {a : Addr} {o : HO} {kvs : List (Key × V)} (h : G a = some (.dK kvs)) : ∀ {vs : List V} {ds : List Dt}, Rps K G vs ds → noDcs ds = true → Rps K (upd G a o) vs ds
  | _, _, .nil, _ => .nil
  | _, _, .cons b r, n => by
    simp only [noDcs, Bool.and_eq_true] at n
    exact .cons (rp_lock h b n.1) (rps_lock h r n.2)
end
section
variable {K : PySem.W.Frag} {C x y a a0 : Addr} {G H : Hp} {b : Bst} {od : Obj} {kvs : List (Key × V)} {hs : Hps}
theorem dic_lock (ga : G a = some (.dK kvs)) (h : DicR K G a0 hs) : DicR K (upd G a (.frz od (.dK kvs))) a0 hs := by
  obtain ⟨kv, h1, h2⟩ := h
  refine ⟨kv, ?_, L2.Paired.mapP h2 fun _ _ ⟨r1, r2⟩ => ⟨r1, rp_lock ga r2 rfl⟩⟩
  by_cases z : a0 = a
  · subst z
    rcases h1 with h1 | ⟨o, h1⟩
    · rw [ga] at h1
      cases h1
      exact .inr ⟨od, upd_same⟩
    · rw [ga] at h1
      cases h1
  · rcases h1 with h1 | ⟨o, h1⟩
    · exact .inl (by rw [upd_ne z]; exact h1)
    · exact .inr ⟨o, by rw [upd_ne z]; exact h1⟩
theorem BnR.lock (h : BnR K C x G H b) (ga : G a = some (.dK kvs)) : BnR K C x (upd G a (.frz od (.dK kvs))) (upd H a (.frz od (.dK kvs))) b := by
  obtain ⟨dx, a0, s, p, h1, h2, h3⟩ := h.ex
  have nx : x ≠ a := fun z => by have := h.gx; rw [z, ga] at this; cases this
  exact ⟨⟨dx, a0, s, p, by rw [upd_ne nx]; exact h1, dic_lock ga h2, rp_lock ga h3 rfl⟩, by rw [upd_ne nx]; exact h.gx⟩
theorem SoR.lock (h : SoR K y G H b) (ga : G a = some (.dK kvs)) : SoR K y (upd G a (.frz od (.dK kvs))) (upd H a (.frz od (.dK kvs))) b := by
  obtain ⟨a0, s, p, pv, h1, h2, h3, h4, h5, h6⟩ := h.ex
  have ny : y ≠ a := fun z => by have := h.gy; rw [z, ga] at this; cases this
  have np : p ≠ a := fun z => by rw [z, ga] at h6; cases h6
  exact ⟨⟨a0, s, p, pv, by rw [upd_ne ny]; exact h1, dic_lock ga h2, rp_lock ga h3 rfl, by rw [upd_ne np]; exact h4, h5, by rw [upd_ne np]; exact h6⟩, by rw [upd_ne ny]; exact h.gy⟩
end
/-! ### try whose suite hands back -/
section
variable {K : PySem.W.Frag} {us : List Addr} {S S2 : Hp → Hp → Prop} {sl : List Sl} {t u : WX → TS} {o : Oc} {N : List Sl → Prop} {tc : TT} {b : Bool} {C x : Addr} {bs : Bst} {tr : TA} {xs : List Dt} {c : Value} {d : Dt} {i : Nat} {m z : Str} {M : Value} {Kd : Addr → Str → Prop} {te : WX → TE} {F : WX} {hd : Addr → Value → Option Addr → TS}
def EbxW (K : PySem.W.Frag) (S : Hp → Hp → Prop) (te : WX → TE) (sl : List Sl) (c : Value) : Prop := ∀ (G H : Hp) (σ : L2.St), Ex G H → FrD K G σ sl → S G H → ∀ (W : WX) (Q : VK), (∀ G2 H2, Nx G H G2 H2 → W c none σ H2) → te W σ H Q
theorem tw_ret (hS : Stb S) (h : ∀ W, Eb K S (te W) sl d) : Tw K us S S (fun W => tRet (te W)) sl (.ret d) N := fun G H σ k f s D W q1 _ _ => h W G H σ k f s _ fun v G2 H2 n2 r2 => q1 d rfl v G2 H2 n2.p (hS _ _ _ _ s n2) r2
theorem tw_retX (h : EbxW K S te sl c) : Tw K us S S2 (fun W => tRet (te W)) sl (.out c) N := fun G H σ k f s D W _ _ q3 => h G H σ k f s W _ (q3 c rfl)
theorem tw_yes (hS : Stb S) (h : EbT K S tc sl true) (ho : o ≠ .go) (g : Tw K us S S2 t sl o N) : Tw K us S S2 (fun W => tSeq (tIfS tc (t W) tNext) (u W)) sl o N := fun G H σ k f s D W q1 q2 q3 => h G H σ k f s _ fun G1 H1 n1 =>
  g G1 H1 σ n1.k (FrD.mono n1.g f) (hS _ _ _ _ s n1) { D with nx := u W D } W (fun d e v G2 H2 n2 => q1 d e v G2 H2 (n1.p.trans n2)) (fun e => absurd e ho) fun c e G2 H2 n2 => q3 c e G2 H2 (n1.trans n2)
theorem tw_no (hS : Stb S) (h : EbT K S tc sl false) (g : Tw K us S S2 u sl o N) : Tw K us S S2 (fun W => tSeq (tIfS tc (t W) tNext) (u W)) sl o N := fun G H σ k f s D W q1 q2 q3 => h G H σ k f s _ fun G1 H1 n1 =>
  g G1 H1 σ n1.k (FrD.mono n1.g f) (hS _ _ _ _ s n1) D W (fun d e v G2 H2 n2 => q1 d e v G2 H2 (n1.p.trans n2)) (fun e σ2 sl2 G2 H2 w n2 => q2 e σ2 sl2 G2 H2 w (n1.p.trans n2)) fun c e G2 H2 n2 => q3 c e G2 H2 (n1.trans n2)
theorem eb_mqE {R : Bst → List Dt → Dt → Prop} {XF : Bst → List Dt → Value → Prop} {E : L2.St → XK} (hS : Stb S) (hB : ∀ G H, S G H → BnR K C x G H bs) (hi : sl[i]? = some (.raw (.ref x))) (hm1 : ¬ m = "_past") (hm2 : ¬ m = "_speed") (hm3 : ¬ m = "_haps") (h : EbA K S tr sl xs) (hr : R bs xs d) :
    Eb K S (tMethE C m (spBq K C R XF) E (tVar i) tr) sl d := fun G H σ k f s Q q => eb_mq (E := E σ) hS hB hi hm1 hm2 hm3 h hr G H σ k f s Q q
theorem ebxw_tup {R : Bst → List Dt → Dt → Prop} {XF : Bst → List Dt → Value → Prop} (hS : Stb S) (hB : ∀ G H, S G H → BnR K C x G H bs) (hi : sl[i]? = some (.raw (.ref x))) (hm1 : ¬ m = "_past") (hm2 : ¬ m = "_speed") (hm3 : ¬ m = "_haps") (h : EbA K S tr sl xs) (hX : XF bs xs c) :
    EbxW K S (fun W => tTup (tCons (tC (.str z)) (tCons (tMethE C m (spBq K C R XF) (fun σ c d H => W c d σ H) (tVar i) tr) tNil))) sl c := fun G H σ k f s W Q q => by
  obtain ⟨dx, a, sp, pq, h1, _⟩ := (hB G H s).ex
  refine ⟨.ref x, frd_raw f hi, x, dx, _, rfl, h1, flds_no _ _ _ hm1 hm2 hm3, ?_⟩
  exact h G H σ k f s _ fun vs G1 H1 n1 r1 => ⟨x, vs ++ [], xs, bs, G1, rfl, n1.k, rps_nil r1, hB G1 H1 (hS _ _ _ _ s n1), .inr ⟨c, hX, fun G2 H2 n2 => q G2 H2 (n1.trans n2)⟩⟩
theorem br_tryR (h : Tw K us S S2 t sl (.ret d) N) : Br K us S S2 (tTry K M i hd F t) sl d := fun G H σ k f s D q =>
  h G H σ k f s D _ (fun x e v G2 H2 n2 s2 r2 => by cases e; exact q v G2 H2 n2 s2 r2) (fun e => by cases e) fun c e => by cases e
theorem br_tryO (hS : Stb S) (h : Tw K us S S t sl (.out c) N) (hi : i < sl.length) (ok : ∃ C ans, c = .ref C ∧ PySem.W.exmOne K (.ref C) M = some true ∧ Kd C ans ∧ d = .tup [.str z, .str ans]) :
    Br K us S S (tTry K M i (fun a cls dd => tRet (tTup (tCons (tC (.str z)) (tCons (tKind Kd i a cls dd) tNil)))) (fun _ _ _ _ => False) t) sl d := fun G H σ k f s D q =>
  h G H σ k f s D _ (fun x e => by cases e) (fun e => by cases e) fun c' e G2 H2 n2 => by
    cases e
    obtain ⟨C, ans, rfl, h1, h2, rfl⟩ := ok
    refine ⟨true, h1, fun _ a ha => ?_, fun z => by cases z⟩
    refine ⟨_, _, rfl, rfl, h2, List.getElem?_set_self (by rw [frd_len f]; exact hi), fun H3 e3 => ?_⟩
    have n3 : Nx G H G2 H3 := ⟨n2.g, fun c o e => e3 _ _ (by
      have hc : c ≠ a := fun z => by
        have := n2.h c o e
        rw [z, ha] at this
        cases this
      first | exact n2.h c o e | (rw [upd_ne hc]; exact n2.h c o e)), n2.k.trans e3, n2.f⟩
    exact ⟨by exact sz_ok (by exact Nat.le_of_ble_eq_true rfl), fun t o ht ho => q _ _ _ (n3.p.trans (Nx.new n3.k ht).p) (hS _ _ _ _ (hS _ _ _ _ s n3) (.new n3.k ht)) (.tup (sqx_new ho) (.cons (.str _) (.cons (.str _) .nil)))⟩
end
end Z
namespace Z
open PySem PySem.Spec PyProof.Rows L2 RZ
open Evl (Ex)
/-! ### a def that asks a bench -/
def spBnQ (K : PySem.W.Frag) (C : Addr) (R : Bst → List Dt → Dt → Prop) : L2.Sp := fun vs H Q _ => ∃ x ws ds b G d, vs = .ref x :: ws ∧ Ex G H ∧ Rps K G ws ds ∧ BnR K C x G H b ∧ R b ds d ∧ ∀ v G2 H2, Nx G H G2 H2 → Rp K G2 v d → Q v H2
theorem Dd.askB {P : Program} {w : World} {K : PySem.W.Frag} {mg : Str → Option Value} {base : Heap} {x : Str} {st : Stmt} {N ps : List Str} {k : Nat} {C : Addr} {t : TS} {R : Bst → List Dt → Dt → Prop} (D : Dd K mg x st ps) (S : FnScope N ps (defScope st)) (hl : ∀ b ds d, R b ds d → ds.length + 1 = ps.length)
    (h1 : ∀ (f : Addr) (cdv : Value) (A : Around) (outer : List Env) (s : Shared) (H : Hp) (E : XK), Room k (A.deeper (envOfC x (defScope st) s.heap.objs.size f cdv)) → PSs (cxOf CX0 P w K mg base N x (defScope st) f cdv A outer s H E).nox (defBody st) t)
    (h2 : ∀ y b ds d, R b ds d → Br K [] (fun G H => BnR K C y G H b) (fun G H => BnR K C y G H b) t (Sl.raw (.ref y) :: (ds.map Sl.d ++ List.replicate (N.length - ps.length) .no)) d) : Has P w K mg base CX0 (k + 1) x ps (spBnQ K C R) := by
  refine D.any S (fun vs H Q E h => ?_) h1 fun vs H Q E h => ?_
  · obtain ⟨y, ws, ds, b, G, d, rfl, _, r, _, hR, _⟩ := h
    show ws.length + 1 = _
    rw [r.length]
    exact hl b ds d hR
  · obtain ⟨y, ws, ds, b, G, d, rfl, kk, r, hB, hR, qq⟩ := h
    exact h2 y b ds d hR G H _ kk (start_bn r (hl b ds d hR)) hB _ fun v G2 H2 n2 b2 r2 => qq v G2 H2 n2.nx r2
section
variable {K : PySem.W.Frag} {S : Hp → Hp → Prop} {sl : List Sl} {C x a : Addr} {b : Bst} {i m : Nat} {tr : TA} {ty : TE} {xs : List Dt} {d : Dt} {E : XK} {hs : Hps} {n : Str} {q : Rat × Rat}
theorem eb_bq {R : Bst → List Dt → Dt → Prop} (hS : Stb S) (hB : ∀ G H, S G H → BnR K C x G H b) (hi : sl[i]? = some (.raw (.ref x))) (h : EbA K S tr sl xs) (hr : R b xs d) : Eb K S (tCall (spBnQ K C R) [] E (tCons (tVar i) tr)) sl d := fun G H σ k f s Q qq => by
  refine ⟨.ref x, frd_raw f hi, ?_⟩
  exact h G H σ k f s _ fun vs G1 H1 n1 r1 => ⟨x, vs ++ [], xs, b, G1, d, rfl, n1.k, rps_nil r1, hB G1 H1 (hS _ _ _ _ s n1), hr, fun v G2 H2 n2 r2 => qq v G2 H2 (n1.trans n2) r2⟩
/-- d[key], the dict of haps at hand -/
theorem eb_hget (hS : Stb S) (hB : ∀ G H, S G H → DicR K G a hs) (hi : sl[i]? = some (.raw (.ref a))) (h : Eb K S ty sl (.str n)) (hq : getH hs n = some q) : Eb K S (tDGet (tVar i) ty) sl (hpD q) := fun G H σ k f s Q qq => by
  refine ⟨.ref a, frd_raw f hi, ?_⟩
  refine h G H σ k f s _ fun v G1 H1 n1 r1 => ?_
  cases r1
  obtain ⟨kvs, e2, e3⟩ := hB _ _ (hS _ _ _ _ s n1)
  rcases pair_get n e3 with ⟨h1, _⟩ | ⟨q2, v, h1, h2, h3⟩
  · rw [h1] at hq
    cases hq
  · rw [h1] at hq
    cases hq
    exact ⟨a, v, rfl, h2 ▸ DGet.r (k := .inr n) (rd_mono n1.k e2), qq v G1 H1 n1 h3⟩
/-- sorted(d), the dict of haps at hand -/
theorem eb_hsort (hB : ∀ G H, S G H → DicR K G a hs) (hi : sl[i]? = some (.raw (.ref a))) (hl : hs.length < 64) : Eb K S (tCB rSortH (tCons (tVar i) tNil)) sl (.lst ((srtN (hs.map (·.1))).map Dt.str)) := fun G H σ k f s Q qq => by
  obtain ⟨kvs, e2, e3⟩ := hB _ _ s
  refine ⟨.ref a, frd_raw f hi, a, kvs, hs.map (·.1), rfl, rd_mono k e2, dic_keys e3, by rw [List.length_map]; exact hl, fun ys p hp hs hq => ?_⟩
  have e := srtN_is hp hs
  subst e
  exact qq _ _ _ (Nx.new k hq) (.lst (.inl (.inl upd_same)) (rps_strs _))
end
end Z
namespace Z
open PySem PySem.Spec PyProof.Rows L2 RZ
open Evl (Ex)
/-! ### what holds of the haps of a bench that was told drawn deeds -/
def HapsI (hs : Hps) : Prop := ∀ e ∈ hs, isNm (.str e.1) = true ∧ e.1.length ≤ 90000 ∧ e.1 ≠ "q" ∧ Bq 90 e.2.1 ∧ Bq 4 e.2.2
theorem getH_mem {hs : Hps} {n : Str} (h : n ∈ hs.map (·.1)) : ∃ q, getH hs n = some q := by
  obtain ⟨e, he, rfl⟩ := List.mem_map.mp h
  unfold getH
  cases hf : hs.find? (fun q => decide (q.1 = e.1)) with
  | none =>
    have := List.find?_eq_none.mp hf e he
    simp at this
  | some q => exact ⟨q.2, rfl⟩
theorem getH_in {hs : Hps} {n : Str} {q : Rat × Rat} (h : getH hs n = some q) : (n, q) ∈ hs := by
  unfold getH at h
  cases hf : hs.find? (fun e => decide (e.1 = n)) with
  | none => rw [hf] at h; cases h
  | some e =>
    rw [hf] at h
    cases h
    have h1 := List.mem_of_find?_eq_some hf
    have h2 := List.find?_some hf
    have h3 : e.1 = n := of_decide_eq_true h2
    rw [← h3]
    exact h1
theorem getH_q {hs : Hps} (h : HapsI hs) : getH hs "q" = none := by
  cases hg : getH hs "q" with
  | none => rfl
  | some q => exact absurd rfl (h _ (getH_in hg)).2.2.1
theorem hapsI_put {hs : Hps} {n : Str} {q : Rat × Rat} (h : HapsI hs) (hn : isNm (.str n) = true ∧ n.length ≤ 90000 ∧ n ≠ "q" ∧ Bq 90 q.1 ∧ Bq 4 q.2) : HapsI (putH hs n q) := fun e he => by
  unfold putH at he
  split at he
  · obtain ⟨e0, h0, rfl⟩ := List.mem_map.mp he
    split
    · rename_i z
      show isNm (.str e0.1) = true ∧ _
      rw [z]
      exact hn
    · exact h e0 h0
  · rcases List.mem_append.mp he with he | he
    · exact h e he
    · rw [List.mem_singleton.mp he]
      exact hn
theorem hapsI_drop {hs : Hps} {n : Str} (h : HapsI hs) : HapsI (dropH hs n) := fun e he => h e (List.mem_filter.mp he).1
theorem sh_wordT (l g : Rat) : SeqAt.shaped (.tuple [.str "word", .str (wordS l g)]) = true := by
  unfold wordS
  split
  · decide +kernel
  · split
    · decide +kernel
    · split <;> decide +kernel
/-! ### pots beside a world -/
section
variable {K : PySem.W.Frag} {S S2 : Hp → Hp → Prop} {sl : List Sl} {t : TS} {N : List Sl → Prop} {pot : Addr} {us vs : List Addr}
theorem bn_us (h : Bn K us S S2 t sl N) (hu : ∀ a ∈ us, a ∈ vs) : Bn K vs S S2 t sl N := fun G H σ k f s D q => h G H σ k f s D fun σ2 sl2 G2 H2 w n2 => q σ2 sl2 G2 H2 w ⟨n2.g, n2.k, fun c o hc e => n2.h c o (fun z => hc (hu c z)) e, n2.t, n2.f⟩
theorem stb_pot (hS : Stb S) : Stb fun G H => S G H ∧ Pots [pot] G H := fun _ _ _ _ h n => ⟨hS _ _ _ _ h.1 n, h.2.nx n⟩
theorem bn_ofIp (hS : ∀ G H G2 H2, S G H → NxP [pot] G H G2 H2 → S G2 H2) (h : Ip K t sl [pot] N) : Bn K [pot] (fun G H => S G H ∧ Pots [pot] G H) (fun G H => S G H ∧ Pots [pot] G H) t sl N := fun G H σ k f s D q =>
  h G H σ k f s.2 D fun σ2 sl2 G2 H2 w n2 m2 f2 => q σ2 sl2 G2 H2 w n2 ⟨hS _ _ _ _ s.1 n2, m2⟩ f2
end
section
variable {K : PySem.W.Frag} {S S1 S2 : Hp → Hp → Prop} {sl : List Sl} {t u : TS} {tl : TE} {ds : List Dt} {us : List Addr} {y p : Addr} {b : Bst} {i j : Nat} {d : Dt} {N : List Sl → Prop}
theorem br_w (h : Br K us S1 S2 t sl d) (w : ∀ G H, S G H → S1 G H) : Br K us S S2 t sl d := fun G H σ k f s => h G H σ k f (w G H s)
/-- the dict of the haps, by a name -/
theorem br_dict (hB : ∀ G H, S G H → SoAt K y p G H b) (hi : sl[i]? = some (.raw (.ref y))) (g : ∀ a, Br K us (fun G H => S G H ∧ DicAt K G a b.haps) S2 u (sl.set j (.raw (.ref a))) d) : Br K us S S2 (tSeq (tAsg (tDGet (tVar i) (tC (.str "haps"))) (gName j)) u) sl d := fun G H σ k f s D q => by
  obtain ⟨a, sp, pv, e1, e2, _⟩ := (hB G H s).ex
  exact ⟨.ref y, frd_raw f hi, y, .ref a, rfl, st_haps (s := sp) (p := p) ▸ DGet.k (k := .inr "haps") e1, g a G H _ k (frd_set (.raw _) j f) ⟨s, e2⟩ D q⟩
/-- for x in a list of data, where a world stands -/
theorem bn_forL (hS : Stb S) (h : Ev K tl sl (.lst ds)) (hw : ∀ d : Dt, Paired Wk (sl.set i (.d d)) sl) (hs : ∀ d ∈ ds, Bn K [] S S t (sl.set i (.d d)) fun s => Paired Wk s sl) : Bn K [] S S (tFor (iList K tl) (gName i) t) sl fun s => s = sl := fun G H σ k f s D q => h G H σ k f _ fun v G1 H1 n1 r1 => by
  cases r1 with
  | lst hl rs =>
    rename_i a xs
    refine ⟨a, rfl, ⟨_, Evl.ex_l n1.k hl⟩, for_list (K := K) (a := a) (xs := xs) (fun i σ' H' => ∃ G', NxP [] G H G' H' ∧ Ex G1 G' ∧ S G' H' ∧ FrD K G' σ' sl) ⟨G1, n1.p, Ex.refl _, hS _ _ _ _ s n1, FrD.mono n1.g f⟩ (fun i σ' H' _ ⟨G', n', e', _⟩ => Evl.ex_l n'.k (Evl.ex_l e' hl)) ?_ ?_⟩
    · rintro i x σ2 H2 hi ⟨G2, n2, e2, s2, f2⟩
      obtain ⟨d, hd, rd⟩ : ∃ d, ds[i]? = some d ∧ Rp K G1 x d := by
        have hlen := rs.length
        have hi2 : i < xs.length := (List.getElem?_eq_some_iff.mp hi).1
        have hd : ds[i]? = some ds[i] := List.getElem?_eq_getElem (by omega)
        obtain ⟨v, hv, rv⟩ := rs.get hd
        rw [hi] at hv
        cases hv
        exact ⟨_, hd, rv⟩
      exact hs d (List.mem_of_getElem? hd) G2 H2 _ n2.k (frd_set (.d (rd.mono e2)) _ f2) s2 _ fun σ3 s3 G3 H3 w3 n3 s3' f3 => ⟨G3, n2.trans n3, e2.trans n3.g, s3', frd_wk f3 w3⟩
    · rintro σ2 H2 ⟨G2, n2, e2, s2, f2⟩
      exact q σ2 sl G2 H2 rfl n2 s2 f2
end
/-- a def that asks a bench and a law's books, and draws -/
def spWr (K : PySem.W.Frag) (C : Addr) : L2.Sp := fun vs H Q _ => ∃ pot x y p b G, vs = [.ref pot, .ref x, .ref y] ∧ Ex G H ∧ Pots [pot] G H ∧ BnR K C x G H b ∧ SoAt K y p G H b ∧ (pot ≠ x ∧ pot ≠ y ∧ pot ≠ p) ∧ HapsI b.haps ∧ b.haps.length ≤ 12 ∧ ∀ G2 H2, NxP [pot] G H G2 H2 → Pots [pot] G2 H2 → Q (.bl true) H2
theorem Dd.wr {P : Program} {w : World} {K : PySem.W.Frag} {mg : Str → Option Value} {base : Heap} {x : Str} {st : Stmt} {N ps : List Str} {k : Nat} {C : Addr} {t : TS} (D : Dd K mg x st ps) (S : FnScope N ps (defScope st)) (hl : 3 = ps.length)
    (h1 : ∀ (f : Addr) (cdv : Value) (A : Around) (outer : List Env) (s : Shared) (H : Hp) (E : XK), Room k (A.deeper (envOfC x (defScope st) s.heap.objs.size f cdv)) → PSs (cxOf CX0 P w K mg base N x (defScope st) f cdv A outer s H E).nox (defBody st) t)
    (h2 : ∀ pot x y p b, (pot ≠ x ∧ pot ≠ y ∧ pot ≠ p) → HapsI b.haps → b.haps.length ≤ 12 → Br K [pot] (fun G H => (BnR K C x G H b ∧ SoAt K y p G H b) ∧ Pots [pot] G H) (fun G H => Pots [pot] G H) t (Sl.raw (.ref pot) :: Sl.raw (.ref x) :: Sl.raw (.ref y) :: List.replicate (N.length - ps.length) .no) (.bl true)) : Has P w K mg base CX0 (k + 1) x ps (spWr K C) := by
  refine D.any S (fun vs H Q E h => ?_) h1 fun vs H Q E h => ?_
  · obtain ⟨pot, x, y, p, b, G, rfl, _⟩ := h
    exact hl
  · obtain ⟨pot, x, y, p, b, G, rfl, kk, mp, hB, hS, hn, hI, h12, qq⟩ := h
    refine h2 pot x y p b hn hI h12 G H _ kk ?_ ⟨⟨hB, hS⟩, mp⟩ _ fun v G2 H2 n2 m2 r2 => by
      cases r2
      exact qq G2 H2 n2 m2
    unfold L2.start
    show FrD K G (([V.ref pot, .ref x, .ref y].map some) ++ List.replicate (N.length - 3) none) _
    rw [hl]
    exact .cons (.raw _) (.cons (.raw _) (.cons (.raw _) (frd_start (vs := []) (ds := []) _ .nil)))
end Z
namespace Z
open PySem PySem.Spec PyProof.Rows L2 RZ
open Evl (Ex)
/-! ### a comprehension where a world stands -/
theorem eb_lcP {K : PySem.W.Frag} {S : Hp → Hp → Prop} {sl : List Sl} {te tl : TE} {i : Nat} {ds es : List Dt} (hes : es.length = ds.length) (hS : Stb S) (h : Eb K S tl sl (.lst ds)) (hn : ds.length ≤ 90000) (he : ∀ (k : Nat) (d e : Dt), ds[k]? = some d → es[k]? = some e → Eb K S te ((sl.set i .no).set i (.d d)) e) : Eb K S (tLc (iList K tl) (gName i) tYes te [i]) sl (.lst es) := fun G H σ k fr s Q q =>
  h G H σ k fr s _ fun v G1 H1 n1 r1 => by
    cases r1 with
    | lst hs rs =>
      rename_i a xs
      have hlen := rs.length
      refine ⟨a, rfl, ⟨_, Evl.ex_l n1.k hs⟩, fun Dl hD => ?_⟩
      have gD : G1 Dl = none := free_of n1.k hD
      refine lc_list (K := K) (a := a) (xs := xs) (fun j H' => ∃ G' vs, Ex G1 G' ∧ Ex H1 H' ∧ Ex G' H' ∧ (∀ c, G1 c = none → H1 c ≠ none → G' c = none) ∧ G' Dl = none ∧ H' Dl = some (.lst vs) ∧ Rps K G' vs (es.take j))
        ⟨G1, [], Ex.refl _, Ex.new hD, n1.k.trans (Ex.new hD), fun _ z _ => z, gD, upd_same, .nil⟩ (fun j H' _ ⟨G', vs, e1, e2, _⟩ => Evl.ex_l (n1.k.trans e2) hs) ?_ ?_
      · rintro j x H' hj ⟨G', vs, e1, e2, e3, e4, e5, e6, e7⟩
        have hj2 : j < xs.length := (List.getElem?_eq_some_iff.mp hj).1
        have hd : ds[j]? = some ds[j] := List.getElem?_eq_getElem (by omega)
        obtain ⟨x', hx', rx⟩ := rs.get hd
        rw [hj] at hx'
        cases hx'
        refine ⟨?_, ?_⟩
        · show ((wipe σ [i]).set i (some x)).set i none = σ.set i none
          show (((σ.set i none)).set i (some x)).set i none = σ.set i none
          rw [List.set_set, List.set_set]
        · have fr1 : FrD K G' ((σ.set i none).set i (some x)) ((sl.set i .no).set i (.d ds[j])) := frd_set (.d (rx.mono e1)) i (frd_wipe i (FrD.mono (n1.g.trans e1) fr))
          have hd2 : es[j]? = some es[j] := List.getElem?_eq_getElem (by omega)
          refine he j ds[j] es[j] hd hd2 G' H' _ e3 fr1 (hS _ _ _ _ (hS _ _ _ _ s n1) ⟨e1, fun a o z => e2 a o z, e3, e4⟩) _ fun u G2 H2 n2 r2 => ?_
          have g2D : G2 Dl = none := n2.f Dl e5 (by rw [e6]; intro z; cases z)
          have hl := e7.length
          refine ⟨vs, n2.h Dl _ e6, Nat.lt_of_lt_of_le (m := 100000) (by rw [hl, List.length_take]; omega) (by decide), G2, vs ++ [u], e1.trans n2.g, Evl.Ex.mut (e2.trans n2.h) hD, Evl.Ex.mut n2.k g2D, fun c c1 c2 => n2.f c (e4 c c1 c2) (ne_none e2 c2), g2D, upd_same, ?_⟩
          have et : es.take (j + 1) = es.take j ++ [es[j]] := by
            rw [List.take_add_one, hd2]
            rfl
          rw [et]
          exact (e7.mono n2.g).snoc r2
      · rintro H' ⟨G', vs, e1, e2, e3, e4, e5, e6, e7⟩
        rw [hlen, show ds.length = es.length from hes.symm, List.take_length] at e7
        refine q _ (upd G' Dl (.lst vs)) H' (n1.trans ⟨e1.trans (Ex.new e5), e2, fun b o hb => ?_, fun c c1 c2 => ?_⟩) (.lst (.inl (.inl upd_same)) (e7.mono (Ex.new e5)))
        · by_cases z : b = Dl
          · subst z
            rw [upd_same] at hb
            rw [e6]
            exact hb
          · rw [upd_ne z] at hb
            exact e3 b o hb
        · have z : c ≠ Dl := fun z => by
            rw [z] at c2
            exact c2 hD
          rw [upd_ne z]
          exact e4 c c1 c2
/-! ### new books -/
def spFr (K : PySem.W.Frag) : L2.Sp := fun vs H Q _ => vs = [] ∧ ∃ G, Ex G H ∧ ∀ y p G2 H2, H y = none → H p = none → y ≠ p → NxP [] G H G2 H2 → SoAt K y p G2 H2 ⟨[], 0, []⟩ → Q (.ref y) H2
theorem nxp_newU {us : List Addr} {G H : Hp} {y : Addr} {u : HO} (k : Ex G H) (hy : H y = none) : NxP us G H G (upd H y u) := by
  have gy : G y = none := free_of k hy
  refine ⟨fun _ _ e => e, fun c o e => ?_, fun c o hc e => ?_, fun c hc => ?_, fun c h1 _ => h1⟩
  · rw [upd_ne (fun z : c = y => by rw [z, gy] at e; cases e)]
    exact k _ _ e
  · rw [upd_ne (fun z : c = y => by rw [z, hy] at e; cases e)]
    exact e
  · rw [upd_ne (fun z : c = y => hc (by rw [z]; exact hy))]
    exact hc
theorem nxp_again {us : List Addr} {G H G4 H4 : Hp} {y : Addr} {u : HO} (n : NxP us G H G4 H4) (hy : H y = none) (gy : G4 y = none) : NxP us G H G4 (upd H4 y u) := by
  refine ⟨n.g, fun c o e => ?_, fun c o hc e => ?_, fun c hc => ?_, n.f⟩
  · rw [upd_ne (fun z : c = y => by rw [z, gy] at e; cases e)]
    exact n.k _ _ e
  · rw [upd_ne (fun z : c = y => by rw [z, hy] at e; cases e)]
    exact n.h _ _ hc e
  · rw [upd_ne (fun z : c = y => hc (by rw [z]; exact hy))]
    exact n.t c hc
theorem merge_st (a : Addr) (s : V) (p : Addr) : mergeK [] (stD a s p) = stD a s p := by
  unfold mergeK stD
  simp only [List.foldl_cons, List.foldl_nil]
  have h1 : putK ([] : List (Key × V)) (.inr ("haps" : Str)) (.ref a) = [(.inr ("haps" : Str), .ref a)] := rfl
  rw [h1]
  have h2 : putK ([(.inr ("haps" : Str), .ref a)] : List (Key × V)) (.inr ("speed" : Str)) s = [(.inr ("haps" : Str), .ref a), (.inr ("speed" : Str), s)] := by
    unfold putK
    rw [if_neg (by rw [List.any_cons, List.any_nil, decide_eq_false ks1]; intro z; cases z)]
    rfl
  rw [h2]
  unfold putK
  rw [if_neg (by rw [List.any_cons, List.any_cons, List.any_nil, decide_eq_false ks2, decide_eq_false ks3]; intro z; cases z)]
  rfl
/-- the books as they are made -/
theorem fresh_ok {K : PySem.W.Frag} {G H : Hp} {σ : L2.St} {Q : VK} (k : Ex G H) (q : ∀ y p G2 H2, H y = none → H p = none → y ≠ p → NxP [] G H G2 H2 → SoAt K y p G2 H2 ⟨[], 0, []⟩ → Q (.ref y) H2) :
    tDisp [(tC (.str "haps"), tDct), (tC (.str "speed"), tTup (tCons (tC (.int 0)) (tCons (tC (.int 1)) tNil))), (tC (.str "past"), tLst tNil)] σ H Q := by
  intro y hy a ha
  have nay : a ≠ y := fun z => by rw [z, upd_same] at ha; cases ha
  rw [upd_ne nay] at ha
  refine ⟨by exact sz_ok (by exact Nat.le_of_ble_eq_true rfl), fun t o ht ho => ⟨by exact sz_ok (Nat.zero_le _), fun p hp => ?_⟩⟩
  have nta : t ≠ a := fun z => by rw [z, upd_same] at ht; cases ht
  rw [upd_ne nta] at ht
  have nty : t ≠ y := fun z => by rw [z, upd_same] at ht; cases ht
  rw [upd_ne nty] at ht
  have npt : p ≠ t := fun z => by rw [z, upd_same] at hp; cases hp
  rw [upd_ne npt] at hp
  have npa : p ≠ a := fun z => by rw [z, upd_same] at hp; cases hp
  rw [upd_ne npa] at hp
  have npy : p ≠ y := fun z => by rw [z, upd_same] at hp; cases hp
  rw [upd_ne npy] at hp
  refine ⟨by rw [upd_ne (Ne.symm npy), upd_ne (Ne.symm nty), upd_ne (Ne.symm nay), upd_same], stD a (.ref t) p, rfl, by show 3 ≤ 15; decide, ?_⟩
  rw [merge_st]
  have n1 : NxP [] G H G (upd H y (.dK [])) := nxp_newU k hy
  have n2 := n1.trans (Nx.new (o := .dK []) n1.k (show (upd H y (.dK [])) a = none by rw [upd_ne nay]; exact ha)).p (ps := [])
  have n3 := n2.trans (Nx.new (o := .frz o (.tup [.int 0, .int 1])) n2.k (show (upd (upd H y (.dK [])) a (.dK [])) t = none by rw [upd_ne nta, upd_ne nty]; exact ht)).p (ps := [])
  have n4 := n3.trans (nxp_newU (u := .lst []) n3.k (show (upd (upd (upd H y (.dK [])) a (.dK [])) t (.frz o (.tup [.int 0, .int 1]))) p = none by rw [upd_ne npt, upd_ne npa, upd_ne npy]; exact hp))
  have gy : (upd (upd G a (.dK [])) t (.frz o (.tup [.int 0, .int 1]))) y = none := by
    rw [upd_ne (Ne.symm nty), upd_ne (Ne.symm nay)]
    exact free_of k hy
  have gp : (upd (upd G a (.dK [])) t (.frz o (.tup [.int 0, .int 1]))) p = none := by
    rw [upd_ne npt, upd_ne npa]
    exact free_of k hp
  refine q y p _ _ hy hp (Ne.symm npy) (nxp_again n4 hy gy) ⟨⟨a, .ref t, [], upd_same, ⟨[], by rw [upd_ne (Ne.symm nta), upd_same], .nil⟩, .tup (.inl ⟨o, upd_same, ho⟩) (.cons (.int _) (.cons (.int _) .nil)), by rw [upd_ne npy, upd_same], .nil⟩, gy, gp⟩
end Z
namespace Z
open PySem PySem.Spec PyProof.Rows L2 RZ
open Evl (Ex)
/-! ### for sign in a text, where a world goes on -/
section
variable {K : PySem.W.Frag} {S : Nat → Hp → Hp → Prop} {sl : List Sl} {t : TS} {te : TE} {us : List Addr} {i : Nat} {z : Str}
theorem bn_forS (h : Ev K te sl (.str z)) (hS : Stb (S 0)) (hw : ∀ s : Str, Paired Wk (sl.set i (.d (.str s))) sl) (hs : ∀ k, k < z.cps.size → Bn K us (S k) (S (k + 1)) t (sl.set i (.d (sgD z k))) fun s => Paired Wk s sl) : Bn K us (S 0) (S z.cps.size) (tFor (iStr te) (gName i) t) sl fun s => s = sl := fun G H σ k f s D q => h G H σ k f _ fun v G1 H1 n1 r1 => by
  cases r1
  refine ⟨z, rfl, for_it (walk_str (z := z)) (fun n σ' H' => ∃ G', NxP us G H G' H' ∧ S n G' H' ∧ FrD K G' σ' sl) ⟨G1, n1.p, hS _ _ _ _ s n1, FrD.mono n1.g f⟩ (fun n σ' H' _ _ => trivial) ?_ ?_⟩
  · rintro n x σ' H' H'' hlt ⟨G', n2, s2, f2⟩ ⟨rfl, c, hc, rfl⟩
    have e : z.cps.getD n 0 = c := by
      rw [Array.getD_eq_getD_getElem?, hc]
      rfl
    have e2 : sgD z n = .str ⟨#[c]⟩ := by unfold sgD; rw [e]
    refine hs n hlt G' H'' _ n2.k (frd_set (by rw [e2]; exact .d (.str _)) i f2) s2 _ fun σ3 s3 G3 H3 w3 n3 s3' f3 => ⟨G3, n2.trans n3, s3', frd_wk f3 w3⟩
  · rintro σ' H' ⟨G', n2, s2, f2⟩
    exact q σ' sl G' H' rfl n2 s2 f2
end
/-! ### a deed told a drawn hap -/
theorem bn_deedP {K : PySem.W.Frag} {C x p pot : Addr} {R : Bst → List Dt → Bst → Prop} {XF : Bst → List Dt → Value → Prop} {E : XK} {b : Bst} {P2 : Bst → Prop} {sl : List Sl} {tr : TA} {i : Nat} {m : Str} {N : List Sl → Prop} (hp : pot ≠ x ∧ pot ≠ p) (hi : sl[i]? = some (.raw (.ref x))) (hm1 : ¬ m = "_past") (hm2 : ¬ m = "_speed") (hm3 : ¬ m = "_haps")
    (h : EpA K tr sl [pot] fun xs => ∃ b', R b xs b' ∧ P2 b') (g : N sl) : Bn K [pot, x, p] (fun G H => BnAt K C x p G H b ∧ Pots [pot] G H) (fun G H => (∃ b', P2 b' ∧ BnAt K C x p G H b') ∧ Pots [pot] G H) (tDrop (tMeth C m (spBd K C R XF) [] E (tVar i) tr)) sl N := fun G H σ k f s D q => by
  obtain ⟨s, mp⟩ := s
  obtain ⟨dx, a, sp, pv, h1, _⟩ := s.ex
  refine ⟨.ref x, frd_raw f hi, x, dx, _, rfl, h1, flds_no _ _ _ hm1 hm2 hm3, ?_⟩
  refine h G H σ k f mp _ fun vs xs G1 H1 ⟨b', hr, hP⟩ n1 m1 r1 => ⟨x, p, vs ++ [], xs, b, G1, rfl, n1.k, rps_nil r1, s.nxP n1 (by simpa using Ne.symm hp.1) (by simpa using Ne.symm hp.2), .inl ⟨b', hr, fun G2 H2 n2 b2 => ?_⟩⟩
  have w1 : NxP [pot, x, p] G H G1 H1 := ⟨n1.g, n1.k, fun c o hc e => n1.h c o (fun z => hc (by simp at z; simp [z])) e, n1.t, n1.f⟩
  have w2 : NxP [pot, x, p] G1 H1 G2 H2 := ⟨n2.g, n2.k, fun c o hc e => n2.h c o (fun z => hc (by simp at z; rcases z with z | z <;> simp [z])) e, n2.t, n2.f⟩
  refine q σ sl G2 H2 g (w1.trans w2) ⟨⟨b', hP, b2⟩, fun c hc => ?_⟩ (FrD.mono (n1.g.trans n2.g) f)
  have ec : c = pot := by simpa using hc
  subst ec
  obtain ⟨e1, n, e2⟩ := m1 _ hc
  exact ⟨n2.f _ e1 (by rw [e2]; intro z; cases z), n, n2.h _ _ (by simp [hp.1, hp.2]) e2⟩
theorem br_some {K : PySem.W.Frag} {us : List Addr} {α : Type} {P : α → Prop} {S : α → Hp → Hp → Prop} {T S2 : Hp → Hp → Prop} {t : TS} {sl : List Sl} {d : Dt} (h : ∀ b, P b → Br K us (fun G H => S b G H ∧ T G H) S2 t sl d) : Br K us (fun G H => (∃ b, P b ∧ S b G H) ∧ T G H) S2 t sl d := fun G H σ k f ⟨⟨b, hb, s⟩, m⟩ => h b hb G H σ k f ⟨s, m⟩
/-! ### a bench made, used and forgotten, a pot beside it -/
theorem ir_make {K : PySem.W.Frag} {C : Addr} {E : XK} {i : Nat} {sl : List Sl} {rest : TS} {pot : Addr} {R : Dt → Prop} {d : Dt} (hd : R d) (h : ∀ x p, pot ≠ x → pot ≠ p → Br K [pot, x, p] (fun G H => BnAt K C x p G H ⟨[], 0, []⟩ ∧ Pots [pot] G H) (fun G H => Pots [pot] G H) rest (sl.set i (.raw (.ref x))) d) : Ir K (tSeq (tAsg (tMake C (spMkB K C) [] E tNil) (gName i)) rest) sl [pot] R := fun G H σ k f m D q => by
  intro x dx hx hdx nex
  have gx : G x = none := free_of k hx
  have gdx : G dx = none := free_of k hdx
  have k1 : Ex G (upd (upd H dx (.own x)) x (.ins C dx [])) := fun c u e => by
    have h1 : c ≠ x := fun y => by rw [y, gx] at e; cases e
    have h2 : c ≠ dx := fun y => by rw [y, gdx] at e; cases e
    rw [upd_ne h1, upd_ne h2]
    exact k _ _ e
  refine ⟨x, dx, G, rfl, upd_same, k1, gx, fun p G2 H2 hp n2 b2 => ⟨rfl, ?_⟩⟩
  obtain ⟨mg, mn, mh⟩ := m pot (by simp)
  have hp0 : H p = none := by
    have h1 : p ≠ x := fun y => by rw [y, upd_same] at hp; cases hp
    rw [upd_ne h1] at hp
    have h2 : p ≠ dx := fun y => by rw [y, upd_same] at hp; cases hp
    rw [upd_ne h2] at hp
    exact hp
  have npx : pot ≠ x := fun z => by rw [z, hx] at mh; cases mh
  have npp : pot ≠ p := fun z => by rw [z, hp0] at mh; cases mh
  have up : ∀ c, H c ≠ none → upd (upd H dx (.own x)) x (.ins C dx []) c = H c := fun c hc => by
    rw [upd_ne (fun y : c = x => hc (by rw [y]; exact hx)), upd_ne (fun y : c = dx => hc (by rw [y]; exact hdx))]
  have hpot : H pot ≠ none := by rw [mh]; intro z; cases z
  have m2 : Pots [pot] G2 H2 := fun c hc => by
    have ec : c = pot := by simpa using hc
    subst ec
    have hu := up _ hpot
    exact ⟨n2.f _ mg (by rw [hu]; exact hpot), mn, n2.h _ _ (by simpa using npx) (by rw [hu]; exact mh)⟩
  refine h x p npx npp G2 H2 _ n2.k (frd_set (.raw _) i (FrD.mono n2.g f)) ⟨b2, m2⟩ D fun v G3 H3 n3 m3 r3 => ?_
  refine q v d G3 H3 hd ⟨n2.g.trans n3.g, n3.k, fun a o hc e => ?_, fun a h2 => ?_, fun a h1 h2 => ?_⟩ m3 r3
  · have ha : H a ≠ none := by rw [e]; intro z; cases z
    have h1 : a ≠ x := fun y => ha (by rw [y]; exact hx)
    have h2 : a ≠ p := fun y => ha (by rw [y]; exact hp0)
    refine n3.h a o (by simp at hc; simp [h1, h2, hc]) (n2.h a o (by simp [h1]) ?_)
    rw [up a ha]
    exact e
  · have h2' : upd (upd H dx (.own x)) x (.ins C dx []) a ≠ none := by rw [up a h2]; exact h2
    exact n3.t a (n2.t a h2')
  · have h2' : upd (upd H dx (.own x)) x (.ins C dx []) a ≠ none := by rw [up a h2]; exact h2
    exact n3.f a (n2.f a h1 h2') (n2.t a h2')
/-! ### haps put, got -/
theorem getH_put (hs : Hps) (n : Str) (q : Rat × Rat) : getH (putH hs n q) n = some q := by
  have key : ∀ hs : Hps, (hs.any fun e => decide (e.1 = n)) = true → (hs.map (fun e => if e.1 = n then (e.1, q) else e)).find? (fun e => decide (e.1 = n)) = some (n, q) := by
    intro hs
    induction hs with
    | nil => intro h; cases h
    | cons e l ih =>
      intro h
      rw [List.map_cons, List.find?_cons]
      by_cases z : e.1 = n
      · rw [if_pos z]
        show (match decide (e.1 = n) with | true => some (e.1, q) | false => _) = _
        rw [decide_eq_true z, z]
      · rw [if_neg z, decide_eq_false z]
        rw [List.any_cons, decide_eq_false z, Bool.false_or] at h
        exact ih h
  unfold putH getH
  split
  · rename_i h
    rw [key hs h]
    rfl
  · rename_i h
    rw [List.find?_append]
    have : hs.find? (fun e => decide (e.1 = n)) = none := List.find?_eq_none.mpr fun e he z => h (List.any_eq_true.mpr ⟨e, he, z⟩)
    rw [this]
    simp
theorem keys_put {hs : Hps} {n : Str} {q : Rat × Rat} (h : n ∈ hs.map (·.1)) : (putH hs n q).map (·.1) = hs.map (·.1) := by
  obtain ⟨e, he, rfl⟩ := List.mem_map.mp h
  unfold putH
  rw [if_pos (List.any_eq_true.mpr ⟨e, he, decide_eq_true rfl⟩), List.map_map]
  exact List.map_congr_left fun a _ => by
    show (if a.1 = e.1 then (a.1, q) else a).1 = a.1
    split <;> rfl
theorem keys_new {hs : Hps} {n : Str} {q : Rat × Rat} (h : n ∉ hs.map (·.1)) : (putH hs n q).map (·.1) = hs.map (·.1) ++ [n] := by
  unfold putH
  rw [if_neg (fun z => by
    obtain ⟨e, he, z⟩ := List.any_eq_true.mp z
    exact h (List.mem_map.mpr ⟨e, he, of_decide_eq_true z⟩)), List.map_append]
  rfl
theorem getH_none {hs : Hps} {n : Str} (h : n ∉ hs.map (·.1)) : getH hs n = none := by
  cases hg : getH hs n with
  | none => rfl
  | some q => exact absurd (List.mem_map.mpr ⟨_, getH_in hg, rfl⟩) h
theorem tell0 (q : Rat × Rat) : mvP 0 1 (0, 0) q = q := by
  show (tlT 0 1 0 0 q.1 q.2, tlP 0 1 0 0 q.1 q.2) = q
  unfold tlT tlP
  exact Prod.ext (by show (q.1 - 0 - 0 * (q.2 - 0)) / 1 = q.1; grind) (by show (q.2 - 0 - 0 * (q.1 - 0)) / 1 = q.2; grind)
theorem pl01 : Pl 0 1 := ⟨sp_zero, by decide +kernel, by decide +kernel⟩
end Z
namespace Z
open PySem PySem.Spec PyProof.Rows L2 RZ
open Evl (Ex)
/-! ### expressions that change the world -/
def Ed (K : PySem.W.Frag) (us : List Addr) (S S2 : Hp → Hp → Prop) (te : TE) (sl : List Sl) (d : Dt) : Prop := ∀ (G H : Hp) (σ : L2.St), Ex G H → FrD K G σ sl → S G H → ∀ Q : VK, (∀ v G2 H2, NxP us G H G2 H2 → S2 G2 H2 → Rp K G2 v d → Q v H2) → te σ H Q
section
variable {K : PySem.W.Frag} {us : List Addr} {S S1 S2 S3 : Hp → Hp → Prop} {sl : List Sl} {te tb : TE} {x y d : Dt} {r : R2} {u rr : TS} {C a p : Addr} {b b' : Bst} {tr : TA} {xs : List Dt} {i : Nat} {E : XK} {N : List Sl → Prop}
theorem ed_bnD {R : Bst → List Dt → Dt → Bst → Prop} (hS : Stb S) (hB : ∀ G H, S G H → BnAt K C a p G H b) (hi : sl[i]? = some (.raw (.ref a))) (h : EvA K tr sl xs) (hr : R b xs d b') (hu : a ∈ us ∧ p ∈ us) (hS2 : ∀ G H G2 H2, S G H → NxP [a, p] G H G2 H2 → BnAt K C a p G2 H2 b' → S2 G2 H2) : Ed K us S S2 (tCall (spBnD K C R) [] E (tCons (tVar i) tr)) sl d := fun G H σ k f s Q q => by
  refine ⟨.ref a, frd_raw f hi, ?_⟩
  refine h G H σ k f _ fun vs G1 H1 n1 r1 => ⟨a, p, vs ++ [], xs, b, G1, d, b', rfl, n1.k, rps_nil r1, hB G1 H1 (hS _ _ _ _ s n1), hr, fun v G2 H2 n2 b2 r2 => ?_⟩
  have n2' : NxP us G1 H1 G2 H2 := ⟨n2.g, n2.k, fun c o hc e => n2.h c o (fun z => hc (by
    simp only [List.mem_cons, List.not_mem_nil, or_false] at z
    rcases z with rfl | rfl
    · exact hu.1
    · exact hu.2)) e, n2.t, n2.f⟩
  exact q v G2 H2 (n1.p.trans n2') (hS2 _ _ _ _ (hS _ _ _ _ s n1) n2 b2) r2
theorem ed_stD {R : Bst → List Dt → Dt → Bst → Prop} (hS : Stb S) (hB : ∀ G H, S G H → SoAt K a p G H b) (hi : sl[i]? = some (.raw (.ref a))) (h : EvA K tr sl xs) (hr : R b xs d b') (hu : a ∈ us ∧ p ∈ us) (hS2 : ∀ G H G2 H2, S G H → NxP [a, p] G H G2 H2 → SoAt K a p G2 H2 b' → S2 G2 H2) : Ed K us S S2 (tCall (spStD K R) [] E (tCons (tVar i) tr)) sl d := fun G H σ k f s Q q => by
  refine ⟨.ref a, frd_raw f hi, ?_⟩
  refine h G H σ k f _ fun vs G1 H1 n1 r1 => ⟨a, p, vs ++ [], xs, b, G1, d, b', rfl, n1.k, rps_nil r1, hB G1 H1 (hS _ _ _ _ s n1), hr, fun v G2 H2 n2 b2 r2 => ?_⟩
  have n2' : NxP us G1 H1 G2 H2 := ⟨n2.g, n2.k, fun c o hc e => n2.h c o (fun z => hc (by
    simp only [List.mem_cons, List.not_mem_nil, or_false] at z
    rcases z with rfl | rfl
    · exact hu.1
    · exact hu.2)) e, n2.t, n2.f⟩
  exact q v G2 H2 (n1.p.trans n2') (hS2 _ _ _ _ (hS _ _ _ _ s n1) n2 b2) r2
theorem ed_eb (hS : Stb S) (h : Eb K S te sl d) : Ed K us S S te sl d := fun G H σ k f s Q q => h G H σ k f s Q fun v G2 H2 n2 r2 => q v G2 H2 n2.p (hS _ _ _ _ s n2) r2
/-- a test of two that change the world, which fails -/
theorem br_opD (h : Ed K us S S1 te sl x) (h2 : Ed K us S1 S2 tb sl y) (hS2 : Stb S2) (hr : R2D K r x y (.bl false)) (g : Br K us S2 S3 u sl d) : Br K us S S3 (tSeq (tIfS (tTest (tOp r te tb)) rr tNext) u) sl d := fun G H σ k f s D q =>
  h G H σ k f s _ fun v G1 H1 n1 s1 r1 => h2 G1 H1 σ n1.k (FrD.mono n1.g f) s1 _ fun w G2 H2 n2 s2 r2 => hr G2 H2 n2.k v w (r1.mono n2.g) r2 _ fun z G3 H3 n3 r3 => by
    cases r3
    refine ⟨false, rfl, ?_⟩
    exact g G3 H3 σ n3.k (FrD.mono (n1.g.trans (n2.g.trans n3.g)) f) (hS2 _ _ _ _ s2 n3) D fun v G4 H4 n4 => q v G4 H4 ((n1.trans n2).trans (n3.p.trans n4))
/-- the same at the end of a suite -/
theorem bn_opD (h : Ed K us S S1 te sl x) (h2 : Ed K us S1 S2 tb sl y) (hS2 : Stb S2) (hr : R2D K r x y (.bl false)) (g : N sl) : Bn K us S S2 (tIfS (tTest (tOp r te tb)) rr tNext) sl N := fun G H σ k f s D q =>
  h G H σ k f s _ fun v G1 H1 n1 s1 r1 => h2 G1 H1 σ n1.k (FrD.mono n1.g f) s1 _ fun w G2 H2 n2 s2 r2 => hr G2 H2 n2.k v w (r1.mono n2.g) r2 _ fun z G3 H3 n3 r3 => by
    cases r3
    exact ⟨false, rfl, q σ sl G3 H3 g ((n1.trans n2).trans n3.p) (hS2 _ _ _ _ s2 n3) (FrD.mono (n1.g.trans (n2.g.trans n3.g)) f)⟩
end
theorem eb_andV {K : PySem.W.Frag} {S : Hp → Hp → Prop} {sl : List Sl} {ta tb : TE} {a b : Bool} (hS : Stb S) (h1 : Eb K S ta sl (.bl a)) (h2 : a = true → Eb K S tb sl (.bl b)) : Eb K S (tAndV ta tb) sl (.bl (a && b)) := fun G H σ k f s Q q => h1 G H σ k f s _ fun v G1 H1 n1 r1 => by
  cases r1
  refine ⟨a, rfl, ?_⟩
  cases a with
  | true =>
    show tb σ H1 Q
    exact h2 rfl G1 H1 σ n1.k (FrD.mono n1.g f) (hS _ _ _ _ s n1) Q fun v G2 H2 n2 => q v G2 H2 (n1.trans n2)
  | false => exact q _ G1 H1 n1 (.bl _)
theorem bn_some {K : PySem.W.Frag} {us : List Addr} {α : Type} {P : α → Prop} {S : α → Hp → Hp → Prop} {T S2 : Hp → Hp → Prop} {t : TS} {sl : List Sl} {N : List Sl → Prop} (h : ∀ b, P b → Bn K us (fun G H => S b G H ∧ T G H) S2 t sl N) : Bn K us (fun G H => (∃ b, P b ∧ S b G H) ∧ T G H) S2 t sl N := fun G H σ k f ⟨⟨b, hb, s⟩, m⟩ => h b hb G H σ k f ⟨s, m⟩
theorem pots_keep {pot : Addr} {us : List Addr} {G H G2 H2 : Hp} (m : Pots [pot] G H) (n : NxP us G H G2 H2) (h : pot ∉ us) : Pots [pot] G2 H2 := fun c hc => by
  have ec : c = pot := by simpa using hc
  subst ec
  obtain ⟨e1, z, e2⟩ := m _ hc
  exact ⟨n.f _ e1 (by rw [e2]; intro z; cases z), z, n.h _ _ h e2⟩
def letK (k : Nat) : Str := ⟨#[("bcdefghijklm" : Str).cps.getD k 0]⟩
theorem let_ok : ∀ k, k < 12 → isNm (.str (letK k)) = true ∧ letK k ≠ "q" ∧ letK k ≠ "a" ∧ ∀ j, j < k → letK j ≠ letK k := by decide +kernel
theorem let_c : letK 1 = "c" := by decide +kernel
structure PK (k : Nat) (b : Bst) : Prop where
  keys : b.haps.map (·.1) = (List.range k).map letK
  hi : HapsI b.haps
  sp : b.speed = 0
  pa : b.past.length = k
theorem PK.len {k : Nat} {b : Bst} (h : PK k b) : b.haps.length = k := by
  have := congrArg List.length h.keys
  rwa [List.length_map, List.length_map, List.length_range] at this
theorem PK.put {k : Nat} {b : Bst} {q : Rat × Rat} (h : PK k b) (hk : k < 12) (b1 : Bq 90 q.1) (b2 : Bq 4 q.2) : PK (k + 1) ⟨putH b.haps (letK k) q, b.speed, b.past ++ [(b.haps, b.speed)]⟩ := by
  obtain ⟨l1, l2, _, l3⟩ := let_ok k hk
  refine ⟨?_, hapsI_put h.hi ⟨l1, by show 1 ≤ 90000; decide, l2, b1, b2⟩, h.sp, by rw [List.length_append, h.pa]; rfl⟩
  show (putH b.haps (letK k) q).map (·.1) = _
  rw [keys_new (fun z => ?_), h.keys, List.range_succ, List.map_append]
  · rfl
  · rw [h.keys] at z
    obtain ⟨j, hj, e⟩ := List.mem_map.mp z
    exact l3 j (List.mem_range.mp hj) e
def tsB (b : Bst) : List (Rat × Rat) := (srtN (b.haps.map (·.1))).map fun n => (getH b.haps n).getD (0, 0)
theorem br_retW {K : PySem.W.Frag} {us : List Addr} {S S2 : Hp → Hp → Prop} {sl : List Sl} {te : TE} {d : Dt} (hS : ∀ G H G2 H2, S G H → Nx G H G2 H2 → S2 G2 H2) (h : Eb K S te sl d) : Br K us S S2 (tRet te) sl d := fun G H σ k f s D q => h G H σ k f s _ fun v G2 H2 n2 r2 => q v G2 H2 n2.p (hS _ _ _ _ s n2) r2
end Z
namespace Z
open PySem PySem.Spec PyProof.Rows L2 RZ
open Evl (Ex)
/-! ### a law with a bench and books of its own -/
theorem rt_makeB {K : PySem.W.Frag} {C : Addr} {E : XK} {i : Nat} {sl : List Sl} {rest : TS} {d : Dt} (h : ∀ x p, x ≠ p → Br K [x, p] (fun G H => BnAt K C x p G H ⟨[], 0, []⟩) (fun _ _ => True) rest (sl.set i (.raw (.ref x))) d) : Rt K (tSeq (tAsg (tMake C (spMkB K C) [] E tNil) (gName i)) rest) sl d := fun G H σ k f D q => by
  intro x dx hx hdx nex
  have gx : G x = none := free_of k hx
  have gdx : G dx = none := free_of k hdx
  have k1 : Ex G (upd (upd H dx (.own x)) x (.ins C dx [])) := fun c u e => by
    have h1 : c ≠ x := fun y => by rw [y, gx] at e; cases e
    have h2 : c ≠ dx := fun y => by rw [y, gdx] at e; cases e
    rw [upd_ne h1, upd_ne h2]
    exact k _ _ e
  refine ⟨x, dx, G, rfl, upd_same, k1, gx, fun p G2 H2 hp n2 b2 => ⟨rfl, ?_⟩⟩
  have hp0 : H p = none := by
    have h1 : p ≠ x := fun y => by rw [y, upd_same] at hp; cases hp
    rw [upd_ne h1] at hp
    have h2 : p ≠ dx := fun y => by rw [y, upd_same] at hp; cases hp
    rw [upd_ne h2] at hp
    exact hp
  have up : ∀ c, H c ≠ none → upd (upd H dx (.own x)) x (.ins C dx []) c = H c := fun c hc => by
    rw [upd_ne (fun y : c = x => hc (by rw [y]; exact hx)), upd_ne (fun y : c = dx => hc (by rw [y]; exact hdx))]
  refine h x p b2.ne G2 H2 _ n2.k (frd_set (.raw _) i (FrD.mono n2.g f)) b2 D fun v G3 H3 n3 _ r3 => ?_
  refine q v G3 H3 ⟨n2.g.trans n3.g, fun a o e => ?_, n3.k, fun a h1 h2 => ?_⟩ r3
  · have ha : H a ≠ none := by rw [e]; intro z; cases z
    have h1 : a ≠ x := fun y => ha (by rw [y]; exact hx)
    have h2 : a ≠ p := fun y => ha (by rw [y]; exact hp0)
    refine n3.h a o (by simp [h1, h2]) (n2.h a o (by simp [h1]) ?_)
    rw [up a ha]
    exact e
  · have h2' : upd (upd H dx (.own x)) x (.ins C dx []) a ≠ none := by rw [up a h2]; exact h2
    exact n3.f a (n2.f a h1 h2') (n2.t a h2')
section
variable {K : PySem.W.Frag} {us : List Addr} {S S2 : Hp → Hp → Prop} {sl : List Sl} {t rest : TS} {d : Dt} {j : Nat} {E : XK} {N : List Sl → Prop} {ta : TA} {xs : List Dt} {C : List Dt → Prop}
theorem br_fresh (hS : Stb S) (hx : ∀ G H, S G H → ∀ a ∈ us, H a ≠ none) (h : ∀ y p2, y ∉ us → p2 ∉ us → y ≠ p2 → Br K (y :: p2 :: us) (fun G H => S G H ∧ SoAt K y p2 G H ⟨[], 0, []⟩) S2 rest (sl.set j (.raw (.ref y))) d) : Br K us S S2 (tSeq (tAsg (tCall (spFr K) [] E tNil) (gName j)) rest) sl d := fun G H σ k f s D q => by
  refine ⟨rfl, G, k, fun y p2 G2 H2 hy hp ne n so => ?_⟩
  have ny : y ∉ us := fun z => hx G H s y z hy
  have np : p2 ∉ us := fun z => hx G H s p2 z hp
  refine h y p2 ny np ne G2 H2 _ n.k (frd_set (.raw _) j (FrD.mono n.g f)) ⟨hS _ _ _ _ s n.nx, so⟩ D fun v G3 H3 n3 s3 r3 => ?_
  refine q v G3 H3 ⟨n.g.trans n3.g, n3.k, fun a o ha e => ?_, fun a h2 => n3.t a (n.t a h2), fun a h1 h2 => n3.f a (n.f a h1 h2) (n.t a h2)⟩ s3 r3
  have h1 : a ≠ y := fun z => by rw [z, hy] at e; cases e
  have h2 : a ≠ p2 := fun z => by rw [z, hp] at e; cases e
  exact n3.h a o (by simp [h1, h2, ha]) (n.h a o (by simp) e)
theorem bn_pot (hS : Stb S) (hx : ∀ G H, S G H → ∀ a ∈ us, H a ≠ none) (h : EvA K ta sl xs) (hC : C xs) (g : ∀ pot, pot ∉ us → Bn K (pot :: us) (fun G H => S G H ∧ Pots [pot] G H) S2 t (sl.set j (.raw (.ref pot))) N) : Bn K us S S2 (tSeq (tAsg (tCall (spNew K C) [] E ta) (gName j)) t) sl N := fun G H σ k f s D q =>
  h G H σ k f _ fun vs G1 H1 n1 r1 => ⟨xs, G1, n1.k, rps_nil r1, hC, fun p n G2 H2 n2 p1 g2 p2 => by
    have n12 := n1.trans n2
    have hp : H p = none := by
      cases z : H p with
      | none => rfl
      | some o =>
        rw [n1.h p o z] at p1
        cases p1
    have np : p ∉ us := fun z => hx G H s p z hp
    have m2 : Pots [p] G2 H2 := fun c hc => by
      have ec : c = p := by simpa using hc
      subst ec
      exact ⟨g2, n, p2⟩
    refine g p np G2 H2 _ n2.k (frd_set (.raw _) j (FrD.mono n12.g f)) ⟨hS _ _ _ _ s n12, m2⟩ D fun σ3 sl3 G3 H3 w3 n3 s3 f3 => ?_
    refine q σ3 sl3 G3 H3 w3 ⟨n12.g.trans n3.g, n3.k, fun a o ha e => ?_, fun a h2 => n3.t a (ne_none n12.h h2), fun a h1 h2 => n3.f a (n12.f a h1 h2) (ne_none n12.h h2)⟩ s3 f3
    have h1 : a ≠ p := fun z => by rw [z, hp] at e; cases e
    exact n3.h a o (by simp [h1, ha]) (n12.h a o e)⟩
/-- for k in range(n), where a world goes on -/
theorem bn_forR {S : Nat → Hp → Hp → Prop} {n : Int} (h : EvA K ta sl [.int n]) (hn : n ≤ 100000 ∧ -100000 ≤ n) (hS : Stb (S 0)) (hs : ∀ k : Nat, (k : Int) < n → Bn K us (S k) (S (k + 1)) t (sl.set j (.d (.int k))) fun s => Paired Wk s sl) : Bn K us (S 0) (S n.toNat) (tFor (iRng1 ta) (gName j) t) sl fun s => s = sl := fun G H σ k f s D q => h G H σ k f _ fun vs G1 H1 n1 r1 => by
  obtain ⟨v, rfl, r2⟩ := rps1 r1
  cases r2
  refine ⟨n, rfl, by omega, by omega, for_range (lo := 0) (n := n.toNat) (fun i σ' H' => ∃ G', NxP us G H G' H' ∧ S i G' H' ∧ FrD K G' σ' sl) ⟨G1, n1.p, hS _ _ _ _ s n1, FrD.mono n1.g f⟩ ?_ ?_⟩
  · rintro i σ2 H2 hi ⟨G2, n2, s2, f2⟩
    have e : (0 : Int) + (i : Int) = (i : Int) := Int.zero_add _
    rw [e]
    exact hs i (by omega) G2 H2 _ n2.k (frd_set (.d (.int i)) j f2) s2 _ fun σ3 sl3 G3 H3 w3 n3 s3 f3 => ⟨G3, n2.trans n3, s3, frd_wk f3 w3⟩
  · rintro σ2 H2 ⟨G2, n2, s2, f2⟩
    exact q σ2 sl G2 H2 rfl n2 s2 f2
end
end Z
namespace Z
open PySem PySem.Spec PyProof.Rows L2 RZ
open Evl (Ex)
/-! ### what holds of a bench that was told so many drawn deeds -/
structure HS (k : Nat) (hs : Hps) (s : Rat) : Prop where
  hi : HapsI hs
  le : hs.length ≤ 12
  sp : Sp s
  q : Bq (68 * (k + 1)) s
structure PI (k : Nat) (b : Bst) : Prop where
  now : HS k b.haps b.speed
  pa : ∀ e ∈ b.past, HS k e.1 e.2
  le : b.past.length ≤ k
theorem HS.up {k : Nat} {hs : Hps} {s : Rat} (h : HS k hs s) : HS (k + 1) hs s := ⟨h.hi, h.le, h.sp, h.q.mono (by omega)⟩
theorem PI.sb {k : Nat} {b : Bst} (h : PI k b) (hk : k ≤ 25) : SpB b := ⟨by have := h.now.le; omega, by have := h.le; omega, h.now.sp, h.now.q.mono (by omega)⟩
theorem pi_zero : PI 0 ⟨[], 0, []⟩ := ⟨⟨fun e he => (by cases he), by decide, sp_zero, bq_zero.mono (by decide)⟩, fun e he => (by cases he), Nat.le_refl _⟩
theorem PI.grow {k : Nat} {b : Bst} (h : PI k b) {hs : Hps} {s : Rat} (n : HS (k + 1) hs s) : PI (k + 1) ⟨hs, s, b.past ++ [(b.haps, b.speed)]⟩ := ⟨n, fun e he => by
  rcases List.mem_append.mp he with he | he
  · exact (h.pa e he).up
  · rw [List.mem_singleton.mp he]
    exact h.now.up, by
  show (b.past ++ [(b.haps, b.speed)]).length ≤ k + 1
  rw [List.length_append, List.length_singleton]
  have := h.le
  omega⟩
theorem putH_len {hs : Hps} {n : Str} {q : Rat × Rat} (h : getH hs n ≠ none ∨ hs.length ≠ 12) (h12 : hs.length ≤ 12) : (putH hs n q).length ≤ 12 := by
  unfold putH
  split
  · rw [List.length_map]
    exact h12
  · rename_i z
    rw [List.length_append, List.length_singleton]
    rcases h with h | h
    · exfalso
      cases hg : getH hs n with
      | none => exact h hg
      | some q => exact z (List.any_eq_true.mpr ⟨_, getH_in hg, decide_eq_true rfl⟩)
    · omega
theorem pi_step {k : Nat} {b b' : Bst} {de : Deed} {d : Dt} (h : PI k b) (ok : DeedOk de) (hd : DoneR b de d b') : PI (k + 1) b' := by
  rcases hd with ⟨w, _, _, rfl⟩ | ⟨hr, _, ha⟩
  · exact ⟨h.now.up, fun e he => (h.pa e he).up, by have := h.le; omega⟩
  cases de with
  | undo =>
    obtain ⟨h0, s0, pt, hp, rfl⟩ := ha
    have hm : ∀ e ∈ pt ++ [(h0, s0)], HS k e.1 e.2 := fun e he => h.pa e (by rw [hp]; exact he)
    have hl := h.le
    rw [hp, List.length_append, List.length_singleton] at hl
    exact ⟨(hm (h0, s0) (by simp)).up, fun e he => (hm e (List.mem_append_left _ he)).up, by show pt.length ≤ k + 1; omega⟩
  | put x z =>
    obtain ⟨n, q, rfl, rfl, rfl⟩ := ha
    obtain ⟨⟨o1, o0⟩, o2, o3⟩ := ok
    obtain ⟨h1, h2⟩ := ref_put0 hr
    obtain ⟨q', e, b1, b2⟩ := o3 (isHp_hap _ _)
    have eq : q = q' := by
      have e : Dt.tup [fq q.1, fq q.2] = Dt.tup [fq q'.1, fq q'.2] := e
      injection e with e
      injection e with e1 e2
      injection e2 with e2 _
      exact Prod.ext (fq_inj e1) (fq_inj e2)
    subst eq
    exact h.grow ⟨hapsI_put h.now.hi ⟨h1, o1 _ rfl, fun z => o0 (by rw [z]), b1, b2⟩, putH_len h2 h.now.le, h.now.sp, h.now.q.mono (by omega)⟩
  | drop x =>
    obtain ⟨n, rfl, _, rfl⟩ := ha
    exact h.grow ⟨hapsI_drop h.now.hi, Nat.le_trans (List.length_filter_le _ _) h.now.le, h.now.sp, h.now.q.mono (by omega)⟩
  | turn x =>
    obtain ⟨v, w, rfl, hv, bv, rfl⟩ := ha
    exact h.grow ⟨h.now.hi, h.now.le, hv.s, bv.mono (by omega)⟩
  | push x =>
    obtain ⟨v, w, rfl, hv, bv, rfl⟩ := ha
    exact h.grow ⟨h.now.hi, h.now.le, sp_jn h.now.sp hv.s, (bq_jn h.now.q bv (sp_ne h.now.sp hv.s)).mono (by omega)⟩
theorem done_sh {b b' : Bst} {de : Deed} {d : Dt} (ok : DeedOk de) (hd : DoneR b de d b') : ∃ p, py d = some p ∧ SeqAt.shaped p = true := by
  rcases hd with ⟨w, hr, rfl, _⟩ | ⟨_, rfl, _⟩
  · refine ⟨.str w, rfl, ?_⟩
    cases de with
    | undo =>
      have hr : (if b.past.isEmpty = true then some ("deed" : Str) else none) = some w := hr
      split at hr
      · cases hr; decide +kernel
      · cases hr
    | put x z => rcases ref_put hr with ⟨_, rfl⟩ | ⟨_, _, rfl⟩ | ⟨_, _, _, _, _, _, rfl⟩ <;> decide +kernel
    | drop x => obtain ⟨_, rfl⟩ := ref_drop ok hr; decide +kernel
    | turn x => rcases ref_spd ok hr with ⟨_, rfl⟩ | ⟨_, _, _, _, _, rfl⟩ <;> decide +kernel
    | push x => rcases ref_spd ok hr with ⟨_, rfl⟩ | ⟨_, _, _, _, _, rfl⟩ <;> decide +kernel
  · exact ⟨.none, rfl, rfl⟩
end Z
namespace Z
open PySem PySem.Spec PyProof.Rows L2 RZ
open Evl (Ex)
theorem ip_unp1 {K : PySem.W.Frag} {sl : List Sl} {ps : List Addr} {te : TE} {N : List Sl → Prop} {i j : Nat} (h : Ep K te sl ps fun x => ∃ a b, x = .tup [a, b] ∧ N ((sl.set i (.d a)).set j (.d b))) : Ip K (tAsg te (gTup K 2 (gCons (gName i) (gCons (gName j) gNil)))) sl ps N := fun G H σ e f m D q =>
  h G H σ e f m _ fun v x G1 H1 ⟨a, b, ex, h1⟩ n1 m1 r1 => by
    subst ex
    cases r1 with
    | tup hs rs =>
      obtain ⟨v, w, rfl, a1, a2⟩ := rps2 rs
      exact ⟨_, _, rfl, exT n1.k hs, rfl, v, [w], rfl, w, [], rfl, rfl, q _ _ G1 H1 h1 n1 m1 (frd_set (.d a2) j (frd_set (.d a1) i (FrD.mono n1.g f)))⟩
section
variable {K : PySem.W.Frag} {us : List Addr} {S S2 : Hp → Hp → Prop} {sl : List Sl} {te : TE} {r : TS} {C x y p pot : Addr} {b : Bst} {E E2 : XK} {i j m : Nat} {N : List Sl → Prop} {ta : TA} {xs : List Dt} {d : Dt}
theorem ed_wr (hP : ∀ G H, S G H → Pots [pot] G H) (hB : ∀ G H, S G H → BnR K C x G H b) (hT : ∀ G H, S G H → SoAt K y p G H b) (h1 : sl[i]? = some (.raw (.ref pot))) (h2 : sl[j]? = some (.raw (.ref x))) (h3 : sl[m]? = some (.raw (.ref y))) (hn : pot ≠ x ∧ pot ≠ y ∧ pot ≠ p) (hI : HapsI b.haps) (hl : b.haps.length ≤ 12) (hu : pot ∈ us)
    (hS2 : ∀ G H G2 H2, S G H → NxP [pot] G H G2 H2 → S2 G2 H2) : Ed K us S S2 (tCall (spWr K C) [] E (tCons (tVar i) (tCons (tVar j) (tCons (tVar m) tNil)))) sl (.bl true) := fun G H σ k f s Q q => by
  refine ⟨.ref pot, frd_raw f h1, .ref x, frd_raw f h2, .ref y, frd_raw f h3, pot, x, y, p, b, G, rfl, k, hP _ _ s, hB _ _ s, hT _ _ s, hn, hI, hl, fun G2 H2 n2 m2 => ?_⟩
  exact q _ G2 H2 ⟨n2.g, n2.k, fun c o hc e => n2.h c o (fun z => hc (by
    have ec : c = pot := by simpa using z
    rw [ec]
    exact hu)) e, n2.t, n2.f⟩ (hS2 _ _ _ _ s n2) (.bl _)
theorem bn_notD (h : Ed K us S S2 te sl (.bl true)) (g : N sl) : Bn K us S S2 (tIfS (tNot (tB te)) r tNext) sl N := fun G H σ k f s D q => h G H σ k f s _ fun v G2 H2 n2 s2 r2 => by
  cases r2
  exact ⟨true, rfl, q σ sl G2 H2 g n2 s2 (FrD.mono n2.g f)⟩
theorem eb_lastpot {C1 C2 : List Dt → Prop} {RF : List Dt → Dt → Prop} (h : EvA K ta sl xs) (h1 : C1 xs) (h2 : C2 []) (hR : ∀ x, RF [] x → x = d) : Eb K S (tCall (spM K C2 RF) [] E (tCons (tCall (spNew K C1) [] E2 ta) tNil)) sl d := fun G H σ k f s Q q =>
  h G H σ k f _ fun vs G1 H1 n1 r1 => ⟨xs, G1, n1.k, rps_nil r1, h1, fun p n G2 H2 n2 p1 g2 p2 => by
    have n12 := n1.trans n2
    have hp : H p = none := by
      cases z : H p with
      | none => rfl
      | some o =>
        rw [n1.h p o z] at p1
        cases p1
    refine ⟨p, [], [], G2, rfl, n2.k, .nil, h2, fun c hc => ?_, fun v x G3 H3 hx n3 m3 r3 => ?_⟩
    · have ec : c = p := by simpa using hc
      subst ec
      exact ⟨g2, n, p2⟩
    · have e := hR x hx
      subst e
      refine q v G3 H3 ⟨n12.g.trans n3.g, fun a o e => ?_, n3.k, fun a h1 h2 => n3.f a (n12.f a h1 h2) (ne_none n12.h h2)⟩ r3
      have h1 : a ≠ p := fun z => by rw [z, hp] at e; cases e
      exact n3.h a o (by simp [h1]) (n12.h a o e)⟩
end
theorem br_bn {K : PySem.W.Frag} {us : List Addr} {S S1 S2 : Hp → Hp → Prop} {t : TS} {sl : List Sl} {N : List Sl → Prop} (w : ∀ G H, S G H → S1 G H) (h : Bn K us S1 S2 t sl N) : Bn K us S S2 t sl N := fun G H σ k f s => h G H σ k f (w G H s)
theorem pe_h0 {X : Cx} {CX : CXT} {k j : Nat} {x : Str} {ps : List Str} {sp : L2.Sp} {p pos : Pos} {E : XK} (c : Has X.prog X.w X.K X.mg X.base CX k x ps sp) (hr : Room j X.A) (hk : k ≤ j) (hx : Passes CX X E) (hg : Gl X x := by rfl) (hdb : (x == ("__debug__" : Str)) = false := by decide) :
    PE X (.Call (.Name x p) [] [] pos) (tCall sp [] E tNil) := by
  obtain ⟨f, fd, F, hm, kp, b⟩ := c.ex
  exact pe_call0 F (hr.mono hk) hg hm kp b .nil hx hdb
end Z
namespace Z
open PySem PySem.Spec PyProof.Rows L2 RZ
open Evl (Ex)
def topS (i : Nat) : Stmt := PySem.Challenge.pw_seatclocks_k82_questions_at_the_bench.main.body.getD i (.Pass ⟨0, 0, 0, 0⟩)
/-! ### small tactics over the words of this text: walk_at "ev" evaluates an expression's reading, "et" a test's, "ea" arguments', "bq" "bt" sizes, "rok" what a callee promises -/
local macro_rules | `(tactic| walk_at "bt0") => `(tactic| first
  | with_reducible assumption
  | exact (And.left (by assumption : Bq _ _))
  | exact (And.right (by assumption : Bq _ _))
  | (with_reducible apply bt_mul; walk_at "bt0"; walk_at "bt0"))
local macro_rules | `(tactic| walk_at "bt") => `(tactic| (apply Bt.mono; walk_at "bt0"; decide))
local macro_rules | `(tactic| walk_at "bq0") => `(tactic| first
  | with_reducible assumption
  | (with_reducible apply bq_add; walk_at "bq0"; walk_at "bq0")
  | (with_reducible apply bq_sub; walk_at "bq0"; walk_at "bq0")
  | (with_reducible apply bq_mul; walk_at "bq0"; walk_at "bq0")
  | (with_reducible apply bq_neg; walk_at "bq0")
  | (with_reducible apply bq_jn; walk_at "bq0"; walk_at "bq0"; walk_at "ne")
  | exact bq_one
  | exact bq_zero
  | (with_reducible apply bq_quo; walk_at "bq0"; walk_at "bq0"; walk_at "ne"))
local macro_rules | `(tactic| walk_at "bq") => `(tactic| (apply Bq.mono; walk_at "bq0"; decide))
local macro_rules | `(tactic| walk_at "ne") => `(tactic| first | assumption | exact den_ne _ | omega | decide | (apply num_ne.mpr; assumption))
local macro_rules | `(tactic| walk_at "mul") => `(tactic| first
  | exact mulL ⟨by decide, by decide⟩
  | exact mulR ⟨by decide, by decide⟩
  | exact mulL ⟨by omega, by omega⟩
  | exact mulR ⟨by omega, by omega⟩
  | (apply mulok; walk_at "bt0"; walk_at "bt0"; decide))
local macro_rules | `(tactic| walk_at "r2") => `(tactic| first
  | exact r2_add
  | exact r2_sub
  | exact fx0
  | exact fx1
  | exact ix0
  | exact ix1
  | exact r2_lt
  | exact r2_le
  | exact r2_gt
  | exact r2_ge
  | exact r2_eqI
  | exact r2_neI
  | exact r2_eqF
  | exact r2_isN
  | exact r2_notN
  | exact r2_eqB
  | exact r2_neB
  | exact r2_isB
  | exact r2_notB
  | exact r2_eqS (by decide +kernel) (by decide +kernel)
  | exact r2_neS (by decide +kernel) (by decide +kernel)
  | (apply r2_mul; walk_at "mul")
  | (apply r2_mod; walk_at "ne")
  | exact r2_pow ⟨by decide, by decide, by decide⟩
  | exact r2_ixT rfl
  | exact r2_ixL rfl
  | exact r2_cat (by exact Nat.le_of_ble_eq_true rfl))
local macro_rules | `(tactic| walk_at "rc") => `(tactic| first
  | exact rc_abs | exact rc_max | exact rc_min | exact rc_gcd | exact rc_lenT | exact rc_lenL | exact rc_intB)
local macro_rules | `(tactic| walk_at "kb") => `(tactic| first
  | exact kb_ii | exact kb_ib | exact kb_tt | exact kb_bb | exact kb_ss | exact kb_is | assumption)
local macro_rules | `(tactic| walk_at "rok") => `(tactic| first
  | exact low_ok (by walk_at "ne") (by walk_at "bt")
  | exact sum_ok (by walk_at "bq") (by walk_at "bq")
  | exact gap_ok (by walk_at "bq") (by walk_at "bq")
  | exact prod_ok (by walk_at "bq") (by walk_at "bq")
  | exact less_ok (by walk_at "bq") (by walk_at "bq")
  | exact quot_ok (by walk_at "bq") (by walk_at "bq") (by walk_at "ne")
  | exact joined_ok (by walk_at "jb") (by walk_at "ne"))
local macro_rules | `(tactic| walk_at "jb") => `(tactic| first | assumption | (refine ⟨_, _, by walk_at "bq0", by walk_at "bq0", ?_⟩; decide))
local macro_rules | `(tactic| walk_at "btd") => `(tactic| first | assumption | (apply Bt.mono; exact And.right (by assumption : Bq _ _); decide))
local macro_rules | `(tactic| walk_at "ea") => `(tactic| first
  | exact ea_nil
  | (apply ea_cons; walk_at "ev"; walk_at "ea"))
local macro_rules | `(tactic| walk_at "ev") => `(tactic| first
  | exact ev_var rfl
  | exact ev_int
  | exact ev_bl
  | exact ev_str
  | exact ev_non
  | exact ev_dct
  | (apply ev_isi; walk_at "ev"; walk_at "kb")
  | (apply ev_op; walk_at "ev"; walk_at "ev"; walk_at "r2")
  | (apply ev_un; walk_at "ev"; exact r1_neg)
  | (apply ev_tup; walk_at "ea"; (exact Nat.le_of_ble_eq_true rfl))
  | (apply ev_lst; walk_at "ea"; (exact Nat.le_of_ble_eq_true rfl))
  | (apply ev_callX; walk_at "ea"; walk_at "rok")
  | (apply ev_call; walk_at "ea"; walk_at "rok")
  | (apply ev_cb; walk_at "ea"; walk_at "rc")
  | (apply ev_andV; walk_at "ev"; (intro _; walk_at "ev"))
  | (apply ev_orV; walk_at "ev"; (intro _; walk_at "ev"))
  | (apply ev_notV; walk_at "ev"))
local macro_rules | `(tactic| walk_at "et") => `(tactic| first
  | (apply et_test; walk_at "ev")
  | (apply et_B; walk_at "ev")
  | (apply et_not; walk_at "et")
  | (apply et_and; walk_at "et"; (intro _; walk_at "et"))
  | (apply et_or; walk_at "et"; (intro _; walk_at "et")))
local macro_rules | `(tactic| walk_at "nt") => `(tactic| first
  | (apply nt_asg; walk_at "ev")
  | (apply nt_par; walk_at "ea"))
local macro_rules | `(tactic| walk_at "wk") => `(tactic| first
  | exact .nil
  | (refine .cons (.same _) ?_; walk_at "wk")
  | (refine .cons (.no _) ?_; walk_at "wk"))
abbrev s_is_whole : Stmt := topS 24
theorem sc_is_whole : FnScope ["thing"] ["thing"] (defScope s_is_whole) := ⟨rfl, rfl, rfl, by decide +kernel, rfl, by decide +kernel, by decide +kernel⟩
abbrev s_is_fraction : Stmt := topS 25
theorem sc_is_fraction : FnScope ["thing", "top", "bottom"] ["thing"] (defScope s_is_fraction) := ⟨rfl, rfl, rfl, by decide +kernel, rfl, by decide +kernel, by decide +kernel⟩
abbrev s_fraction : Stmt := topS 26
theorem sc_fraction : FnScope ["top", "bottom", "divisor"] ["top", "bottom"] (defScope s_fraction) := ⟨rfl, rfl, rfl, by decide +kernel, rfl, by decide +kernel, by decide +kernel⟩
abbrev s_plus : Stmt := topS 27
theorem sc_plus : FnScope ["one", "other"] ["one", "other"] (defScope s_plus) := ⟨rfl, rfl, rfl, by decide +kernel, rfl, by decide +kernel, by decide +kernel⟩
abbrev s_less : Stmt := topS 28
theorem sc_less : FnScope ["one", "other"] ["one", "other"] (defScope s_less) := ⟨rfl, rfl, rfl, by decide +kernel, rfl, by decide +kernel, by decide +kernel⟩
abbrev s_times : Stmt := topS 29
theorem sc_times : FnScope ["one", "other"] ["one", "other"] (defScope s_times) := ⟨rfl, rfl, rfl, by decide +kernel, rfl, by decide +kernel, by decide +kernel⟩
abbrev s_by : Stmt := topS 30
theorem sc_by : FnScope ["one", "other"] ["one", "other"] (defScope s_by) := ⟨rfl, rfl, rfl, by decide +kernel, rfl, by decide +kernel, by decide +kernel⟩
abbrev s_is_less : Stmt := topS 31
theorem sc_is_less : FnScope ["one", "other"] ["one", "other"] (defScope s_is_less) := ⟨rfl, rfl, rfl, by decide +kernel, rfl, by decide +kernel, by decide +kernel⟩
abbrev s_rising : Stmt := topS 32
abbrev s_root_of : Stmt := topS 33
theorem sc_root_of : FnScope ["one", "top", "bottom"] ["one"] (defScope s_root_of) := ⟨rfl, rfl, rfl, by decide +kernel, rfl, by decide +kernel, by decide +kernel⟩
abbrev s_is_hap : Stmt := topS 35
theorem sc_is_hap : FnScope ["thing"] ["thing"] (defScope s_is_hap) := ⟨rfl, rfl, rfl, by decide +kernel, rfl, by decide +kernel, by decide +kernel⟩
abbrev s_is_speed : Stmt := topS 37
theorem sc_is_speed : FnScope ["thing"] ["thing"] (defScope s_is_speed) := ⟨rfl, rfl, rfl, by decide +kernel, rfl, by decide +kernel, by decide +kernel⟩
abbrev s_check_speed : Stmt := topS 38
theorem sc_check_speed : FnScope ["thing"] ["thing"] (defScope s_check_speed) := ⟨rfl, rfl, rfl, by decide +kernel, rfl, by decide +kernel, by decide +kernel⟩
abbrev s_together : Stmt := topS 39
theorem sc_together : FnScope ["one", "other"] ["one", "other"] (defScope s_together) := ⟨rfl, rfl, rfl, by decide +kernel, rfl, by decide +kernel, by decide +kernel⟩
abbrev s_beat_or_none : Stmt := topS 40
theorem sc_beat_or_none : FnScope ["speed"] ["speed"] (defScope s_beat_or_none) := ⟨rfl, rfl, rfl, by decide +kernel, rfl, by decide +kernel, by decide +kernel⟩
abbrev s_is_plain : Stmt := topS 41
theorem sc_is_plain : FnScope ["speed"] ["speed"] (defScope s_is_plain) := ⟨rfl, rfl, rfl, by decide +kernel, rfl, by decide +kernel, by decide +kernel⟩
abbrev s_check_plain : Stmt := topS 42
theorem sc_check_plain : FnScope ["speed"] ["speed"] (defScope s_check_plain) := ⟨rfl, rfl, rfl, by decide +kernel, rfl, by decide +kernel, by decide +kernel⟩
abbrev s_beat_of : Stmt := topS 43
theorem sc_beat_of : FnScope ["speed"] ["speed"] (defScope s_beat_of) := ⟨rfl, rfl, rfl, by decide +kernel, rfl, by decide +kernel, by decide +kernel⟩
abbrev s_lapse_and_gap : Stmt := topS 45
theorem sc_lapse_and_gap : FnScope ["one", "other"] ["one", "other"] (defScope s_lapse_and_gap) := ⟨rfl, rfl, rfl, by decide +kernel, rfl, by decide +kernel, by decide +kernel⟩
abbrev s_kind_of : Stmt := topS 46
theorem sc_kind_of : FnScope ["one", "other", "lapse", "gap", "either_way"] ["one", "other"] (defScope s_kind_of) := ⟨rfl, rfl, rfl, by decide +kernel, rfl, by decide +kernel, by decide +kernel⟩
abbrev s_standing : Stmt := topS 47
abbrev s_is_seat : Stmt := topS 49
theorem sc_is_seat : FnScope ["thing", "speed", "hap"] ["thing"] (defScope s_is_seat) := ⟨rfl, rfl, rfl, by decide +kernel, rfl, by decide +kernel, by decide +kernel⟩
abbrev s_check_seat : Stmt := topS 50
theorem sc_check_seat : FnScope ["thing"] ["thing"] (defScope s_check_seat) := ⟨rfl, rfl, rfl, by decide +kernel, rfl, by decide +kernel, by decide +kernel⟩
abbrev s_check_hap : Stmt := topS 51
theorem sc_check_hap : FnScope ["thing"] ["thing"] (defScope s_check_hap) := ⟨rfl, rfl, rfl, by decide +kernel, rfl, by decide +kernel, by decide +kernel⟩
abbrev s_seen_from : Stmt := topS 52
theorem sc_seen_from : FnScope ["speed", "lapse", "gap", "beat", "time", "place"] ["speed", "lapse", "gap"] (defScope s_seen_from) := ⟨rfl, rfl, rfl, by decide +kernel, rfl, by decide +kernel, by decide +kernel⟩
abbrev s_told_from : Stmt := topS 53
theorem sc_told_from : FnScope ["seat", "hap", "speed", "own"] ["seat", "hap"] (defScope s_told_from) := ⟨rfl, rfl, rfl, by decide +kernel, rfl, by decide +kernel, by decide +kernel⟩
abbrev s_is_name : Stmt := topS 58
theorem sc_is_name : FnScope ["thing", "letter"] ["thing"] (defScope s_is_name) := ⟨rfl, rfl, rfl, by decide +kernel, rfl, by decide +kernel, by decide +kernel⟩
abbrev s_Bench___init__ : Stmt := inClass (topS 59) 0
theorem sc_Bench___init__ : FnScope ["self"] ["self"] (defScope s_Bench___init__) := ⟨rfl, rfl, rfl, by decide +kernel, rfl, by decide +kernel, by decide +kernel⟩
abbrev s_Bench__do : Stmt := inClass (topS 59) 12
theorem sc_Bench__do : FnScope ["self", "haps", "speed"] ["self", "haps", "speed"] (defScope s_Bench__do) := ⟨rfl, rfl, rfl, by decide +kernel, rfl, by decide +kernel, by decide +kernel⟩
abbrev s_Bench_put : Stmt := inClass (topS 59) 1
theorem sc_Bench_put : FnScope ["self", "name", "hap", "haps"] ["self", "name", "hap"] (defScope s_Bench_put) := ⟨rfl, rfl, rfl, by decide +kernel, rfl, by decide +kernel, by decide +kernel⟩
abbrev s_Bench__hap_of : Stmt := inClass (topS 59) 11
theorem sc_Bench__hap_of : FnScope ["self", "name"] ["self", "name"] (defScope s_Bench__hap_of) := ⟨rfl, rfl, rfl, by decide +kernel, rfl, by decide +kernel, by decide +kernel⟩
abbrev s_Bench_drop : Stmt := inClass (topS 59) 2
theorem sc_Bench_drop : FnScope ["self", "name", "haps"] ["self", "name"] (defScope s_Bench_drop) := ⟨rfl, rfl, rfl, by decide +kernel, rfl, by decide +kernel, by decide +kernel⟩
abbrev s_Bench_turn : Stmt := inClass (topS 59) 3
theorem sc_Bench_turn : FnScope ["self", "speed"] ["self", "speed"] (defScope s_Bench_turn) := ⟨rfl, rfl, rfl, by decide +kernel, rfl, by decide +kernel, by decide +kernel⟩
abbrev s_Bench_push : Stmt := inClass (topS 59) 4
theorem sc_Bench_push : FnScope ["self", "speed"] ["self", "speed"] (defScope s_Bench_push) := ⟨rfl, rfl, rfl, by decide +kernel, rfl, by decide +kernel, by decide +kernel⟩
abbrev s_Bench_undo : Stmt := inClass (topS 59) 5
theorem sc_Bench_undo : FnScope ["self"] ["self"] (defScope s_Bench_undo) := ⟨rfl, rfl, rfl, by decide +kernel, rfl, by decide +kernel, by decide +kernel⟩
abbrev s_Bench_names : Stmt := inClass (topS 59) 6
theorem sc_Bench_names : FnScope ["self"] ["self"] (defScope s_Bench_names) := ⟨rfl, rfl, rfl, by decide +kernel, rfl, by decide +kernel, by decide +kernel⟩
abbrev s_Bench_speed : Stmt := inClass (topS 59) 7
abbrev s_Bench_tell : Stmt := inClass (topS 59) 8
theorem sc_Bench_tell : FnScope ["self", "name"] ["self", "name"] (defScope s_Bench_tell) := ⟨rfl, rfl, rfl, by decide +kernel, rfl, by decide +kernel, by decide +kernel⟩
abbrev s_Bench_order : Stmt := inClass (topS 59) 9
abbrev s_Bench_kind : Stmt := inClass (topS 59) 10
theorem sc_Bench_kind : FnScope ["self", "one", "other"] ["self", "one", "other"] (defScope s_Bench_kind) := ⟨rfl, rfl, rfl, by decide +kernel, rfl, by decide +kernel, by decide +kernel⟩
abbrev s__law_cell_at : Stmt := topS 61
theorem sc__law_cell_at : FnScope ["_law_script", "_law_k"] ["_law_script", "_law_k"] (defScope s__law_cell_at) := ⟨rfl, rfl, rfl, by decide +kernel, rfl, by decide +kernel, by decide +kernel⟩
abbrev s__law_pot : Stmt := topS 62
theorem sc__law_pot : FnScope ["_law_cell", "_law_number", "_law_j", "_law_more"] ["_law_cell"] (defScope s__law_pot) := ⟨rfl, rfl, rfl, by decide +kernel, rfl, by decide +kernel, by decide +kernel⟩
abbrev s__law_take : Stmt := topS 63
theorem sc__law_take : FnScope ["_law_pot_here", "_law_far", "_law_found"] ["_law_pot_here", "_law_far"] (defScope s__law_take) := ⟨rfl, rfl, rfl, by decide +kernel, rfl, by decide +kernel, by decide +kernel⟩
abbrev s__law_fresh : Stmt := topS 64
theorem sc__law_fresh : FnScope [] [] (defScope s__law_fresh) := ⟨rfl, rfl, rfl, by decide +kernel, rfl, by decide +kernel, by decide +kernel⟩
abbrev s__law_named : Stmt := topS 65
theorem sc__law_named : FnScope ["_law_pot_here"] ["_law_pot_here"] (defScope s__law_named) := ⟨rfl, rfl, rfl, by decide +kernel, rfl, by decide +kernel, by decide +kernel⟩
abbrev s__law_low : Stmt := topS 66
theorem sc__law_low : FnScope ["_law_top", "_law_bottom", "_law_one", "_law_other"] ["_law_top", "_law_bottom"] (defScope s__law_low) := ⟨rfl, rfl, rfl, by decide +kernel, rfl, by decide +kernel, by decide +kernel⟩
abbrev s__law_hap : Stmt := topS 67
theorem sc__law_hap : FnScope ["_law_pot_here", "_law_far", "_law_time"] ["_law_pot_here"] (defScope s__law_hap) := ⟨rfl, rfl, rfl, by decide +kernel, rfl, by decide +kernel, by decide +kernel⟩
abbrev s__law_stretch : Stmt := topS 68
theorem sc__law_stretch : FnScope ["_law_pot_here", "_law_far", "_law_top"] ["_law_pot_here"] (defScope s__law_stretch) := ⟨rfl, rfl, rfl, by decide +kernel, rfl, by decide +kernel, by decide +kernel⟩
abbrev s__law_fast : Stmt := topS 69
theorem sc__law_fast : FnScope ["_law_pot_here", "_law_a", "_law_b"] ["_law_pot_here"] (defScope s__law_fast) := ⟨rfl, rfl, rfl, by decide +kernel, rfl, by decide +kernel, by decide +kernel⟩
abbrev s__law_speed : Stmt := topS 70
theorem sc__law_speed : FnScope ["_law_pot_here", "_law_way", "_law_bottom", "_law_top"] ["_law_pot_here"] (defScope s__law_speed) := ⟨rfl, rfl, rfl, by decide +kernel, rfl, by decide +kernel, by decide +kernel⟩
abbrev s__law_deed : Stmt := topS 71
theorem sc__law_deed : FnScope ["_law_pot_here", "_law_way", "_law_name", "_law_bad", "_law_speed_here"] ["_law_pot_here"] (defScope s__law_deed) := ⟨rfl, rfl, rfl, by decide +kernel, rfl, by decide +kernel, by decide +kernel⟩
abbrev s__law_whole : Stmt := topS 72
theorem sc__law_whole : FnScope ["_law_thing"] ["_law_thing"] (defScope s__law_whole) := ⟨rfl, rfl, rfl, by decide +kernel, rfl, by decide +kernel, by decide +kernel⟩
abbrev s__law_good : Stmt := topS 73
theorem sc__law_good : FnScope ["_law_thing"] ["_law_thing"] (defScope s__law_good) := ⟨rfl, rfl, rfl, by decide +kernel, rfl, by decide +kernel, by decide +kernel⟩
abbrev s__law_is_it : Stmt := topS 74
theorem sc__law_is_it : FnScope ["_law_thing"] ["_law_thing"] (defScope s__law_is_it) := ⟨rfl, rfl, rfl, by decide +kernel, rfl, by decide +kernel, by decide +kernel⟩
abbrev s__law_named_well : Stmt := topS 75
theorem sc__law_named_well : FnScope ["_law_thing", "_law_sign"] ["_law_thing"] (defScope s__law_named_well) := ⟨rfl, rfl, rfl, by decide +kernel, rfl, by decide +kernel, by decide +kernel⟩
abbrev s__law_is_fast : Stmt := topS 76
theorem sc__law_is_fast : FnScope ["_law_thing"] ["_law_thing"] (defScope s__law_is_fast) := ⟨rfl, rfl, rfl, by decide +kernel, rfl, by decide +kernel, by decide +kernel⟩
abbrev s__law_root : Stmt := topS 77
theorem sc__law_root : FnScope ["_law_number", "_law_found", "_law_bit"] ["_law_number"] (defScope s__law_root) := ⟨rfl, rfl, rfl, by decide +kernel, rfl, by decide +kernel, by decide +kernel⟩
abbrev s__law_rooted : Stmt := topS 78
theorem sc__law_rooted : FnScope ["_law_one", "_law_top", "_law_bottom"] ["_law_one"] (defScope s__law_rooted) := ⟨rfl, rfl, rfl, by decide +kernel, rfl, by decide +kernel, by decide +kernel⟩
abbrev s__law_gap : Stmt := topS 79
theorem sc__law_gap : FnScope ["_law_one", "_law_other"] ["_law_one", "_law_other"] (defScope s__law_gap) := ⟨rfl, rfl, rfl, by decide +kernel, rfl, by decide +kernel, by decide +kernel⟩
abbrev s__law_prod : Stmt := topS 80
theorem sc__law_prod : FnScope ["_law_one", "_law_other"] ["_law_one", "_law_other"] (defScope s__law_prod) := ⟨rfl, rfl, rfl, by decide +kernel, rfl, by decide +kernel, by decide +kernel⟩
abbrev s__law_beat : Stmt := topS 81
theorem sc__law_beat : FnScope ["_law_speed_here"] ["_law_speed_here"] (defScope s__law_beat) := ⟨rfl, rfl, rfl, by decide +kernel, rfl, by decide +kernel, by decide +kernel⟩
abbrev s__law_refused_as : Stmt := topS 82
theorem sc__law_refused_as : FnScope ["_law_state", "_law_word_here", "_law_told_here"] ["_law_state", "_law_word_here", "_law_told_here"] (defScope s__law_refused_as) := ⟨rfl, rfl, rfl, by decide +kernel, rfl, by decide +kernel, by decide +kernel⟩
abbrev s__law_sum : Stmt := topS 83
theorem sc__law_sum : FnScope ["_law_one", "_law_other"] ["_law_one", "_law_other"] (defScope s__law_sum) := ⟨rfl, rfl, rfl, by decide +kernel, rfl, by decide +kernel, by decide +kernel⟩
abbrev s__law_quot : Stmt := topS 84
theorem sc__law_quot : FnScope ["_law_one", "_law_other"] ["_law_one", "_law_other"] (defScope s__law_quot) := ⟨rfl, rfl, rfl, by decide +kernel, rfl, by decide +kernel, by decide +kernel⟩
abbrev s__law_joined : Stmt := topS 85
theorem sc__law_joined : FnScope ["_law_one", "_law_other"] ["_law_one", "_law_other"] (defScope s__law_joined) := ⟨rfl, rfl, rfl, by decide +kernel, rfl, by decide +kernel, by decide +kernel⟩
abbrev s__law_kept : Stmt := topS 86
theorem sc__law_kept : FnScope ["_law_state", "_law_word_here", "_law_told_here", "_law_found"] ["_law_state", "_law_word_here", "_law_told_here"] (defScope s__law_kept) := ⟨rfl, rfl, rfl, by decide +kernel, rfl, by decide +kernel, by decide +kernel⟩
abbrev s__law_kind_of : Stmt := topS 87
theorem sc__law_kind_of : FnScope ["_law_e", "_law_some", "_law_words"] ["_law_e"] (defScope s__law_kind_of) := ⟨rfl, rfl, rfl, by decide +kernel, rfl, by decide +kernel, by decide +kernel⟩
abbrev s__law_done : Stmt := topS 88
theorem sc__law_done : FnScope ["_law_bench", "_law_word_here", "_law_told_here", "_law_found", "_law_e"] ["_law_bench", "_law_word_here", "_law_told_here"] (defScope s__law_done) := ⟨rfl, rfl, rfl, by decide +kernel, rfl, by decide +kernel, by decide +kernel⟩
abbrev s__law_apart : Stmt := topS 89
theorem sc__law_apart : FnScope ["_law_one", "_law_other"] ["_law_one", "_law_other"] (defScope s__law_apart) := ⟨rfl, rfl, rfl, by decide +kernel, rfl, by decide +kernel, by decide +kernel⟩
abbrev s__law_word : Stmt := topS 90
theorem sc__law_word : FnScope ["_law_one", "_law_other", "_law_time", "_law_place", "_law_by_time", "_law_by_place"] ["_law_one", "_law_other"] (defScope s__law_word) := ⟨rfl, rfl, rfl, by decide +kernel, rfl, by decide +kernel, by decide +kernel⟩
abbrev s__law_told : Stmt := topS 91
theorem sc__law_told : FnScope ["_law_bench", "_law_names", "_law_e"] ["_law_bench", "_law_names"] (defScope s__law_told) := ⟨rfl, rfl, rfl, by decide +kernel, rfl, by decide +kernel, by decide +kernel⟩
abbrev s__law_words_right : Stmt := topS 92
theorem sc__law_words_right : FnScope ["_law_pot_here", "_law_bench", "_law_state", "_law_haps", "_law_one", "_law_other", "_law_bad", "_law_good_here", "_law_names"] ["_law_pot_here", "_law_bench", "_law_state"] (defScope s__law_words_right) := ⟨rfl, rfl, rfl, by decide +kernel, rfl, by decide +kernel, by decide +kernel⟩
abbrev s__law_full_right : Stmt := topS 93
theorem sc__law_full_right : FnScope ["_law_pot_here", "_law_bench", "_law_name", "_law_before", "_law_hap_here"] ["_law_pot_here"] (defScope s__law_full_right) := ⟨rfl, rfl, rfl, by decide +kernel, rfl, by decide +kernel, by decide +kernel⟩
abbrev s_law : Stmt := topS 94
theorem sc_law : FnScope ["_law_script", "_law_bench", "_law_state", "_law_number", "_law_pot_here", "_law_word_here", "_law_told_here"] ["_law_script"] (defScope s_law) := ⟨rfl, rfl, rfl, by decide +kernel, rfl, by decide +kernel, by decide +kernel⟩
structure Txt (K : PySem.W.Frag) (mg : Str → Option Value) (ca fa ka : Nat → Addr) : Prop where
  d_is_whole : Dd K mg "is_whole" s_is_whole ["thing"]
  d_is_fraction : Dd K mg "is_fraction" s_is_fraction ["thing"]
  d_fraction : Dd K mg "fraction" s_fraction ["top", "bottom"]
  d_plus : Dd K mg "plus" s_plus ["one", "other"]
  d_less : Dd K mg "less" s_less ["one", "other"]
  d_times : Dd K mg "times" s_times ["one", "other"]
  d_by : Dd K mg "by" s_by ["one", "other"]
  d_is_less : Dd K mg "is_less" s_is_less ["one", "other"]
  d_rising : Dd K mg "rising" s_rising ["ones"]
  d_root_of : Dd K mg "root_of" s_root_of ["one"]
  d_is_hap : Dd K mg "is_hap" s_is_hap ["thing"]
  d_is_speed : Dd K mg "is_speed" s_is_speed ["thing"]
  d_check_speed : Dd K mg "check_speed" s_check_speed ["thing"]
  d_together : Dd K mg "together" s_together ["one", "other"]
  d_beat_or_none : Dd K mg "beat_or_none" s_beat_or_none ["speed"]
  d_is_plain : Dd K mg "is_plain" s_is_plain ["speed"]
  d_check_plain : Dd K mg "check_plain" s_check_plain ["speed"]
  d_beat_of : Dd K mg "beat_of" s_beat_of ["speed"]
  d_lapse_and_gap : Dd K mg "lapse_and_gap" s_lapse_and_gap ["one", "other"]
  d_kind_of : Dd K mg "kind_of" s_kind_of ["one", "other"]
  d_standing : Dd K mg "standing" s_standing ["haps", "speed"]
  d_is_seat : Dd K mg "is_seat" s_is_seat ["thing"]
  d_check_seat : Dd K mg "check_seat" s_check_seat ["thing"]
  d_check_hap : Dd K mg "check_hap" s_check_hap ["thing"]
  d_seen_from : Dd K mg "seen_from" s_seen_from ["speed", "lapse", "gap"]
  d_told_from : Dd K mg "told_from" s_told_from ["seat", "hap"]
  d_is_name : Dd K mg "is_name" s_is_name ["thing"]
  d_Bench___init__ : DdI K (ca 19) "Bench.__init__" s_Bench___init__ ["self"]
  cl_Bench : Cls K (ca 19)
  na_Bench__haps : NoAttr K (ca 19) "_haps"
  na_Bench__speed : NoAttr K (ca 19) "_speed"
  na_Bench__past : NoAttr K (ca 19) "_past"
  d_Bench__do : DdM K (ca 19) "_do" "Bench._do" s_Bench__do ["self", "haps", "speed"]
  d_Bench_put : DdM K (ca 19) "put" "Bench.put" s_Bench_put ["self", "name", "hap"]
  d_Bench__hap_of : DdM K (ca 19) "_hap_of" "Bench._hap_of" s_Bench__hap_of ["self", "name"]
  d_Bench_drop : DdM K (ca 19) "drop" "Bench.drop" s_Bench_drop ["self", "name"]
  d_Bench_turn : DdM K (ca 19) "turn" "Bench.turn" s_Bench_turn ["self", "speed"]
  d_Bench_push : DdM K (ca 19) "push" "Bench.push" s_Bench_push ["self", "speed"]
  d_Bench_undo : DdM K (ca 19) "undo" "Bench.undo" s_Bench_undo ["self"]
  d_Bench_names : DdM K (ca 19) "names" "Bench.names" s_Bench_names ["self"]
  d_Bench_speed : DdM K (ca 19) "speed" "Bench.speed" s_Bench_speed ["self"]
  d_Bench_tell : DdM K (ca 19) "tell" "Bench.tell" s_Bench_tell ["self", "name"]
  d_Bench_order : DdM K (ca 19) "order" "Bench.order" s_Bench_order ["self"]
  d_Bench_kind : DdM K (ca 19) "kind" "Bench.kind" s_Bench_kind ["self", "one", "other"]
  d__law_cell_at : Dd K mg "_law_cell_at" s__law_cell_at ["_law_script", "_law_k"]
  d__law_pot : Dd K mg "_law_pot" s__law_pot ["_law_cell"]
  d__law_take : Dd K mg "_law_take" s__law_take ["_law_pot_here", "_law_far"]
  d__law_fresh : Dd K mg "_law_fresh" s__law_fresh []
  d__law_named : Dd K mg "_law_named" s__law_named ["_law_pot_here"]
  d__law_low : Dd K mg "_law_low" s__law_low ["_law_top", "_law_bottom"]
  d__law_hap : Dd K mg "_law_hap" s__law_hap ["_law_pot_here"]
  d__law_stretch : Dd K mg "_law_stretch" s__law_stretch ["_law_pot_here"]
  d__law_fast : Dd K mg "_law_fast" s__law_fast ["_law_pot_here"]
  d__law_speed : Dd K mg "_law_speed" s__law_speed ["_law_pot_here"]
  d__law_deed : Dd K mg "_law_deed" s__law_deed ["_law_pot_here"]
  d__law_whole : Dd K mg "_law_whole" s__law_whole ["_law_thing"]
  d__law_good : Dd K mg "_law_good" s__law_good ["_law_thing"]
  d__law_is_it : Dd K mg "_law_is_it" s__law_is_it ["_law_thing"]
  d__law_named_well : Dd K mg "_law_named_well" s__law_named_well ["_law_thing"]
  d__law_is_fast : Dd K mg "_law_is_fast" s__law_is_fast ["_law_thing"]
  d__law_root : Dd K mg "_law_root" s__law_root ["_law_number"]
  d__law_rooted : Dd K mg "_law_rooted" s__law_rooted ["_law_one"]
  d__law_gap : Dd K mg "_law_gap" s__law_gap ["_law_one", "_law_other"]
  d__law_prod : Dd K mg "_law_prod" s__law_prod ["_law_one", "_law_other"]
  d__law_beat : Dd K mg "_law_beat" s__law_beat ["_law_speed_here"]
  d__law_refused_as : Dd K mg "_law_refused_as" s__law_refused_as ["_law_state", "_law_word_here", "_law_told_here"]
  d__law_sum : Dd K mg "_law_sum" s__law_sum ["_law_one", "_law_other"]
  d__law_quot : Dd K mg "_law_quot" s__law_quot ["_law_one", "_law_other"]
  d__law_joined : Dd K mg "_law_joined" s__law_joined ["_law_one", "_law_other"]
  d__law_kept : Dd K mg "_law_kept" s__law_kept ["_law_state", "_law_word_here", "_law_told_here"]
  d__law_kind_of : Dd K mg "_law_kind_of" s__law_kind_of ["_law_e"]
  d__law_done : Dd K mg "_law_done" s__law_done ["_law_bench", "_law_word_here", "_law_told_here"]
  d__law_apart : Dd K mg "_law_apart" s__law_apart ["_law_one", "_law_other"]
  d__law_word : Dd K mg "_law_word" s__law_word ["_law_one", "_law_other"]
  d__law_told : Dd K mg "_law_told" s__law_told ["_law_bench", "_law_names"]
  d__law_words_right : Dd K mg "_law_words_right" s__law_words_right ["_law_pot_here", "_law_bench", "_law_state"]
  d__law_full_right : Dd K mg "_law_full_right" s__law_full_right ["_law_pot_here"]
  d_law : Dd K mg "law" s_law ["_law_script"]
  m_ValueError : mg "ValueError" = none
  m_abs : mg "abs" = none
  m_all : mg "all" = none
  m_bool : mg "bool" = none
  m_dict : mg "dict" = none
  m_enumerate : mg "enumerate" = none
  m_int : mg "int" = none
  m_isinstance : mg "isinstance" = none
  m_len : mg "len" = none
  m_max : mg "max" = none
  m_min : mg "min" = none
  m_range : mg "range" = none
  m_set : mg "set" = none
  m_sorted : mg "sorted" = none
  m_str : mg "str" = none
  m_tuple : mg "tuple" = none
  g_gcd : mg "gcd" = some (.builtin "math.gcd")
  g_isqrt : mg "isqrt" = some (.builtin "math.isqrt")
  g_lcm : mg "lcm" = some (.builtin "math.lcm")
  c_MotionError : mg "MotionError" = some (.ref (ca 0))
  c_NoFraction : mg "NoFraction" = some (.ref (ca 1))
  x_NoFraction : Cl K mg "NoFraction" (ca 1)
  c_NoHap : mg "NoHap" = some (.ref (ca 2))
  x_NoHap : Cl K mg "NoHap" (ca 2)
  c_NoText : mg "NoText" = some (.ref (ca 3))
  c_NoSpeed : mg "NoSpeed" = some (.ref (ca 4))
  x_NoSpeed : Cl K mg "NoSpeed" (ca 4)
  c_TooMany : mg "TooMany" = some (.ref (ca 5))
  x_TooMany : Cl K mg "TooMany" (ca 5)
  c_NotPlain : mg "NotPlain" = some (.ref (ca 6))
  x_NotPlain : Cl K mg "NotPlain" (ca 6)
  c_NoStretch : mg "NoStretch" = some (.ref (ca 7))
  c_NoHaps : mg "NoHaps" = some (.ref (ca 8))
  c_NoOrder : mg "NoOrder" = some (.ref (ca 9))
  c_NoStep : mg "NoStep" = some (.ref (ca 10))
  c_NoNumber : mg "NoNumber" = some (.ref (ca 11))
  c_NoSeat : mg "NoSeat" = some (.ref (ca 12))
  x_NoSeat : Cl K mg "NoSeat" (ca 12)
  c_NoRod : mg "NoRod" = some (.ref (ca 13))
  c_NoWay : mg "NoWay" = some (.ref (ca 14))
  c_NoFlash : mg "NoFlash" = some (.ref (ca 15))
  c_NoName : mg "NoName" = some (.ref (ca 16))
  x_NoName : Cl K mg "NoName" (ca 16)
  c_NoDeed : mg "NoDeed" = some (.ref (ca 17))
  x_NoDeed : Cl K mg "NoDeed" (ca 17)
  c_NoRow : mg "NoRow" = some (.ref (ca 18))
  c_Bench : mg "Bench" = some (.ref (ca 19))
  e_NoName : ExcC K (ca 16)
  v_NoName : PySem.W.kitOne K (.ref (ca 16)) (.type "ValueError") = some true
  r_NoName : PySem.W.exmOne K (.ref (ca 16)) (.ref (ca 0)) = some true
  k_NoName_NoDeed : PySem.W.kitOne K (.ref (ca 16)) (.ref (ca 17)) = some false
  k_NoName_NoFlash : PySem.W.kitOne K (.ref (ca 16)) (.ref (ca 15)) = some false
  k_NoName_NoFraction : PySem.W.kitOne K (.ref (ca 16)) (.ref (ca 1)) = some false
  k_NoName_NoHap : PySem.W.kitOne K (.ref (ca 16)) (.ref (ca 2)) = some false
  k_NoName_NoHaps : PySem.W.kitOne K (.ref (ca 16)) (.ref (ca 8)) = some false
  k_NoName_NoName : PySem.W.kitOne K (.ref (ca 16)) (.ref (ca 16)) = some true
  k_NoName_NoNumber : PySem.W.kitOne K (.ref (ca 16)) (.ref (ca 11)) = some false
  k_NoName_NoOrder : PySem.W.kitOne K (.ref (ca 16)) (.ref (ca 9)) = some false
  k_NoName_NoRod : PySem.W.kitOne K (.ref (ca 16)) (.ref (ca 13)) = some false
  k_NoName_NoRow : PySem.W.kitOne K (.ref (ca 16)) (.ref (ca 18)) = some false
  k_NoName_NoSeat : PySem.W.kitOne K (.ref (ca 16)) (.ref (ca 12)) = some false
  k_NoName_NoSpeed : PySem.W.kitOne K (.ref (ca 16)) (.ref (ca 4)) = some false
  k_NoName_NoStep : PySem.W.kitOne K (.ref (ca 16)) (.ref (ca 10)) = some false
  k_NoName_NoStretch : PySem.W.kitOne K (.ref (ca 16)) (.ref (ca 7)) = some false
  k_NoName_NoText : PySem.W.kitOne K (.ref (ca 16)) (.ref (ca 3)) = some false
  k_NoName_NotPlain : PySem.W.kitOne K (.ref (ca 16)) (.ref (ca 6)) = some false
  k_NoName_NoWay : PySem.W.kitOne K (.ref (ca 16)) (.ref (ca 14)) = some false
  k_NoName_TooMany : PySem.W.kitOne K (.ref (ca 16)) (.ref (ca 5)) = some false
  e_NoHap : ExcC K (ca 2)
  v_NoHap : PySem.W.kitOne K (.ref (ca 2)) (.type "ValueError") = some true
  r_NoHap : PySem.W.exmOne K (.ref (ca 2)) (.ref (ca 0)) = some true
  k_NoHap_NoDeed : PySem.W.kitOne K (.ref (ca 2)) (.ref (ca 17)) = some false
  k_NoHap_NoFlash : PySem.W.kitOne K (.ref (ca 2)) (.ref (ca 15)) = some false
  k_NoHap_NoFraction : PySem.W.kitOne K (.ref (ca 2)) (.ref (ca 1)) = some false
  k_NoHap_NoHap : PySem.W.kitOne K (.ref (ca 2)) (.ref (ca 2)) = some true
  k_NoHap_NoHaps : PySem.W.kitOne K (.ref (ca 2)) (.ref (ca 8)) = some false
  k_NoHap_NoName : PySem.W.kitOne K (.ref (ca 2)) (.ref (ca 16)) = some false
  k_NoHap_NoNumber : PySem.W.kitOne K (.ref (ca 2)) (.ref (ca 11)) = some false
  k_NoHap_NoOrder : PySem.W.kitOne K (.ref (ca 2)) (.ref (ca 9)) = some false
  k_NoHap_NoRod : PySem.W.kitOne K (.ref (ca 2)) (.ref (ca 13)) = some false
  k_NoHap_NoRow : PySem.W.kitOne K (.ref (ca 2)) (.ref (ca 18)) = some false
  k_NoHap_NoSeat : PySem.W.kitOne K (.ref (ca 2)) (.ref (ca 12)) = some false
  k_NoHap_NoSpeed : PySem.W.kitOne K (.ref (ca 2)) (.ref (ca 4)) = some false
  k_NoHap_NoStep : PySem.W.kitOne K (.ref (ca 2)) (.ref (ca 10)) = some false
  k_NoHap_NoStretch : PySem.W.kitOne K (.ref (ca 2)) (.ref (ca 7)) = some false
  k_NoHap_NoText : PySem.W.kitOne K (.ref (ca 2)) (.ref (ca 3)) = some false
  k_NoHap_NotPlain : PySem.W.kitOne K (.ref (ca 2)) (.ref (ca 6)) = some false
  k_NoHap_NoWay : PySem.W.kitOne K (.ref (ca 2)) (.ref (ca 14)) = some false
  k_NoHap_TooMany : PySem.W.kitOne K (.ref (ca 2)) (.ref (ca 5)) = some false
  e_NoSpeed : ExcC K (ca 4)
  v_NoSpeed : PySem.W.kitOne K (.ref (ca 4)) (.type "ValueError") = some true
  r_NoSpeed : PySem.W.exmOne K (.ref (ca 4)) (.ref (ca 0)) = some true
  k_NoSpeed_NoDeed : PySem.W.kitOne K (.ref (ca 4)) (.ref (ca 17)) = some false
  k_NoSpeed_NoFlash : PySem.W.kitOne K (.ref (ca 4)) (.ref (ca 15)) = some false
  k_NoSpeed_NoFraction : PySem.W.kitOne K (.ref (ca 4)) (.ref (ca 1)) = some false
  k_NoSpeed_NoHap : PySem.W.kitOne K (.ref (ca 4)) (.ref (ca 2)) = some false
  k_NoSpeed_NoHaps : PySem.W.kitOne K (.ref (ca 4)) (.ref (ca 8)) = some false
  k_NoSpeed_NoName : PySem.W.kitOne K (.ref (ca 4)) (.ref (ca 16)) = some false
  k_NoSpeed_NoNumber : PySem.W.kitOne K (.ref (ca 4)) (.ref (ca 11)) = some false
  k_NoSpeed_NoOrder : PySem.W.kitOne K (.ref (ca 4)) (.ref (ca 9)) = some false
  k_NoSpeed_NoRod : PySem.W.kitOne K (.ref (ca 4)) (.ref (ca 13)) = some false
  k_NoSpeed_NoRow : PySem.W.kitOne K (.ref (ca 4)) (.ref (ca 18)) = some false
  k_NoSpeed_NoSeat : PySem.W.kitOne K (.ref (ca 4)) (.ref (ca 12)) = some false
  k_NoSpeed_NoSpeed : PySem.W.kitOne K (.ref (ca 4)) (.ref (ca 4)) = some true
  k_NoSpeed_NoStep : PySem.W.kitOne K (.ref (ca 4)) (.ref (ca 10)) = some false
  k_NoSpeed_NoStretch : PySem.W.kitOne K (.ref (ca 4)) (.ref (ca 7)) = some false
  k_NoSpeed_NoText : PySem.W.kitOne K (.ref (ca 4)) (.ref (ca 3)) = some false
  k_NoSpeed_NotPlain : PySem.W.kitOne K (.ref (ca 4)) (.ref (ca 6)) = some false
  k_NoSpeed_NoWay : PySem.W.kitOne K (.ref (ca 4)) (.ref (ca 14)) = some false
  k_NoSpeed_TooMany : PySem.W.kitOne K (.ref (ca 4)) (.ref (ca 5)) = some false
  e_NotPlain : ExcC K (ca 6)
  v_NotPlain : PySem.W.kitOne K (.ref (ca 6)) (.type "ValueError") = some true
  r_NotPlain : PySem.W.exmOne K (.ref (ca 6)) (.ref (ca 0)) = some true
  k_NotPlain_NoDeed : PySem.W.kitOne K (.ref (ca 6)) (.ref (ca 17)) = some false
  k_NotPlain_NoFlash : PySem.W.kitOne K (.ref (ca 6)) (.ref (ca 15)) = some false
  k_NotPlain_NoFraction : PySem.W.kitOne K (.ref (ca 6)) (.ref (ca 1)) = some false
  k_NotPlain_NoHap : PySem.W.kitOne K (.ref (ca 6)) (.ref (ca 2)) = some false
  k_NotPlain_NoHaps : PySem.W.kitOne K (.ref (ca 6)) (.ref (ca 8)) = some false
  k_NotPlain_NoName : PySem.W.kitOne K (.ref (ca 6)) (.ref (ca 16)) = some false
  k_NotPlain_NoNumber : PySem.W.kitOne K (.ref (ca 6)) (.ref (ca 11)) = some false
  k_NotPlain_NoOrder : PySem.W.kitOne K (.ref (ca 6)) (.ref (ca 9)) = some false
  k_NotPlain_NoRod : PySem.W.kitOne K (.ref (ca 6)) (.ref (ca 13)) = some false
  k_NotPlain_NoRow : PySem.W.kitOne K (.ref (ca 6)) (.ref (ca 18)) = some false
  k_NotPlain_NoSeat : PySem.W.kitOne K (.ref (ca 6)) (.ref (ca 12)) = some false
  k_NotPlain_NoSpeed : PySem.W.kitOne K (.ref (ca 6)) (.ref (ca 4)) = some false
  k_NotPlain_NoStep : PySem.W.kitOne K (.ref (ca 6)) (.ref (ca 10)) = some false
  k_NotPlain_NoStretch : PySem.W.kitOne K (.ref (ca 6)) (.ref (ca 7)) = some false
  k_NotPlain_NoText : PySem.W.kitOne K (.ref (ca 6)) (.ref (ca 3)) = some false
  k_NotPlain_NotPlain : PySem.W.kitOne K (.ref (ca 6)) (.ref (ca 6)) = some true
  k_NotPlain_NoWay : PySem.W.kitOne K (.ref (ca 6)) (.ref (ca 14)) = some false
  k_NotPlain_TooMany : PySem.W.kitOne K (.ref (ca 6)) (.ref (ca 5)) = some false
  e_NoDeed : ExcC K (ca 17)
  v_NoDeed : PySem.W.kitOne K (.ref (ca 17)) (.type "ValueError") = some true
  r_NoDeed : PySem.W.exmOne K (.ref (ca 17)) (.ref (ca 0)) = some true
  k_NoDeed_NoDeed : PySem.W.kitOne K (.ref (ca 17)) (.ref (ca 17)) = some true
  k_NoDeed_NoFlash : PySem.W.kitOne K (.ref (ca 17)) (.ref (ca 15)) = some false
  k_NoDeed_NoFraction : PySem.W.kitOne K (.ref (ca 17)) (.ref (ca 1)) = some false
  k_NoDeed_NoHap : PySem.W.kitOne K (.ref (ca 17)) (.ref (ca 2)) = some false
  k_NoDeed_NoHaps : PySem.W.kitOne K (.ref (ca 17)) (.ref (ca 8)) = some false
  k_NoDeed_NoName : PySem.W.kitOne K (.ref (ca 17)) (.ref (ca 16)) = some false
  k_NoDeed_NoNumber : PySem.W.kitOne K (.ref (ca 17)) (.ref (ca 11)) = some false
  k_NoDeed_NoOrder : PySem.W.kitOne K (.ref (ca 17)) (.ref (ca 9)) = some false
  k_NoDeed_NoRod : PySem.W.kitOne K (.ref (ca 17)) (.ref (ca 13)) = some false
  k_NoDeed_NoRow : PySem.W.kitOne K (.ref (ca 17)) (.ref (ca 18)) = some false
  k_NoDeed_NoSeat : PySem.W.kitOne K (.ref (ca 17)) (.ref (ca 12)) = some false
  k_NoDeed_NoSpeed : PySem.W.kitOne K (.ref (ca 17)) (.ref (ca 4)) = some false
  k_NoDeed_NoStep : PySem.W.kitOne K (.ref (ca 17)) (.ref (ca 10)) = some false
  k_NoDeed_NoStretch : PySem.W.kitOne K (.ref (ca 17)) (.ref (ca 7)) = some false
  k_NoDeed_NoText : PySem.W.kitOne K (.ref (ca 17)) (.ref (ca 3)) = some false
  k_NoDeed_NotPlain : PySem.W.kitOne K (.ref (ca 17)) (.ref (ca 6)) = some false
  k_NoDeed_NoWay : PySem.W.kitOne K (.ref (ca 17)) (.ref (ca 14)) = some false
  k_NoDeed_TooMany : PySem.W.kitOne K (.ref (ca 17)) (.ref (ca 5)) = some false
  e_TooMany : ExcC K (ca 5)
  v_TooMany : PySem.W.kitOne K (.ref (ca 5)) (.type "ValueError") = some true
  r_TooMany : PySem.W.exmOne K (.ref (ca 5)) (.ref (ca 0)) = some true
  k_TooMany_NoDeed : PySem.W.kitOne K (.ref (ca 5)) (.ref (ca 17)) = some false
  k_TooMany_NoFlash : PySem.W.kitOne K (.ref (ca 5)) (.ref (ca 15)) = some false
  k_TooMany_NoFraction : PySem.W.kitOne K (.ref (ca 5)) (.ref (ca 1)) = some false
  k_TooMany_NoHap : PySem.W.kitOne K (.ref (ca 5)) (.ref (ca 2)) = some false
  k_TooMany_NoHaps : PySem.W.kitOne K (.ref (ca 5)) (.ref (ca 8)) = some false
  k_TooMany_NoName : PySem.W.kitOne K (.ref (ca 5)) (.ref (ca 16)) = some false
  k_TooMany_NoNumber : PySem.W.kitOne K (.ref (ca 5)) (.ref (ca 11)) = some false
  k_TooMany_NoOrder : PySem.W.kitOne K (.ref (ca 5)) (.ref (ca 9)) = some false
  k_TooMany_NoRod : PySem.W.kitOne K (.ref (ca 5)) (.ref (ca 13)) = some false
  k_TooMany_NoRow : PySem.W.kitOne K (.ref (ca 5)) (.ref (ca 18)) = some false
  k_TooMany_NoSeat : PySem.W.kitOne K (.ref (ca 5)) (.ref (ca 12)) = some false
  k_TooMany_NoSpeed : PySem.W.kitOne K (.ref (ca 5)) (.ref (ca 4)) = some false
  k_TooMany_NoStep : PySem.W.kitOne K (.ref (ca 5)) (.ref (ca 10)) = some false
  k_TooMany_NoStretch : PySem.W.kitOne K (.ref (ca 5)) (.ref (ca 7)) = some false
  k_TooMany_NoText : PySem.W.kitOne K (.ref (ca 5)) (.ref (ca 3)) = some false
  k_TooMany_NotPlain : PySem.W.kitOne K (.ref (ca 5)) (.ref (ca 6)) = some false
  k_TooMany_NoWay : PySem.W.kitOne K (.ref (ca 5)) (.ref (ca 14)) = some false
  k_TooMany_TooMany : PySem.W.kitOne K (.ref (ca 5)) (.ref (ca 5)) = some true
  v_LETTERS : ∃ u, mg "LETTERS" = some u ∧ RelV (.str "abcdefghijklmnopqrstuvwxyz") u
  v_LONGEST_NAME : ∃ u, mg "LONGEST_NAME" = some u ∧ RelV (.int (8)) u
  v_MOST_NAMES : ∃ u, mg "MOST_NAMES" = some u ∧ RelV (.int (12)) u
  v_NOUGHT : mg "NOUGHT" = some (.ref (ka 3))
  w_NOUGHT : ∀ H, SqX K H (ka 3) [.int (0), .int (1)]
  v_ONE : mg "ONE" = some (.ref (ka 4))
  w_ONE : ∀ H, SqX K H (ka 4) [.int (1), .int (1)]
section
variable {P : Program} {w : World} {K : PySem.W.Frag} {mg : Str → Option Value} {base : Heap} {ca fa ka : Nat → Addr}
theorem ev_NOUGHT {sl : List Sl} (T : Txt K mg ca fa ka) : Ev K (tC (.ref (ka 3))) sl (fq 0) := ev_ii T.w_NOUGHT
local macro_rules | `(tactic| walk_at "ev") => `(tactic| exact ev_NOUGHT (by assumption))
theorem ev_ONE {sl : List Sl} (T : Txt K mg ca fa ka) : Ev K (tC (.ref (ka 4))) sl (fq 1) := ev_ii T.w_ONE
local macro_rules | `(tactic| walk_at "ev") => `(tactic| exact ev_ONE (by assumption))
def R_wh (ds : List Dt) (d : Dt) : Prop := ∃ x : Dt, ds = [x] ∧ d = .bl (isWh x)
theorem h_is_whole (T : Txt K mg ca fa ka) : Has P w K mg base CX0 1 "is_whole" ["thing"] (spP K R_wh) := by
  refine T.d_is_whole.pure sc_is_whole (fun ds d h => by obtain ⟨x, rfl, _⟩ := h; rfl) (fun f cdv A outer s H E hr => (pss_one (ps_ret (pe_and (pe_callB (isiK (K := K) rfl) (by rfl) T.m_isinstance (by decide +kernel) (pa_cons (pv 0) (pa_cons (pe_bltn (v := .ty "int") (by rfl) T.m_int (by decide +kernel) rfl) pa_nil))) (pe_one (pe_not (pe_callB (isiK (K := K) rfl) (by rfl) T.m_isinstance (by decide +kernel) (pa_cons (pv 0) (pa_cons (pe_bltn (v := .ty "bool") (by rfl) T.m_bool (by decide +kernel) rfl) pa_nil))))))))) ?_
  rintro ds d ⟨x, rfl, rfl⟩
  obtain ⟨a, b, ha, hb, e⟩ := kb_whole x
  rw [← e]
  exact rt_ret (ev_andV (ev_isi (ev_var rfl) ha) (fun _ => ev_notV (ev_isi (ev_var rfl) hb)))
def R_fr (ds : List Dt) (d : Dt) : Prop := ∃ x : Dt, ds = [x] ∧ d = .bl (isFr x)
theorem h_is_fraction (T : Txt K mg ca fa ka) : Has P w K mg base CX0 2 "is_fraction" ["thing"] (spP K R_fr) := by
  refine T.d_is_fraction.pure sc_is_fraction (fun ds d h => by obtain ⟨x, rfl, _⟩ := h; rfl) (fun f cdv A outer s H E hr => (pss_cons (ps_if (PW.pt (pw_or (pt_not (pt_val (pe_callB (isiK (K := K) rfl) (by rfl) T.m_isinstance (by decide +kernel) (pa_cons (pv 0) (pa_cons (pe_bltn (v := .ty "tuple") (by rfl) T.m_tuple (by decide +kernel) rfl) pa_nil))))) (pw_or1 (pt_cmpR (neK (K := K) rfl hr.units) (pe_callB (lenK (K := K) rfl) (by rfl) T.m_len (by decide +kernel) (pa_cons (pv 0) pa_nil)) pe_int (nomark _))))) (pss_one (ps_ret pe_bl)) pss_nil) (pss_cons (ps_asg (pv 0) (tupK (K := K) (n := 2) rfl rfl (pgs_cons (pg_name (i := 1) sc_is_fraction.nd rfl (Or.inl rfl)) (pgs_cons (pg_name (i := 2) sc_is_fraction.nd rfl (Or.inl rfl)) pgs_nil)))) (pss_one (ps_ret (pe_and (pe_h (h_is_whole T) hr (by decide) pass0 (pa_cons (pv 1) pa_nil)) (pe_and (pe_h (h_is_whole T) hr (by decide) pass0 (pa_cons (pv 2) pa_nil)) (pe_and (pe_cmpR op_gt (pv 2) pe_int (nomark _)) (pe_one (pe_cmpR (eqK (K := K) rfl hr.units) (pe_callBfun cr_gcd (by rfl) T.g_gcd (pa_cons (pv 1) (pa_cons (pv 2) pa_nil))) pe_int (nomark _))))))))))) ?_
  rintro ds d ⟨x, rfl, rfl⟩
  obtain ⟨c, hc, hiff⟩ := kb_tup x
  by_cases h : ∃ ds, x = .tup ds
  · obtain ⟨ds, rfl⟩ := h
    have c1 : c = true := hiff.mpr ⟨ds, rfl⟩
    subst c1
    refine rt_cond (et_or (et_not (et_B (ev_isi (ev_var rfl) hc))) (fun _ => et_test (ev_op (ev_cb (ea_cons (ev_var rfl) ea_nil) rc_lenT) ev_int r2_neI))) (fun hb => ?_) (fun hb => ?_)
    · refine rt_is (rt_ret ev_bl) ?_
      have hl : ds.length ≠ 2 := fun z => by
        rw [z] at hb
        simp at hb
      rw [isFr_len hl]
    · have hl : ds.length = 2 := by
        have : ((ds.length : Int) == 2) = true := by simpa using hb
        have := beq_iff_eq.mp this
        omega
      obtain ⟨a, b, rfl⟩ := two_of hl
      refine rt_seq (nt_unp (ev_var rfl)) ?_
      by_cases ha : isWh a = true
      · obtain ⟨t, rfl⟩ := isWh_iff.mp ha
        by_cases hb2 : isWh b = true
        · obtain ⟨u, rfl⟩ := isWh_iff.mp hb2
          refine rt_is (rt_ret (ev_andV (ev_call (ea_cons (ev_var rfl) ea_nil) (by exact ⟨_, rfl, rfl⟩)) (fun _ => ev_andV (ev_call (ea_cons (ev_var rfl) ea_nil) (by exact ⟨_, rfl, rfl⟩)) (fun _ => ev_andV (ev_op (ev_var rfl) ev_int r2_gt) (fun _ => ev_op (ev_cb (ea_cons (ev_var rfl) (ea_cons (ev_var rfl) ea_nil)) rc_gcd) ev_int r2_eqI))))) ?_
          rfl
        · have e : isFr (.tup [.int t, b]) = false := by
            cases b <;> first | rfl | exact absurd rfl hb2
          have hb3 : isWh b = false := by simpa using hb2
          rw [e]
          exact rt_is (rt_ret (ev_andV (ev_call (ea_cons (ev_var rfl) ea_nil) (by exact ⟨_, rfl, rfl⟩)) (fun _ => ev_andV (b := false) (ev_is (ev_call (ea_cons (ev_var rfl) ea_nil) (by exact ⟨_, rfl, rfl⟩)) (by rw [hb3])) (fun h => by cases h)))) rfl
      · have e : isFr (.tup [a, b]) = false := by
          cases a <;> first | rfl | exact absurd rfl ha
        have ha3 : isWh a = false := by simpa using ha
        rw [e]
        exact rt_is (rt_ret (ev_andV (b := false) (ev_is (ev_call (ea_cons (ev_var rfl) ea_nil) (by exact ⟨_, rfl, rfl⟩)) (by rw [ha3])) (fun h => by cases h))) rfl
  · have c0 : c = false := by
      cases c with
      | false => rfl
      | true => exact absurd (hiff.mp rfl) h
    subst c0
    have e : isFr x = false := by
      cases x <;> first | rfl | exact absurd ⟨_, rfl⟩ h
    rw [e]
    exact rt_cond (b := true) (et_is (et_or (b := true) (et_not (et_B (ev_isi (ev_var rfl) hc))) (fun h => by cases h)) rfl) (fun _ => rt_ret ev_bl) (fun h => by cases h)
def X_fraction (ca : Nat → Addr) (ds : List Dt) (c : Value) : Prop := ∃ t : Int, ds = [.int t, .int 0] ∧ c = .ref (ca 1)
theorem h_fraction (T : Txt K mg ca fa ka) : Has P w K mg base (L2.CX P w) 1 "fraction" ["top", "bottom"] (spX K R_low (X_fraction ca)) := by
  refine T.d_fraction.raises sc_fraction (fun ds d h => by obtain ⟨t, b, rfl, _⟩ := h; rfl) (fun ds d h => by obtain ⟨t, rfl, _⟩ := h; rfl) (fun f cdv A outer s H E hr => (pss_cons (ps_if (pt_cmpR (eqK (K := K) rfl hr.units) (pv 1) pe_int (nomark _)) (pss_one (ps_raise rfl (takes_of rfl rfl rfl rfl) (pmk_own PySem.F.excBase_ValueError T.x_NoFraction.x T.x_NoFraction.g T.x_NoFraction.k (raises_own T.x_NoFraction.b T.x_NoFraction.t) (by exact rfl)))) pss_nil) (pss_cons (ps_set (i := 2) sc_fraction.nd rfl (Or.inl rfl) (pe_callBfun cr_gcd (by rfl) T.g_gcd (pa_cons (pv 0) (pa_cons (pv 1) pa_nil)))) (pss_cons (ps_if (pt_cmpR op_lt (pv 1) pe_int (nomark _)) (pss_one (ps_set (i := 2) sc_fraction.nd rfl (Or.inl rfl) (pe_un un_neg (pv 2)))) pss_nil) (pss_one (ps_ret (pe_tup (pa_cons (pe_op op_fdivA (pv 0) (pv 2)) (pa_cons (pe_op op_fdivA (pv 1) (pv 2)) pa_nil))))))))) ?_ ?_
  · rintro ds d ⟨t, b, rfl, hb0, hb, rfl⟩
    have dk : ∀ i, CDivA i (dvs t b) := fun i => divok (dvs_ne hb0) (bt_dvs hb0 hb) (by decide)
    refine rx_no (by walk_at "et") (beq_eq_false_iff_ne.mpr hb0) (rx_rt ?_)
    refine rt_seq (nt_asg (ev_cb (ea_cons (ev_var rfl) (ea_cons (ev_var rfl) ea_nil)) rc_gcd)) (rt_seq (nt_if (sl2 := [.d (.int t), .d (.int b), .d (.int (dvs t b))]) (et_test (ev_op (ev_var rfl) ev_int r2_lt)) (fun h => ?_) (fun h => ?_)) (rt_is (rt_ret (ev_tup (ea_cons (ev_op (ev_var rfl) (ev_var rfl) (r2_div (dk _))) (ea_cons (ev_op (ev_var rfl) (ev_var rfl) (r2_div (dk _))) ea_nil)))) (low_fq hb0)))
    · refine nt_is (nt_asg (ev_un (ev_var rfl) r1_neg)) ?_
      have e : dvs t b = -((Nat.gcd t.natAbs b.natAbs : Nat) : Int) := if_pos (of_decide_eq_true h)
      rw [e]
      rfl
    · refine nt_is nt_next ?_
      have e : dvs t b = ((Nat.gcd t.natAbs b.natAbs : Nat) : Int) := if_neg (of_decide_eq_false h)
      rw [e]
      rfl
  · rintro ds c ⟨t, rfl, rfl⟩
    exact rx_raise (by walk_at "et") rfl
theorem h_plus (T : Txt K mg ca fa ka) : Has P w K mg base CX0 2 "plus" ["one", "other"] (spP K R_sum) := by
  refine T.d_plus.pure sc_plus (fun ds d h => by obtain ⟨x, y, rfl, _⟩ := h; rfl) (fun f cdv A outer s H E hr => (pss_one (ps_ret (pe_h (h_fraction T) hr (by decide) passL (pa_cons (pe_op op_add (pe_op op_mulA (pe_ix (ixK (K := K) rfl) (pv 0) pe_int (fun _ _ => rfl)) (pe_ix (ixK (K := K) rfl) (pv 1) pe_int (fun _ _ => rfl))) (pe_op op_mulA (pe_ix (ixK (K := K) rfl) (pv 1) pe_int (fun _ _ => rfl)) (pe_ix (ixK (K := K) rfl) (pv 0) pe_int (fun _ _ => rfl)))) (pa_cons (pe_op op_mulA (pe_ix (ixK (K := K) rfl) (pv 0) pe_int (fun _ _ => rfl)) (pe_ix (ixK (K := K) rfl) (pv 1) pe_int (fun _ _ => rfl))) pa_nil)))))) ?_
  rintro ds d ⟨x, y, rfl, bx, by_, rfl⟩
  refine rt_ret (ev_callX (ea_cons (ev_op (ev_op (ev_op (ev_var rfl) ev_int fx0) (ev_op (ev_var rfl) ev_int fx1) (r2_mul (mulok bx.1 by_.2 (by decide)))) (ev_op (ev_op (ev_var rfl) ev_int fx0) (ev_op (ev_var rfl) ev_int fx1) (r2_mul (mulok by_.1 bx.2 (by decide)))) r2_add) (ea_cons (ev_op (ev_op (ev_var rfl) ev_int fx1) (ev_op (ev_var rfl) ev_int fx1) (r2_mul (mulok bx.2 by_.2 (by decide)))) ea_nil)) ⟨_, _, rfl, Int.mul_ne_zero (den_ne x) (den_ne y), (bt_mul bx.2 by_.2).mono (by decide), ?_⟩)
  rw [q_add]
theorem h_less (T : Txt K mg ca fa ka) : Has P w K mg base CX0 2 "less" ["one", "other"] (spP K R_gap) := by
  refine T.d_less.pure sc_less (fun ds d h => by obtain ⟨x, y, rfl, _⟩ := h; rfl) (fun f cdv A outer s H E hr => (pss_one (ps_ret (pe_h (h_fraction T) hr (by decide) passL (pa_cons (pe_op op_sub (pe_op op_mulA (pe_ix (ixK (K := K) rfl) (pv 0) pe_int (fun _ _ => rfl)) (pe_ix (ixK (K := K) rfl) (pv 1) pe_int (fun _ _ => rfl))) (pe_op op_mulA (pe_ix (ixK (K := K) rfl) (pv 1) pe_int (fun _ _ => rfl)) (pe_ix (ixK (K := K) rfl) (pv 0) pe_int (fun _ _ => rfl)))) (pa_cons (pe_op op_mulA (pe_ix (ixK (K := K) rfl) (pv 0) pe_int (fun _ _ => rfl)) (pe_ix (ixK (K := K) rfl) (pv 1) pe_int (fun _ _ => rfl))) pa_nil)))))) ?_
  rintro ds d ⟨x, y, rfl, bx, by_, rfl⟩
  refine rt_ret (ev_callX (ea_cons (ev_op (ev_op (ev_op (ev_var rfl) ev_int fx0) (ev_op (ev_var rfl) ev_int fx1) (r2_mul (mulok bx.1 by_.2 (by decide)))) (ev_op (ev_op (ev_var rfl) ev_int fx0) (ev_op (ev_var rfl) ev_int fx1) (r2_mul (mulok by_.1 bx.2 (by decide)))) r2_sub) (ea_cons (ev_op (ev_op (ev_var rfl) ev_int fx1) (ev_op (ev_var rfl) ev_int fx1) (r2_mul (mulok bx.2 by_.2 (by decide)))) ea_nil)) ⟨_, _, rfl, Int.mul_ne_zero (den_ne x) (den_ne y), (bt_mul bx.2 by_.2).mono (by decide), ?_⟩)
  rw [q_sub]
theorem h_times (T : Txt K mg ca fa ka) : Has P w K mg base CX0 2 "times" ["one", "other"] (spP K R_prod) := by
  refine T.d_times.pure sc_times (fun ds d h => by obtain ⟨x, y, rfl, _⟩ := h; rfl) (fun f cdv A outer s H E hr => (pss_one (ps_ret (pe_h (h_fraction T) hr (by decide) passL (pa_cons (pe_op op_mulA (pe_ix (ixK (K := K) rfl) (pv 0) pe_int (fun _ _ => rfl)) (pe_ix (ixK (K := K) rfl) (pv 1) pe_int (fun _ _ => rfl))) (pa_cons (pe_op op_mulA (pe_ix (ixK (K := K) rfl) (pv 0) pe_int (fun _ _ => rfl)) (pe_ix (ixK (K := K) rfl) (pv 1) pe_int (fun _ _ => rfl))) pa_nil)))))) ?_
  rintro ds d ⟨x, y, rfl, bx, by_, rfl⟩
  refine rt_ret (ev_callX (ea_cons (ev_op (ev_op (ev_var rfl) ev_int fx0) (ev_op (ev_var rfl) ev_int fx0) (r2_mul (mulok bx.1 by_.1 (by decide)))) (ea_cons (ev_op (ev_op (ev_var rfl) ev_int fx1) (ev_op (ev_var rfl) ev_int fx1) (r2_mul (mulok bx.2 by_.2 (by decide)))) ea_nil)) ⟨_, _, rfl, Int.mul_ne_zero (den_ne x) (den_ne y), (bt_mul bx.2 by_.2).mono (by decide), ?_⟩)
  rw [q_mul]
def X_by (ca : Nat → Addr) (ds : List Dt) (c : Value) : Prop := ∃ x : Rat, ds = [fq x, fq 0] ∧ Bq 4400 x ∧ c = .ref (ca 1)
theorem h_by (T : Txt K mg ca fa ka) : Has P w K mg base (L2.CX P w) 2 "by" ["one", "other"] (spX K R_quot (X_by ca)) := by
  refine T.d_by.raises sc_by (fun ds d h => by obtain ⟨x, y, rfl, _⟩ := h; rfl) (fun ds d h => by obtain ⟨t, rfl, _⟩ := h; rfl) (fun f cdv A outer s H E hr => (pss_one (ps_ret (pe_h (h_fraction T) hr (by decide) (passC (takes_of rfl rfl rfl rfl)) (pa_cons (pe_op op_mulA (pe_ix (ixK (K := K) rfl) (pv 0) pe_int (fun _ _ => rfl)) (pe_ix (ixK (K := K) rfl) (pv 1) pe_int (fun _ _ => rfl))) (pa_cons (pe_op op_mulA (pe_ix (ixK (K := K) rfl) (pv 0) pe_int (fun _ _ => rfl)) (pe_ix (ixK (K := K) rfl) (pv 1) pe_int (fun _ _ => rfl))) pa_nil)))))) ?_ ?_
  · rintro ds d ⟨x, y, rfl, bx, by_, y0, rfl⟩
    refine rx_ret (by walk_at "ea") ⟨_, _, rfl, Int.mul_ne_zero (den_ne x) (num_ne.mpr y0), (bt_mul bx.2 by_.1).mono (by decide), ?_⟩
    rw [q_div]
  · rintro ds c ⟨x, rfl, bx, rfl⟩
    have z : Bq 4400 0 := ⟨by show Int.natAbs 0 < 2 ^ 4400; exact Nat.two_pow_pos _, Bt.mono (n := 1) (by show Int.natAbs 1 < 2 ^ 1; decide) (by decide)⟩
    refine rx_retout (by walk_at "ea") ⟨x.num * ((0 : Rat).den : Int), ?_, rfl⟩
    rw [show (0 : Rat).num = 0 from rfl, Int.mul_zero]
theorem h_is_less (T : Txt K mg ca fa ka) : Has P w K mg base CX0 1 "is_less" ["one", "other"] (spP K R_less) := by
  refine T.d_is_less.pure sc_is_less (fun ds d h => by obtain ⟨x, y, rfl, _⟩ := h; rfl) (fun f cdv A outer s H E hr => (pss_one (ps_ret (pe_cmpR op_lt (pe_op op_mulA (pe_ix (ixK (K := K) rfl) (pv 0) pe_int (fun _ _ => rfl)) (pe_ix (ixK (K := K) rfl) (pv 1) pe_int (fun _ _ => rfl))) (pe_op op_mulA (pe_ix (ixK (K := K) rfl) (pv 1) pe_int (fun _ _ => rfl)) (pe_ix (ixK (K := K) rfl) (pv 0) pe_int (fun _ _ => rfl))) (nomark _))))) ?_
  rintro ds d ⟨x, y, rfl, bx, by_, rfl⟩
  refine rt_is (rt_ret (ev_op (ev_op (ev_op (ev_var rfl) ev_int fx0) (ev_op (ev_var rfl) ev_int fx1) (r2_mul (mulok bx.1 by_.2 (by decide)))) (ev_op (ev_op (ev_var rfl) ev_int fx0) (ev_op (ev_var rfl) ev_int fx1) (r2_mul (mulok by_.1 bx.2 (by decide)))) r2_lt)) ?_
  rw [q_lt]
def R_root_of (ds : List Dt) (d : Dt) : Prop := ∃ x : Rat, ds = [fq x] ∧ Bq 4000 x ∧ d = rootD x
theorem h_root_of (T : Txt K mg ca fa ka) : Has P w K mg base CX0 1 "root_of" ["one"] (spP K R_root_of) := by
  refine T.d_root_of.pure sc_root_of (fun ds d h => by obtain ⟨x, rfl, _⟩ := h; rfl) (fun f cdv A outer s H E hr => (pss_cons (ps_if (pt_cmpR op_lt (pe_ix (ixK (K := K) rfl) (pv 0) pe_int (fun _ _ => rfl)) pe_int (nomark _)) (pss_one (ps_ret pe_non)) pss_nil) (pss_cons (ps_set (i := 1) sc_root_of.nd rfl (Or.inl rfl) (pe_callBfun cr_isqrt (by rfl) T.g_isqrt (pa_cons (pe_ix (ixK (K := K) rfl) (pv 0) pe_int (fun _ _ => rfl)) pa_nil))) (pss_cons (ps_set (i := 2) sc_root_of.nd rfl (Or.inl rfl) (pe_callBfun cr_isqrt (by rfl) T.g_isqrt (pa_cons (pe_ix (ixK (K := K) rfl) (pv 0) pe_int (fun _ _ => rfl)) pa_nil))) (pss_cons (ps_if (PW.pt (pw_or (pt_cmpR (neK (K := K) rfl hr.units) (pe_op op_mulA (pv 1) (pv 1)) (pe_ix (ixK (K := K) rfl) (pv 0) pe_int (fun _ _ => rfl)) (nomark _)) (pw_or1 (pt_cmpR (neK (K := K) rfl hr.units) (pe_op op_mulA (pv 2) (pv 2)) (pe_ix (ixK (K := K) rfl) (pv 0) pe_int (fun _ _ => rfl)) (nomark _))))) (pss_one (ps_ret pe_non)) pss_nil) (pss_one (ps_ret (pe_tup (pa_cons (pv 1) (pa_cons (pv 2) pa_nil)))))))))) ?_
  rintro ds d ⟨x, rfl, ⟨bn, bd⟩, rfl⟩
  refine rt_cond (et_test (ev_op (ev_op (ev_var rfl) ev_int fx0) ev_int r2_lt)) (fun hb => ?_) (fun hb => ?_)
  · refine rt_is (rt_ret ev_non) ?_
    unfold rootD
    rw [if_pos (of_decide_eq_true hb)]
  · have h0 : ¬ x.num < 0 := of_decide_eq_false hb
    have hn : ((x.num.toNat : Nat) : Int) = x.num := Int.toNat_of_nonneg (by omega)
    have l1 : x.num.toNat.log2 < 13000 := by
      have := log2_of bn (by decide)
      rw [show x.num.toNat = x.num.natAbs by omega]
      omega
    have l2 : (x.den : Int).toNat.log2 < 13000 := by
      have := log2_of bd (by decide)
      rw [Int.natAbs_natCast] at this
      rw [Int.toNat_natCast]
      omega
    refine rt_seq (nt_asg (ev_cb (ea_cons (ev_op (ev_var rfl) ev_int fx0) ea_nil) (rc_isqrt (by omega) l1))) (rt_seq (nt_asg (ev_cb (ea_cons (ev_op (ev_var rfl) ev_int fx1) ea_nil) (rc_isqrt (by omega) l2))) ?_)
    have b1 : Bt 4000 (sq x.num.toNat : Int) := bt_sq (by rw [hn]; exact bn)
    have b2 : Bt 4000 (sq x.den : Int) := bt_sq bd
    refine rt_cond (et_or (et_test (ev_op (ev_op (ev_var rfl) (ev_var rfl) (r2_mul (mulok b1 b1 (by decide)))) (ev_op (ev_var rfl) ev_int fx0) r2_neI)) (fun _ => et_test (ev_op (ev_op (ev_var rfl) (ev_var rfl) (r2_mul (mulok (by exact b2) (by exact b2) (by decide)))) (ev_op (ev_var rfl) ev_int fx1) r2_neI))) (fun hb => ?_) (fun hb => ?_)
    · refine rt_is (rt_ret ev_non) ?_
      unfold rootD
      rw [if_neg h0, if_neg ?_]
      rintro ⟨e1, e2⟩
      have a1 : (sq x.num.toNat : Int) * (sq x.num.toNat : Int) = x.num := by rw [← Int.natCast_mul, e1, hn]
      have a2 : (sq x.den : Int) * (sq x.den : Int) = (x.den : Int) := by rw [← Int.natCast_mul, e2]
      change (!((sq x.num.toNat : Int) * (sq x.num.toNat : Int) == x.num) || !((sq x.den : Int) * (sq x.den : Int) == (x.den : Int))) = true at hb
      rw [a1, a2] at hb
      simp at hb
    · refine rt_is (rt_ret (ev_tup (ea_cons (ev_var rfl) (ea_cons (ev_var rfl) ea_nil)))) ?_
      change (!((sq x.num.toNat : Int) * (sq x.num.toNat : Int) == x.num) || !((sq x.den : Int) * (sq x.den : Int) == (x.den : Int))) = false at hb
      rw [Bool.or_eq_false_iff, Bool.not_eq_false', Bool.not_eq_false', beq_iff_eq, beq_iff_eq] at hb
      unfold rootD
      rw [if_neg h0, if_pos]
      · rfl
      · refine ⟨?_, ?_⟩
        · have := hb.1
          rw [← Int.natCast_mul] at this
          omega
        · have := hb.2
          rw [← Int.natCast_mul] at this
          omega
def R_hp (ds : List Dt) (d : Dt) : Prop := ∃ x : Dt, ds = [x] ∧ d = .bl (isHp x)
theorem h_is_hap (T : Txt K mg ca fa ka) : Has P w K mg base CX0 3 "is_hap" ["thing"] (spP K R_hp) := by
  refine T.d_is_hap.pure sc_is_hap (fun ds d h => by obtain ⟨x, rfl, _⟩ := h; rfl) (fun f cdv A outer s H E hr => (pss_one (ps_ret (pe_and (pe_callB (isiK (K := K) rfl) (by rfl) T.m_isinstance (by decide +kernel) (pa_cons (pv 0) (pa_cons (pe_bltn (v := .ty "tuple") (by rfl) T.m_tuple (by decide +kernel) rfl) pa_nil))) (pe_and (pe_cmpR (eqK (K := K) rfl hr.units) (pe_callB (lenK (K := K) rfl) (by rfl) T.m_len (by decide +kernel) (pa_cons (pv 0) pa_nil)) pe_int (nomark _)) (pe_and (pe_h (h_is_fraction T) hr (by decide) pass0 (pa_cons (pe_ix (ixK (K := K) rfl) (pv 0) pe_int (fun _ _ => rfl)) pa_nil)) (pe_one (pe_h (h_is_fraction T) hr (by decide) pass0 (pa_cons (pe_ix (ixK (K := K) rfl) (pv 0) pe_int (fun _ _ => rfl)) pa_nil))))))))) ?_
  rintro ds d ⟨x, rfl, rfl⟩
  obtain ⟨c, hc, hiff⟩ := kb_tup x
  by_cases h : ∃ ds, x = .tup ds
  · obtain ⟨ds, rfl⟩ := h
    have c1 : c = true := hiff.mpr ⟨ds, rfl⟩
    subst c1
    by_cases hl : ds.length = 2
    · obtain ⟨a, b, rfl⟩ := two_of hl
      exact rt_is (rt_ret (ev_andV (ev_isi (ev_var rfl) hc) (fun _ => ev_andV (ev_op (ev_cb (ea_cons (ev_var rfl) ea_nil) rc_lenT) ev_int r2_eqI) (fun _ => ev_andV (ev_call (ea_cons (ev_op (ev_var rfl) ev_int ix0) ea_nil) (by exact ⟨_, rfl, rfl⟩)) (fun _ => ev_call (ea_cons (ev_op (ev_var rfl) ev_int ix1) ea_nil) (by exact ⟨_, rfl, rfl⟩)))))) rfl
    · rw [isHp_len hl]
      exact rt_is (rt_ret (ev_andV (ev_isi (ev_var rfl) hc) (fun _ => ev_andV (a := false) (b := false) (ev_is (ev_op (ev_cb (ea_cons (ev_var rfl) ea_nil) rc_lenT) ev_int r2_eqI) (by rw [beq_eq_false_iff_ne.mpr (show ¬ (ds.length : Int) = 2 by omega)])) (fun h => by cases h)))) rfl
  · have c0 : c = false := by
      cases c with
      | false => rfl
      | true => exact absurd (hiff.mp rfl) h
    subst c0
    have e : isHp x = false := by
      cases x <;> first | rfl | exact absurd ⟨_, rfl⟩ h
    rw [e]
    exact rt_is (rt_ret (ev_andV (b := false) (ev_isi (ev_var rfl) hc) (fun h => by cases h))) rfl
def R_is_speed (ds : List Dt) (d : Dt) : Prop := ∃ x : Dt, ds = [x] ∧ d = .bl (isSpD x)
theorem h_is_speed (T : Txt K mg ca fa ka) : Has P w K mg base CX0 3 "is_speed" ["thing"] (spP K R_is_speed) := by
  refine T.d_is_speed.pure sc_is_speed (fun ds d h => by obtain ⟨x, rfl, _⟩ := h; rfl) (fun f cdv A outer s H E hr => (pss_one (ps_ret (pe_and (pe_h (h_is_fraction T) hr (by decide) pass0 (pa_cons (pv 0) pa_nil)) (pe_one (pe_cmpR op_lt (pe_callB cr_abs (by rfl) T.m_abs (by decide +kernel) (pa_cons (pe_ix (ixK (K := K) rfl) (pv 0) pe_int (fun _ _ => rfl)) pa_nil)) (pe_ix (ixK (K := K) rfl) (pv 0) pe_int (fun _ _ => rfl)) (nomark _))))))) ?_
  rintro ds d ⟨x, rfl, rfl⟩
  refine rt_is (rt_ret (ev_andV (b := isSpD x) (ev_call (ea_cons (ev_var rfl) ea_nil) (by exact ⟨x, rfl, rfl⟩)) (fun h => ?_))) ?_
  · obtain ⟨q, rfl⟩ := isFr_iff.mp h
    refine ev_is (ev_op (ev_cb (ea_cons (ev_op (ev_var rfl) ev_int fx0) ea_nil) rc_abs) (ev_op (ev_var rfl) ev_int fx1) r2_lt) ?_
    rw [isSpD_fq]
  · rw [← isSpD_and]
def X_chk (ca : Nat → Addr) (ds : List Dt) (c : Value) : Prop := ∃ x : Dt, ds = [x] ∧ isSpD x = false ∧ c = .ref (ca 4)
def R_chk (ds : List Dt) (d : Dt) : Prop := ∃ x : Dt, ds = [x] ∧ isSpD x = true ∧ d = .non
def X_sp (ca : Nat → Addr) (ds : List Dt) (c : Value) : Prop := ∃ x y : Dt, ds = [x, y] ∧ (isSpD x && isSpD y) = false ∧ c = .ref (ca 4)
theorem h_check_speed (T : Txt K mg ca fa ka) : Has P w K mg base (L2.CX P w) 4 "check_speed" ["thing"] (spX K R_chk (X_chk ca)) := by
  refine T.d_check_speed.raises sc_check_speed (fun ds d h => by obtain ⟨t, rfl, _⟩ := h; rfl) (fun ds d h => by obtain ⟨t, rfl, _⟩ := h; rfl) (fun f cdv A outer s H E hr => (pss_one (ps_if (pt_not (pt_val (pe_h (h_is_speed T) hr (by decide) pass0 (pa_cons (pv 0) pa_nil)))) (pss_one (ps_raise rfl (takes_of rfl rfl rfl rfl) (pmk_own PySem.F.excBase_ValueError T.x_NoSpeed.x T.x_NoSpeed.g T.x_NoSpeed.k (raises_own T.x_NoSpeed.b T.x_NoSpeed.t) (by exact rfl)))) pss_nil))) ?_ ?_
  · rintro ds d ⟨x, rfl, h, rfl⟩
    exact rx_no1 (et_not (et_B (ev_call (ea_cons (ev_var rfl) ea_nil) (by exact ⟨x, rfl, rfl⟩)))) (by rw [h]; rfl)
  · rintro ds c ⟨x, rfl, h, rfl⟩
    exact rx_raise1 (et_not (et_B (ev_call (ea_cons (ev_var rfl) ea_nil) (by exact ⟨x, rfl, rfl⟩)))) (by rw [h]; rfl)
theorem h_together (T : Txt K mg ca fa ka) : Has P w K mg base (L2.CX P w) 5 "together" ["one", "other"] (spX K R_tog (X_sp ca)) := by
  refine T.d_together.raises sc_together (fun ds d h => by obtain ⟨x, y, rfl, _⟩ := h; rfl) (fun ds d h => by obtain ⟨x, y, rfl, _⟩ := h; rfl) (fun f cdv A outer s H E hr => (pss_cons (ps_expr (pe_h (h_check_speed T) hr (by decide) (passC (takes_of rfl rfl rfl rfl)) (pa_cons (pv 0) pa_nil))) (pss_cons (ps_expr (pe_h (h_check_speed T) hr (by decide) (passC (takes_of rfl rfl rfl rfl)) (pa_cons (pv 1) pa_nil))) (pss_one (ps_ret (pe_h (h_by T) hr (by decide) (passC (takes_of rfl rfl rfl rfl)) (pa_cons (pe_h (h_plus T) hr (by decide) pass0 (pa_cons (pv 0) (pa_cons (pv 1) pa_nil))) (pa_cons (pe_h (h_plus T) hr (by decide) pass0 (pa_cons (pe_glob (v := .ref (ka 4)) (by rfl) T.v_ONE rfl) (pa_cons (pe_h (h_times T) hr (by decide) pass0 (pa_cons (pv 0) (pa_cons (pv 1) pa_nil))) pa_nil))) pa_nil)))))))) ?_ ?_
  · rintro ds d ⟨x, y, rfl, sx, sy, ⟨n, m, bx, by_, hnm⟩, rfl⟩
    have bx4 : Bq 4400 x := bx.mono (by omega)
    have by4 : Bq 4400 y := by_.mono (by omega)
    have bs : Bq 4400 (x + y) := (bq_add bx by_).mono (by omega)
    have bp : Bq 4400 (x * y) := (bq_mul bx by_).mono (by omega)
    have bq : Bq 4400 (1 + x * y) := (bq_add bq_one (bq_mul bx by_)).mono (by omega)
    clear bx by_
    have n0 := sp_ne sx sy
    rw [jn_def]
    refine rx_ok (by walk_at "ea") ⟨_, rfl, isSpD_of sx, rfl⟩ (rx_ok (by walk_at "ea") ⟨_, rfl, isSpD_of sy, rfl⟩ (rx_ret (ea_cons (by walk_at "ev") (ea_cons (by walk_at "ev") ea_nil)) (quot_ok bs bq n0)))
  · rintro ds c ⟨x, y, rfl, h, rfl⟩
    by_cases hx : isSpD x = true
    · refine rx_ok (by walk_at "ea") ⟨_, rfl, hx, rfl⟩ (rx_out (by walk_at "ea") ⟨_, rfl, ?_, rfl⟩)
      rw [hx] at h
      exact h
    · exact rx_out (by walk_at "ea") ⟨_, rfl, by simpa using hx, rfl⟩
def R_beatN (ds : List Dt) (d : Dt) : Prop := ∃ x : Rat, ds = [fq x] ∧ Bq 1990 x ∧ d = beatD x
theorem h_beat_or_none (T : Txt K mg ca fa ka) : Has P w K mg base CX0 3 "beat_or_none" ["speed"] (spP K R_beatN) := by
  refine T.d_beat_or_none.pure sc_beat_or_none (fun ds d h => by obtain ⟨x, rfl, _⟩ := h; rfl) (fun f cdv A outer s H E hr => (pss_one (ps_ret (pe_h (h_root_of T) hr (by decide) pass0 (pa_cons (pe_h (h_less T) hr (by decide) pass0 (pa_cons (pe_glob (v := .ref (ka 4)) (by rfl) T.v_ONE rfl) (pa_cons (pe_h (h_times T) hr (by decide) pass0 (pa_cons (pv 0) (pa_cons (pv 0) pa_nil))) pa_nil))) pa_nil))))) ?_
  rintro ds d ⟨x, rfl, bx, rfl⟩
  have e1 : (Dt.tup [.int 1, .int 1]) = fq 1 := rfl
  exact rt_ret (ev_call (ea_cons (ev_call (ea_cons (ev_ONE T) (ea_cons (ev_call (by walk_at "ea") (by walk_at "rok")) ea_nil)) (by walk_at "rok")) ea_nil) (by exact ⟨_, rfl, (bq_low bx).mono (by decide), rfl⟩))
def R_is_plain (ds : List Dt) (d : Dt) : Prop := ∃ x : Rat, ds = [fq x] ∧ Sp x ∧ Bq 1000 x ∧ d = .bl (!isNon (beatD x))
def X_is_plain (ca : Nat → Addr) (ds : List Dt) (c : Value) : Prop := ∃ a : Dt, ds = [a] ∧ isSpD a = false ∧ c = .ref (ca 4)
theorem h_is_plain (T : Txt K mg ca fa ka) : Has P w K mg base (L2.CX P w) 5 "is_plain" ["speed"] (spX K R_is_plain (X_is_plain ca)) := by
  refine T.d_is_plain.raises sc_is_plain (fun ds d h => by obtain ⟨x, rfl, _⟩ := h; rfl) (fun ds d h => by obtain ⟨x, rfl, _⟩ := h; rfl) (fun f cdv A outer s H E hr => (pss_cons (ps_expr (pe_h (h_check_speed T) hr (by decide) (passC (takes_of rfl rfl rfl rfl)) (pa_cons (pv 0) pa_nil))) (pss_one (ps_ret (pe_cmpR op_notN1 (pe_h (h_beat_or_none T) hr (by decide) pass0 (pa_cons (pv 0) pa_nil)) pe_non (nomark _)))))) ?_ ?_
  · rintro ds d ⟨x, rfl, sx, bx, rfl⟩
    exact rx_ok (by walk_at "ea") ⟨_, rfl, isSpD_of sx, rfl⟩ (rx_rt (rt_ret (ev_op (ev_call (by walk_at "ea") (by exact ⟨x, rfl, bx.mono (by decide), rfl⟩)) ev_non r2_notN)))
  · rintro ds c ⟨a, rfl, h, rfl⟩
    exact rx_out (by walk_at "ea") ⟨_, rfl, h, rfl⟩
def R_chkp (ds : List Dt) (d : Dt) : Prop := ∃ x b : Rat, ds = [fq x] ∧ Sp x ∧ Bq 1000 x ∧ 0 < b ∧ b * b = 1 - x * x ∧ d = .non
def X_beat_of (ca : Nat → Addr) (ds : List Dt) (c : Value) : Prop := ∃ a : Dt, ds = [a] ∧ ((isSpD a = false ∧ c = .ref (ca 4)) ∨ (∃ x : Rat, a = fq x ∧ Sp x ∧ Bq 1000 x ∧ beatD x = .non ∧ c = .ref (ca 6)))
theorem h_check_plain (T : Txt K mg ca fa ka) : Has P w K mg base (L2.CX P w) 6 "check_plain" ["speed"] (spX K R_chkp (X_beat_of ca)) := by
  refine T.d_check_plain.raises sc_check_plain (fun ds d h => by obtain ⟨x, b, rfl, _⟩ := h; rfl) (fun ds d h => by obtain ⟨x, rfl, _⟩ := h; rfl) (fun f cdv A outer s H E hr => (pss_one (ps_if (pt_not (pt_val (pe_h (h_is_plain T) hr (by decide) (passC (takes_of rfl rfl rfl rfl)) (pa_cons (pv 0) pa_nil)))) (pss_one (ps_raise rfl (takes_of rfl rfl rfl rfl) (pmk_own PySem.F.excBase_ValueError T.x_NotPlain.x T.x_NotPlain.g T.x_NotPlain.k (raises_own T.x_NotPlain.b T.x_NotPlain.t) (by exact rfl)))) pss_nil))) ?_ ?_
  · rintro ds d ⟨x, b, rfl, sx, bx, b0, e, rfl⟩
    exact rx_no1E (fun E => et_not (et_B (ev_callX (by walk_at "ea") (by exact ⟨x, rfl, sx, bx, rfl⟩)))) (by rw [beatD_of b0 e]; rfl)
  · rintro ds c ⟨a, rfl, ⟨h, rfl⟩ | ⟨x, rfl, sx, bx, h, rfl⟩⟩
    · exact rx_if1X (evxt_notB (evx_call (fun E => by walk_at "ea") (by exact ⟨_, rfl, h, rfl⟩)))
    · exact rx_raise1E (fun E => et_not (et_B (ev_callX (by walk_at "ea") (by exact ⟨x, rfl, sx, bx, rfl⟩)))) (by rw [h]; rfl)
def R_beat_of (ds : List Dt) (d : Dt) : Prop := ∃ x b : Rat, ds = [fq x] ∧ Sp x ∧ Bq 1000 x ∧ 0 < b ∧ b * b = 1 - x * x ∧ d = fq b
theorem h_beat_of (T : Txt K mg ca fa ka) : Has P w K mg base (L2.CX P w) 7 "beat_of" ["speed"] (spX K R_beat_of (X_beat_of ca)) := by
  refine T.d_beat_of.raises sc_beat_of (fun ds d h => by obtain ⟨x, b, rfl, _⟩ := h; rfl) (fun ds d h => by obtain ⟨x, rfl, _⟩ := h; rfl) (fun f cdv A outer s H E hr => (pss_cons (ps_expr (pe_h (h_check_plain T) hr (by decide) (passC (takes_of rfl rfl rfl rfl)) (pa_cons (pv 0) pa_nil))) (pss_one (ps_ret (pe_h (h_beat_or_none T) hr (by decide) pass0 (pa_cons (pv 0) pa_nil)))))) ?_ ?_
  · rintro ds d ⟨x, b, rfl, sx, bx, b0, e, rfl⟩
    exact rx_ok (by walk_at "ea") ⟨x, b, rfl, sx, bx, b0, e, rfl⟩ (rx_rt (rt_is (rt_ret (ev_call (by walk_at "ea") (by exact ⟨x, rfl, bx.mono (by decide), rfl⟩))) (beatD_of b0 e)))
  · rintro ds c ⟨a, rfl, h⟩
    exact rx_out (by walk_at "ea") ⟨a, rfl, h⟩
theorem h_lapse_and_gap (T : Txt K mg ca fa ka) : Has P w K mg base CX0 3 "lapse_and_gap" ["one", "other"] (spP K R_lag) := by
  have j0 : ∀ {t p : Rat}, R2D K (rIx K) (hapD t p) (.int 0) (fq t) := ix0
  have j1 : ∀ {t p : Rat}, R2D K (rIx K) (hapD t p) (.int 1) (fq p) := ix1
  refine T.d_lapse_and_gap.pure sc_lapse_and_gap (fun ds d h => by obtain ⟨_, _, _, _, rfl, _⟩ := h; rfl) (fun f cdv A outer s H E hr => (pss_one (ps_ret (pe_tup (pa_cons (pe_h (h_less T) hr (by decide) pass0 (pa_cons (pe_ix (ixK (K := K) rfl) (pv 1) pe_int (fun _ _ => rfl)) (pa_cons (pe_ix (ixK (K := K) rfl) (pv 0) pe_int (fun _ _ => rfl)) pa_nil))) (pa_cons (pe_h (h_less T) hr (by decide) pass0 (pa_cons (pe_ix (ixK (K := K) rfl) (pv 1) pe_int (fun _ _ => rfl)) (pa_cons (pe_ix (ixK (K := K) rfl) (pv 0) pe_int (fun _ _ => rfl)) pa_nil))) pa_nil)))))) ?_
  rintro ds d ⟨a, b, c, e, rfl, ba, bb, bc, be, rfl⟩
  exact rt_ret (ev_tup (ea_cons (ev_call (ea_cons (ev_op (ev_var rfl) ev_int j0) (ea_cons (ev_op (ev_var rfl) ev_int j0) ea_nil)) (by exact gap_ok (bc.mono (by decide)) (ba.mono (by decide)))) (ea_cons (ev_call (ea_cons (ev_op (ev_var rfl) ev_int j1) (ea_cons (ev_op (ev_var rfl) ev_int j1) ea_nil)) (by exact gap_ok (be.mono (by decide)) (bb.mono (by decide)))) ea_nil)) (by exact Nat.le_of_ble_eq_true rfl))
theorem h_kind_of (T : Txt K mg ca fa ka) : Has P w K mg base CX0 4 "kind_of" ["one", "other"] (spP K R_kind) := by
  have j0 : ∀ {t p : Rat}, R2D K (rIx K) (hapD t p) (.int 0) (fq t) := ix0
  have j1 : ∀ {t p : Rat}, R2D K (rIx K) (hapD t p) (.int 1) (fq p) := ix1
  refine T.d_kind_of.pure sc_kind_of (fun ds d h => by obtain ⟨_, _, _, _, rfl, _⟩ := h; rfl) (fun f cdv A outer s H E hr => (pss_cons (ps_if (pt_cmpR (eqK (K := K) rfl hr.units) (pv 0) (pv 1) (nomark _)) (pss_one (ps_ret pe_str)) pss_nil) (pss_cons (ps_asg (pe_h (h_lapse_and_gap T) hr (by decide) pass0 (pa_cons (pv 0) (pa_cons (pv 1) pa_nil))) (tupK (K := K) (n := 2) rfl rfl (pgs_cons (pg_name (i := 2) sc_kind_of.nd rfl (Or.inl rfl)) (pgs_cons (pg_name (i := 3) sc_kind_of.nd rfl (Or.inl rfl)) pgs_nil)))) (pss_cons (ps_set (i := 4) sc_kind_of.nd rfl (Or.inl rfl) (pe_tup (pa_cons (pe_callB cr_abs (by rfl) T.m_abs (by decide +kernel) (pa_cons (pe_ix (ixK (K := K) rfl) (pv 3) pe_int (fun _ _ => rfl)) pa_nil)) (pa_cons (pe_ix (ixK (K := K) rfl) (pv 3) pe_int (fun _ _ => rfl)) pa_nil)))) (pss_cons (ps_if (pt_not (pt_val (pe_h (h_is_less T) hr (by decide) pass0 (pa_cons (pv 2) (pa_cons (pv 4) pa_nil))))) (pss_one (ps_ret pe_str)) pss_nil) (pss_cons (ps_if (pt_not (pt_val (pe_h (h_is_less T) hr (by decide) pass0 (pa_cons (pe_h (h_less T) hr (by decide) pass0 (pa_cons (pe_glob (v := .ref (ka 3)) (by rfl) T.v_NOUGHT rfl) (pa_cons (pv 2) pa_nil))) (pa_cons (pv 4) pa_nil))))) (pss_one (ps_ret pe_str)) pss_nil) (pss_one (ps_ret pe_str)))))))) ?_
  rintro ds d ⟨a, b, c, e, rfl, ba, bb, bc, be, rfl⟩
  have q1 : Bq 2001 (c - a) := bq_sub bc ba
  have q2 : Bq 2001 (e - b) := bq_sub be bb
  have lg : R_lag [hapD a b, hapD c e] (hapD (c - a) (e - b)) := ⟨a, b, c, e, rfl, ba, bb, bc, be, rfl⟩
  refine rt_cond (et_test (ev_op (ev_var rfl) (ev_var rfl) (by exact r2_eqH))) (fun h => ?_) (fun h => ?_)
  · obtain ⟨rfl, rfl⟩ := of_decide_eq_true h
    exact rt_is (rt_ret ev_str) (by unfold wordS; rw [if_pos ⟨by grind, by grind⟩])
  · have h0 : ¬ (c - a = 0 ∧ e - b = 0) := fun z => of_decide_eq_false h ⟨by grind, by grind⟩
    refine rt_seq (nt_unp (ev_call (by walk_at "ea") lg)) ?_
    generalize c - a = l at *
    generalize e - b = g at *
    have q3 := bq_abs q2
    refine rt_seq (nt_asg (ev_is (ev_tup (ea_cons (ev_cb (ea_cons (ev_op (ev_var rfl) ev_int (by exact fx0)) ea_nil) rc_abs) (ea_cons (ev_op (ev_var rfl) ev_int (by exact fx1)) ea_nil))) (fq_abs g).symm)) ?_
    refine rt_cond (et_not (et_B (ev_call (by walk_at "ea") (by exact less_ok (q1.mono (by decide)) (q3.mono (by decide)))))) (fun h1 => ?_) (fun h1 => ?_)
    · have h2 : ¬ l < g.abs := by simpa using h1
      exact rt_is (rt_ret ev_str) (by unfold wordS; rw [if_neg h0, if_pos h2])
    · have h2 : l < g.abs := by simpa using h1
      have en : (0 : Rat) - l = -l := by grind
      have qn := bq_neg q1
      have ln : EvA K (tCons (tCall (spP K R_gap) [] E0 (tCons (tC (.ref (ka 3))) (tCons (tVar 2) tNil))) (tCons (tVar 4) tNil)) [.d (hapD a b), .d (hapD c e), .d (fq l), .d (fq g), .d (fq g.abs)] [fq (-l), fq g.abs] := ea_cons (ev_is (ev_call (ea_cons (ev_NOUGHT T) (by walk_at "ea")) (by exact gap_ok (bq_zero.mono (by decide)) (q1.mono (by decide)))) (congrArg fq en)) (by walk_at "ea")
      refine rt_cond (et_not (et_B (ev_call ln (by exact less_ok (qn.mono (by decide)) (q3.mono (by decide)))))) (fun h3 => ?_) (fun h3 => ?_)
      · have h4 : ¬ -l < g.abs := by simpa using h3
        exact rt_is (rt_ret ev_str) (by unfold wordS; rw [if_neg h0, if_neg (not_not_intro h2), if_pos h4])
      · have h4 : -l < g.abs := by simpa using h3
        exact rt_is (rt_ret ev_str) (by unfold wordS; rw [if_neg h0, if_neg (not_not_intro h2), if_neg (not_not_intro h4)])
def R_is_seat (ds : List Dt) (d : Dt) : Prop := ∃ x : Dt, ds = [x] ∧ SzS x ∧ d = .bl (isSeatD x)
theorem h_is_seat (T : Txt K mg ca fa ka) : Has P w K mg base CX0 6 "is_seat" ["thing"] (spP K R_is_seat) := by
  refine T.d_is_seat.pure sc_is_seat (fun ds d h => by obtain ⟨x, rfl, _⟩ := h; rfl) (fun f cdv A outer s H E hr => (pss_cons (ps_if (PW.pt (pw_or (pt_not (pt_val (pe_callB (isiK (K := K) rfl) (by rfl) T.m_isinstance (by decide +kernel) (pa_cons (pv 0) (pa_cons (pe_bltn (v := .ty "tuple") (by rfl) T.m_tuple (by decide +kernel) rfl) pa_nil))))) (pw_or1 (pt_cmpR (neK (K := K) rfl hr.units) (pe_callB (lenK (K := K) rfl) (by rfl) T.m_len (by decide +kernel) (pa_cons (pv 0) pa_nil)) pe_int (nomark _))))) (pss_one (ps_ret pe_bl)) pss_nil) (pss_cons (ps_asg (pv 0) (tupK (K := K) (n := 2) rfl rfl (pgs_cons (pg_name (i := 1) sc_is_seat.nd rfl (Or.inl rfl)) (pgs_cons (pg_name (i := 2) sc_is_seat.nd rfl (Or.inl rfl)) pgs_nil)))) (pss_one (ps_ret (pe_and (pe_h (h_is_speed T) hr (by decide) pass0 (pa_cons (pv 1) pa_nil)) (pe_and (pe_h (h_is_plain T) hr (by decide) passL (pa_cons (pv 1) pa_nil)) (pe_one (pe_h (h_is_hap T) hr (by decide) pass0 (pa_cons (pv 2) pa_nil)))))))))) ?_
  rintro ds d ⟨x, rfl, hsz, rfl⟩
  obtain ⟨c, hc, hiff⟩ := kb_tup x
  by_cases h : ∃ ds, x = .tup ds
  · obtain ⟨ds, rfl⟩ := h
    have c1 : c = true := hiff.mpr ⟨ds, rfl⟩
    subst c1
    by_cases hl : ds.length = 2
    · obtain ⟨a, b, rfl⟩ := two_of hl
      obtain ⟨_, _, hq⟩ := hsz a b rfl
      refine rt_no (et_or (et_not (et_B (ev_isi (ev_var rfl) hc))) (fun _ => by walk_at "et")) rfl (rt_seq (nt_unp (ev_var rfl)) ?_)
      refine rt_is (rt_ret (ev_andV (ev_call (by walk_at "ea") (by exact ⟨a, rfl, rfl⟩)) (fun ha => ev_andV (a := beatB a) (b := isHp b) ?_ (fun _ => ev_call (by walk_at "ea") (by exact ⟨b, rfl, rfl⟩))))) (by show Dt.bl _ = Dt.bl (isSpD a && beatB a && isHp b); rw [Bool.and_assoc])
      obtain ⟨q, sq', rfl⟩ := isSpD_iff.mp ha
      exact ev_is (ev_callX (by walk_at "ea") (by exact ⟨q, rfl, sq', hq q rfl, rfl⟩)) (by rw [beatB_fq])
    · refine rt_yes (et_or (et_not (et_B (ev_isi (ev_var rfl) hc))) (fun _ => by walk_at "et")) (by rw [beq_eq_false_iff_ne.mpr (show ¬ (ds.length : Int) = 2 by omega)]; rfl) ?_
      exact rt_is (rt_ret ev_bl) (by rw [isSeatD_len hl])
  · have c0 : c = false := by
      cases c with
      | false => rfl
      | true => exact absurd (hiff.mp rfl) h
    subst c0
    exact rt_yes (et_or (b := true) (et_not (et_B (ev_isi (ev_var rfl) hc))) (fun h => by cases h)) rfl (rt_is (rt_ret ev_bl) (by rw [isSeatD_no h]))
def R_check_seat (ds : List Dt) (d : Dt) : Prop := ∃ x : Dt, ds = [x] ∧ SzS x ∧ isSeatD x = true ∧ d = .non
def X_check_seat (ca : Nat → Addr) (ds : List Dt) (c : Value) : Prop := ∃ x : Dt, ds = [x] ∧ SzS x ∧ isSeatD x = false ∧ c = .ref (ca 12)
theorem h_check_seat (T : Txt K mg ca fa ka) : Has P w K mg base (L2.CX P w) 7 "check_seat" ["thing"] (spX K R_check_seat (X_check_seat ca)) := by
  refine T.d_check_seat.raises sc_check_seat (fun ds d h => by obtain ⟨t, rfl, _⟩ := h; rfl) (fun ds d h => by obtain ⟨t, rfl, _⟩ := h; rfl) (fun f cdv A outer s H E hr => (pss_one (ps_if (pt_not (pt_val (pe_h (h_is_seat T) hr (by decide) pass0 (pa_cons (pv 0) pa_nil)))) (pss_one (ps_raise rfl (takes_of rfl rfl rfl rfl) (pmk_own PySem.F.excBase_ValueError T.x_NoSeat.x T.x_NoSeat.g T.x_NoSeat.k (raises_own T.x_NoSeat.b T.x_NoSeat.t) (by exact rfl)))) pss_nil))) ?_ ?_
  · rintro ds d ⟨x, rfl, hz, h, rfl⟩
    exact rx_no1 (et_not (et_B (ev_call (ea_cons (ev_var rfl) ea_nil) (by exact ⟨x, rfl, hz, rfl⟩)))) (by rw [h]; rfl)
  · rintro ds c ⟨x, rfl, hz, h, rfl⟩
    exact rx_raise1 (et_not (et_B (ev_call (ea_cons (ev_var rfl) ea_nil) (by exact ⟨x, rfl, hz, rfl⟩)))) (by rw [h]; rfl)
def R_check_hap (ds : List Dt) (d : Dt) : Prop := ∃ x : Dt, ds = [x] ∧ True ∧ isHp x = true ∧ d = .non
def X_check_hap (ca : Nat → Addr) (ds : List Dt) (c : Value) : Prop := ∃ x : Dt, ds = [x] ∧ True ∧ isHp x = false ∧ c = .ref (ca 2)
theorem h_check_hap (T : Txt K mg ca fa ka) : Has P w K mg base (L2.CX P w) 4 "check_hap" ["thing"] (spX K R_check_hap (X_check_hap ca)) := by
  refine T.d_check_hap.raises sc_check_hap (fun ds d h => by obtain ⟨t, rfl, _⟩ := h; rfl) (fun ds d h => by obtain ⟨t, rfl, _⟩ := h; rfl) (fun f cdv A outer s H E hr => (pss_one (ps_if (pt_not (pt_val (pe_h (h_is_hap T) hr (by decide) pass0 (pa_cons (pv 0) pa_nil)))) (pss_one (ps_raise rfl (takes_of rfl rfl rfl rfl) (pmk_own PySem.F.excBase_ValueError T.x_NoHap.x T.x_NoHap.g T.x_NoHap.k (raises_own T.x_NoHap.b T.x_NoHap.t) (by exact rfl)))) pss_nil))) ?_ ?_
  · rintro ds d ⟨x, rfl, hz, h, rfl⟩
    exact rx_no1 (et_not (et_B (ev_call (ea_cons (ev_var rfl) ea_nil) (by exact ⟨x, rfl, rfl⟩)))) (by rw [h]; rfl)
  · rintro ds c ⟨x, rfl, hz, h, rfl⟩
    exact rx_raise1 (et_not (et_B (ev_call (ea_cons (ev_var rfl) ea_nil) (by exact ⟨x, rfl, rfl⟩)))) (by rw [h]; rfl)
theorem h_seen_from (T : Txt K mg ca fa ka) : Has P w K mg base CX0 8 "seen_from" ["speed", "lapse", "gap"] (spP K R_seen) := by
  refine T.d_seen_from.pure sc_seen_from (fun ds d h => by obtain ⟨v, b, l, g, rfl, _⟩ := h; rfl) (fun f cdv A outer s H E hr => (pss_cons (ps_set (i := 3) sc_seen_from.nd rfl (Or.inl rfl) (pe_h (h_beat_of T) hr (by decide) passL (pa_cons (pv 0) pa_nil))) (pss_cons (ps_set (i := 4) sc_seen_from.nd rfl (Or.inl rfl) (pe_h (h_by T) hr (by decide) passL (pa_cons (pe_h (h_less T) hr (by decide) pass0 (pa_cons (pv 1) (pa_cons (pe_h (h_times T) hr (by decide) pass0 (pa_cons (pv 0) (pa_cons (pv 2) pa_nil))) pa_nil))) (pa_cons (pv 3) pa_nil)))) (pss_cons (ps_set (i := 5) sc_seen_from.nd rfl (Or.inl rfl) (pe_h (h_by T) hr (by decide) passL (pa_cons (pe_h (h_less T) hr (by decide) pass0 (pa_cons (pv 2) (pa_cons (pe_h (h_times T) hr (by decide) pass0 (pa_cons (pv 0) (pa_cons (pv 1) pa_nil))) pa_nil))) (pa_cons (pv 3) pa_nil)))) (pss_one (ps_ret (pe_tup (pa_cons (pv 4) (pa_cons (pv 5) pa_nil))))))))) ?_
  rintro ds d ⟨v, b, l, g, rfl, hp, bv, bl, bg, rfl⟩
  have bb : Bq 802 b := hp.bq bv
  have b0 := hp.ne
  refine rt_seq (nt_asg (ev_callX (by walk_at "ea") (by exact ⟨v, b, rfl, hp.s, bv.mono (by decide), hp.p, hp.e, rfl⟩))) ?_
  exact rt_seq (nt_asg (by walk_at "ev")) (rt_seq (nt_asg (by walk_at "ev")) (rt_ret (by walk_at "ev")))
def X_told_from (ca : Nat → Addr) (ds : List Dt) (c : Value) : Prop := ∃ a h : Dt, ds = [a, h] ∧ SzS a ∧ ((isSeatD a = false ∧ c = .ref (ca 12)) ∨ (isSeatD a = true ∧ isHp h = false ∧ c = .ref (ca 2)))
theorem h_told_from (T : Txt K mg ca fa ka) : Has P w K mg base (L2.CX P w) 9 "told_from" ["seat", "hap"] (spX K R_toldS (X_told_from ca)) := by
  refine T.d_told_from.raises sc_told_from (fun ds d h => by obtain ⟨_, _, _, _, _, _, rfl, _⟩ := h; rfl) (fun ds d h => by obtain ⟨t, h, rfl, _⟩ := h; rfl) (fun f cdv A outer s H E hr => (pss_cons (ps_expr (pe_h (h_check_seat T) hr (by decide) (passC (takes_of rfl rfl rfl rfl)) (pa_cons (pv 0) pa_nil))) (pss_cons (ps_expr (pe_h (h_check_hap T) hr (by decide) (passC (takes_of rfl rfl rfl rfl)) (pa_cons (pv 1) pa_nil))) (pss_cons (ps_asg (pv 0) (tupK (K := K) (n := 2) rfl rfl (pgs_cons (pg_name (i := 2) sc_told_from.nd rfl (Or.inl rfl)) (pgs_cons (pg_name (i := 3) sc_told_from.nd rfl (Or.inl rfl)) pgs_nil)))) (pss_one (ps_ret (pe_h (h_seen_from T) hr (by decide) pass0 (pa_cons (pv 2) (pa_cons (pe_h (h_less T) hr (by decide) pass0 (pa_cons (pe_ix (ixK (K := K) rfl) (pv 1) pe_int (fun _ _ => rfl)) (pa_cons (pe_ix (ixK (K := K) rfl) (pv 3) pe_int (fun _ _ => rfl)) pa_nil))) (pa_cons (pe_h (h_less T) hr (by decide) pass0 (pa_cons (pe_ix (ixK (K := K) rfl) (pv 1) pe_int (fun _ _ => rfl)) (pa_cons (pe_ix (ixK (K := K) rfl) (pv 3) pe_int (fun _ _ => rfl)) pa_nil))) pa_nil)))))))))) ?_ ?_
  · rintro ds d ⟨v, b, t0, p0, t, p, rfl, hp, bv, bt0, bp0, bt, bp, rfl⟩
    refine rx_ok (by walk_at "ea") ⟨_, rfl, seat_sz (bv.mono (by decide)) (bt0.mono (by decide)) (bp0.mono (by decide)), seat_is hp _ _, rfl⟩ (rx_ok (by walk_at "ea") ⟨_, rfl, trivial, isHp_hap _ _, rfl⟩ (rx_nt (nt_unp (ev_var rfl)) ?_))
    exact rx_rt (rt_ret (ev_call (by walk_at "ea") (by exact ⟨v, b, _, _, rfl, hp, bv, bq_sub bt bt0, bq_sub bp bp0, rfl⟩)))
  · rintro ds c ⟨a, h, rfl, hz, ⟨e, rfl⟩ | ⟨e, e2, rfl⟩⟩
    · exact rx_out (by walk_at "ea") ⟨a, rfl, hz, e, rfl⟩
    · exact rx_ok (by walk_at "ea") ⟨a, rfl, hz, e, rfl⟩ (rx_out (by walk_at "ea") ⟨h, rfl, trivial, e2, rfl⟩)
def R_nm (ds : List Dt) (d : Dt) : Prop := ∃ x : Dt, ds = [x] ∧ (∀ s, x = .str s → s.length ≤ 90000) ∧ d = .bl (isNm x)
theorem h_is_name (T : Txt K mg ca fa ka) : Has P w K mg base CX0 1 "is_name" ["thing"] (spP K R_nm) := by
  refine T.d_is_name.pure sc_is_name (fun ds d h => by obtain ⟨_, rfl, _⟩ := h; rfl) (fun f cdv A outer s H E hr => (pss_cons (ps_if (PW.pt (pw_or (pt_not (pt_val (pe_callB (isiK (K := K) rfl) (by rfl) T.m_isinstance (by decide +kernel) (pa_cons (pv 0) (pa_cons (pe_bltn (v := .ty "str") (by rfl) T.m_str (by decide +kernel) rfl) pa_nil))))) (pw_or1 (pt_not (pt_chain op_le op_le pe_int (pe_callB call_len_str (by rfl) T.m_len (by decide +kernel) (pa_cons (pv 0) pa_nil)) (pe_globX (by rfl) T.v_LONGEST_NAME)))))) (pss_one (ps_ret pe_bl)) pss_nil) (pss_one (ps_ret (pe_callB (allK (K := K) rfl rfl) (by rfl) T.m_all (by decide +kernel) (pa_cons (pe_lc (own := [("letter", 1)]) (g := gName 1) (tt := tYes) rfl sc_is_name.nd (pi_str (pv 0)) (blkOk_by (own := [("letter", 1)]) (N := ["thing", "letter"]) (sc := defScope s_is_name) (by decide +kernel)) (fun _ _ _ _ _ => pg_name (i := 1) sc_is_name.nd rfl (Or.inl rfl)) (fun _ _ _ _ _ => pts_nil) (fun _ _ _ _ _ => (pe_cmpR op_in_sign (pv 1) (pe_globX (by rfl) T.v_LETTERS) (by rfl)))) pa_nil)))))) ?_
  rintro ds d ⟨x, rfl, hsz, rfl⟩
  obtain ⟨c, hc, hiff⟩ := kb_strT x
  by_cases h : ∃ s, x = .str s
  · obtain ⟨s, rfl⟩ := h
    have c1 : c = true := hiff.mpr ⟨s, rfl⟩
    subst c1
    have hl := hsz s rfl
    have ln : ∀ {sl : List Sl}, sl[0]? = some (.d (.str s)) → Ev K (tCB _ (tCons (tVar 0) tNil)) sl (.int (s.length : Nat)) := fun h => ev_cb (ea_cons (ev_var h) ea_nil) (rc_lenS (by omega))
    refine rt_cond (b := !(decide ((1 : Int) ≤ (s.length : Nat)) && decide (((s.length : Nat) : Int) ≤ 8))) (et_is (et_or (a := false) (et_not (a := true) (et_B (ev_isi (ev_var rfl) hc))) (fun _ => et_not (et_chain ev_int (ln rfl) r2_le (fun _ => ev_int) (fun _ => r2_le)))) (Bool.false_or _)) (fun z => rt_is (rt_ret ev_bl) ?_) (fun z => ?_)
    · show Dt.bl false = .bl ((decide (1 ≤ s.length) && decide (s.length ≤ 8)) && _)
      rw [Bool.not_eq_true'] at z
      have e : (decide (1 ≤ s.length) && decide (s.length ≤ 8)) = false := by
        rw [← z]
        congr 1 <;> exact decide_eq_decide.mpr (by omega)
      rw [e, Bool.false_and]
    · rw [Bool.not_eq_false'] at z
      have e : (decide (1 ≤ s.length) && decide (s.length ≤ 8)) = true := by
        rw [← z]
        congr 1 <;> exact decide_eq_decide.mpr (by omega)
      refine rt_is (rt_ret (ev_cb (ea_cons (ev_is (ev_lcS (s := s) (es := (s.cps.toList.map fun c => decide (c ∈ abcS.cps.toList)).map Dt.bl) (by rw [List.length_map, List.length_map, Array.length_toList]) (ev_var rfl) hl (fun k x hk hx => ?_)) rfl) ea_nil) rc_all)) ?_
      · rw [List.getElem?_map, List.getElem?_map] at hx
        have hk2 : s.cps.toList[k]? = some (s.cps.getD k 0) := by
          rw [Array.getElem?_toList, Array.getD_eq_getD_getElem?, Array.getElem?_eq_getElem hk]
          rfl
        rw [hk2] at hx
        cases hx
        exact ev_op (ev_var rfl) ev_str (by exact r2_sgIn)
      · show _ = Dt.bl ((decide (1 ≤ s.length) && decide (s.length ≤ 8)) && _)
        rw [e, Bool.true_and, List.all_map]
        rfl
  · have c0 : c = false := by
      cases c with
      | false => rfl
      | true => exact absurd (hiff.mp rfl) h
    subst c0
    refine rt_yes (b := true) (et_is (et_or (a := true) (b := true) (et_not (a := false) (et_B (ev_isi (ev_var rfl) hc))) (fun z => by cases z)) rfl) rfl (rt_is (rt_ret ev_bl) ?_)
    cases x with
    | str s => exact absurd ⟨s, rfl⟩ h
    | _ => rfl
theorem h_Bench___init__ (T : Txt K mg ca fa ka) : HasI P w K mg base CX0 1 (ca 19) ["self"] (spMkB K (ca 19)) := by
  refine T.d_Bench___init__.any sc_Bench___init__ (fun vs H Q E h => by obtain ⟨x, dx, G, rfl, _⟩ := h; rfl) (fun f cdv A outer s H E hr => (pss_cons (sfldK (K := K) rfl (pv 0) pe_dct rfl) (pss_cons (sfldK (K := K) rfl (pv 0) (pe_glob (v := .ref (ka 3)) (by rfl) T.v_NOUGHT rfl) rfl) (pss_one (sfldK (K := K) rfl (pv 0) (pe_lst pa_nil) rfl))))) ?_
  rintro vs H Q E ⟨x, dx, G, rfl, hx, k, gx, q⟩ a ha
  have nxa : x ≠ a := ne_of_none hx ha
  refine ⟨_, rfl, x, _, dx, [], rfl, by rw [upd_ne nxa]; exact hx, T.cl_Bench, T.na_Bench__haps, by show 0 < 1000; decide, ?_⟩
  refine ⟨_, rfl, x, _, dx, _, rfl, upd_same, T.cl_Bench, T.na_Bench__speed, by show 1 < 1000; decide, ?_⟩
  refine ⟨by exact sz_ok (Nat.zero_le _), fun p hp => ?_⟩
  have np : p ≠ x ∧ p ≠ a ∧ H p = none := by
    have h1 : p ≠ x := fun z => by rw [z, upd_same] at hp; cases hp
    rw [upd_ne h1, upd_ne h1] at hp
    have h2 : p ≠ a := fun z => by rw [z, upd_same] at hp; cases hp
    rw [upd_ne h2] at hp
    exact ⟨h1, h2, hp⟩
  obtain ⟨np1, np2, np3⟩ := np
  refine ⟨_, rfl, x, _, dx, _, rfl, by rw [upd_ne (Ne.symm np1), upd_same], T.cl_Bench, T.na_Bench__past, by exact Nat.lt_of_le_of_lt (Nat.le_trans (length_putF _ _ _) (Nat.succ_le_succ (length_putF _ _ _))) (by show 2 < 1000; decide), ?_⟩
  have ga : G a = none := free_of k ha
  have gp : G p = none := free_of k np3
  refine q p (upd G a (.dK [])) _ np3 ⟨Ex.new ga, fun c u e => ?_, fun c u hc e => ?_, fun c hc => ?_, fun c h1 h2 => ?_⟩ ⟨⟨dx, a, _, [], upd_same, ⟨[], upd_same, .nil⟩, .tup (T.w_NOUGHT _) (.cons (.int _) (.cons (.int _) .nil)), by rw [upd_ne np1, upd_same], .nil⟩, ?_, ?_⟩
  · by_cases z : c = a
    · subst z
      rw [upd_same] at e
      rw [upd_ne (Ne.symm nxa), upd_ne (Ne.symm np2), upd_ne (Ne.symm nxa), upd_ne (Ne.symm nxa), upd_same]
      exact e
    · rw [upd_ne z] at e
      have cx : c ≠ x := fun y => by rw [y, gx] at e; cases e
      have cp : c ≠ p := fun y => by rw [y, gp] at e; cases e
      rw [upd_ne cx, upd_ne cp, upd_ne cx, upd_ne cx, upd_ne z]
      exact k _ _ e
  · have cx : c ≠ x := fun y => hc (by simp [y])
    rw [upd_ne cx, upd_ne (ne_of_none e np3), upd_ne cx, upd_ne cx, upd_ne (ne_of_none e ha)]
    exact e
  · by_cases z1 : c = x
    · rw [z1, upd_same]; intro z; cases z
    · rw [upd_ne z1]
      by_cases z2 : c = p
      · rw [z2, upd_same]; intro z; cases z
      · rw [upd_ne z2, upd_ne z1, upd_ne z1]
        by_cases z3 : c = a
        · rw [z3, upd_same]; intro z; cases z
        · rw [upd_ne z3]
          exact hc
  · by_cases z : c = a
    · rw [z] at h2
      exact absurd ha h2
    · rw [upd_ne z]
      exact h1
  · rw [upd_ne nxa]
    exact gx
  · rw [upd_ne np2]
    exact gp
theorem h_Bench__do (T : Txt K mg ca fa ka) : HasM P w K mg base CX0 1 (ca 19) "_do" ["self", "haps", "speed"] (spDo K (ca 19)) := by
  refine T.d_Bench__do.any sc_Bench__do (fun vs H Q E h => by obtain ⟨_, _, _, _, _, _, _, _, rfl, _⟩ := h; rfl) (fun f cdv A outer s H E hr => (pss_cons (ps_expr (bmK (K := K) rfl (pe_bm PySem.F.plainAttrs_list PySem.F.slot_list_append PySem.F.type_list_append mt_append (fldK (K := K) rfl (pv 0) rfl) (pa_cons (pe_tup (pa_cons (fldK (K := K) rfl (pv 0) rfl) (pa_cons (fldK (K := K) rfl (pv 0) rfl) pa_nil))) pa_nil)))) (pss_cons (sfldK (K := K) rfl (pv 0) (pv 1) rfl) (pss_one (sfldK (K := K) rfl (pv 0) (pv 2) rfl))))) ?_
  rintro vs H Q E ⟨x, p, a, s, b, hs, sp, G, rfl, k, hB, hD, hR, hl, q⟩
  obtain ⟨dx, a0, s0, pv, h1, h2, h3, h4, h5⟩ := hB.ex
  have lp : pv.length = b.past.length := (Paired.length h5).symm
  have nxp := hB.ne
  refine ⟨_, rfl, x, _, dx, _, _, rfl, h1, T.cl_Bench, T.na_Bench__past, flds_past _ _ _, ⟨.inl ⟨rfl, ⟨pv, .inl (.inl h4)⟩⟩, ?_⟩⟩
  refine ⟨_, rfl, x, _, dx, _, _, rfl, h1, T.cl_Bench, T.na_Bench__haps, flds_haps _ _ _, _, rfl, x, _, dx, _, _, rfl, h1, T.cl_Bench, T.na_Bench__speed, flds_speed _ _ _, by exact sz_ok (by exact Nat.le_of_ble_eq_true rfl), fun t o ht ho => ?_⟩
  obtain ⟨n2, b2⟩ := hB.step k h1 h2 h3 h4 h5 hD hR ht ho
  have ntx : x ≠ t := ne_of_none h1 ht
  have ntp : p ≠ t := ne_of_none h4 ht
  refine ⟨p, pv, .ref t, rfl, rfl, by rw [upd_ne ntp]; exact h4, by rw [lp]; exact Nat.lt_of_le_of_lt hl (Nat.lt_of_lt_of_le (m := 100000) (by decide) (by decide)), ?_⟩
  refine ⟨_, rfl, _, rfl, x, _, dx, _, rfl, by rw [upd_ne nxp, upd_ne ntx]; exact h1, T.cl_Bench, T.na_Bench__haps, by rw [flds_eq]; show 3 < 1000; decide, ?_⟩
  rw [flds_put1]
  refine ⟨_, rfl, _, rfl, x, _, dx, _, rfl, upd_same, T.cl_Bench, T.na_Bench__speed, by rw [flds_eq]; show 3 < 1000; decide, ?_⟩
  rw [flds_put2, upd_upd]
  exact q _ _ n2 b2
def R_put (b : Bst) (ds : List Dt) (b' : Bst) : Prop := ∃ (n : Str) (q : Rat × Rat), ds = [.str n, hpD q] ∧ n.length ≤ 90000 ∧ isNm (.str n) = true ∧ (getH b.haps n ≠ none ∨ b.haps.length < 12) ∧ b.haps.length ≤ 90000 ∧ b.past.length ≤ 90000 ∧ b' = ⟨putH b.haps n q, b.speed, b.past ++ [(b.haps, b.speed)]⟩
def X_put (ca : Nat → Addr) (b : Bst) (ds : List Dt) (c : Value) : Prop := ∃ x y : Dt, ds = [x, y] ∧ (∀ s, x = .str s → s.length ≤ 90000) ∧ ((isNm x = false ∧ c = .ref (ca 16)) ∨ (isNm x = true ∧ isHp y = false ∧ c = .ref (ca 2)) ∨ ∃ n, x = .str n ∧ isNm x = true ∧ isHp y = true ∧ getH b.haps n = none ∧ 12 ≤ b.haps.length ∧ c = .ref (ca 5))
theorem h_Bench_put (T : Txt K mg ca fa ka) : HasM P w K mg base (L2.CX P w) 5 (ca 19) "put" ["self", "name", "hap"] (spBd K (ca 19) R_put (X_put ca)) := by
  refine T.d_Bench_put.deed sc_Bench_put (fun b ds d h => by obtain ⟨_, _, rfl, _⟩ := h; rfl) (fun b ds c h => by obtain ⟨_, _, rfl, _⟩ := h; rfl) (fun f cdv A outer s H E hr => (pss_cons (ps_if (pt_not (pt_val (pe_h (h_is_name T) hr (by decide) pass0 (pa_cons (pv 1) pa_nil)))) (pss_one (ps_raise rfl (takes_of rfl rfl rfl rfl) (pmk_own PySem.F.excBase_ValueError T.x_NoName.x T.x_NoName.g T.x_NoName.k (raises_own T.x_NoName.b T.x_NoName.t) (by exact rfl)))) pss_nil) (pss_cons (ps_expr (pe_h (h_check_hap T) hr (by decide) (passC (takes_of rfl rfl rfl rfl)) (pa_cons (pv 2) pa_nil))) (pss_cons (ps_if (PW.pt (pw_and (pt_cmp (pc_dnotin (lt64 hr.units) (pv 1) (fldK (K := K) rfl (pv 0) rfl))) (pw_and1 (pt_cmpR op_ge (pe_callB call_lenR (by rfl) T.m_len (by decide +kernel) (pa_cons (fldK (K := K) rfl (pv 0) rfl) pa_nil)) (pe_globX (by rfl) T.v_MOST_NAMES) (nomark _))))) (pss_one (ps_raise rfl (takes_of rfl rfl rfl rfl) (pmk_own PySem.F.excBase_ValueError T.x_TooMany.x T.x_TooMany.g T.x_TooMany.k (raises_own T.x_TooMany.b T.x_TooMany.t) (by exact rfl)))) pss_nil) (pss_cons (ps_set (i := 3) sc_Bench_put.nd rfl (Or.inl rfl) (bm0K (K := K) rfl (pe_bm0 PySem.F.plainAttrs_dict PySem.F.slot_dict_copy PySem.F.type_dict_copy mt_copyD (fldK (K := K) rfl (pv 0) rfl)))) (pss_cons (ps_dput (lt64 hr.units) (pv 3) (pv 1) (pv 2) (by rfl)) (pss_one (ps_expr (pe_mh (h_Bench__do T) T.cl_Bench hr (by decide) pass0 (pv 0) (pa_cons (pv 3) (pa_cons (fldK (K := K) rfl (pv 0) rfl) pa_nil))))))))))) ?_ ?_
  · rintro x p b ds b' ⟨n, q, rfl, hl, hn, hr, hb, hp, rfl⟩
    refine by_no stb_bn (ebt_is (ebt_not (ebt_B (eb_ev (ev_call (by walk_at "ea") (by exact ⟨_, rfl, fun s e => by cases e; exact hl, rfl⟩))))) (by rw [hn]; rfl)) ?_
    refine by_ok stb_bn (eba_ev (by walk_at "ea")) (by exact ⟨_, rfl, trivial, isHp_hap _ _, rfl⟩) ?_
    refine by_no stb_bn (ebt_and stb_bn (ebt_B (eb_dnotin (fun _ _ h => h.r) stb_bn T.cl_Bench T.na_Bench__haps rfl (ev_var rfl))) (fun _ => ebt_test (eb_op stb_bn (eb_lenH (fun _ _ h => h.r) T.cl_Bench T.na_Bench__haps rfl) (eb_ev ev_int) r2_ge)) ?_) (by_end fun E => bn_put T.cl_Bench T.na_Bench__haps T.na_Bench__speed hb hp)
    rcases hr with h | h
    · cases e : getH b.haps n with
      | none => exact absurd e h
      | some _ => rfl
    · rw [decide_eq_false (by omega), Bool.and_false]
  · rintro x p b ds c ⟨y, z, rfl, hs, h⟩
    rcases h with ⟨h, rfl⟩ | ⟨h1, h2, rfl⟩ | ⟨n, rfl, h1, h2, h3, h4, rfl⟩
    · exact by_raise (ebt_is (ebt_not (ebt_B (eb_ev (ev_call (by walk_at "ea") (by exact ⟨_, rfl, hs, rfl⟩))))) (by rw [h]; rfl))
    · refine by_no stb_bn (ebt_is (ebt_not (ebt_B (eb_ev (ev_call (by walk_at "ea") (by exact ⟨_, rfl, hs, rfl⟩))))) (by rw [h1]; rfl)) ?_
      exact by_out (eba_ev (by walk_at "ea")) (by exact ⟨_, rfl, trivial, h2, rfl⟩)
    · refine by_no stb_bn (ebt_is (ebt_not (ebt_B (eb_ev (ev_call (by walk_at "ea") (by exact ⟨_, rfl, hs, rfl⟩))))) (by rw [h1]; rfl)) ?_
      refine by_ok stb_bn (eba_ev (by walk_at "ea")) (by exact ⟨_, rfl, trivial, h2, rfl⟩) ?_
      exact by_raise (ebt_and stb_bn (ebt_B (eb_dnotin (fun _ _ h => h.r) stb_bn T.cl_Bench T.na_Bench__haps rfl (ev_var rfl))) (fun _ => ebt_test (eb_op stb_bn (eb_lenH (fun _ _ h => h.r) T.cl_Bench T.na_Bench__haps rfl) (eb_ev ev_int) r2_ge)) (by rw [h3, decide_eq_true (by omega)]; rfl))
def R_hof (b : Bst) (ds : List Dt) (d : Dt) : Prop := ∃ (n : Str) (q : Rat × Rat), ds = [.str n] ∧ n.length ≤ 90000 ∧ isNm (.str n) = true ∧ getH b.haps n = some q ∧ d = hpD q
def NoNm (b : Bst) (x : Dt) : Prop := (∀ s, x = .str s → s.length ≤ 90000) ∧ (isNm x = false ∨ ∃ n, x = .str n ∧ isNm x = true ∧ getH b.haps n = none)
def X_hof (ca : Nat → Addr) (b : Bst) (ds : List Dt) (c : Value) : Prop := ∃ x : Dt, ds = [x] ∧ NoNm b x ∧ c = .ref (ca 16)
theorem h_Bench__hap_of (T : Txt K mg ca fa ka) : HasM P w K mg base (L2.CX P w) 2 (ca 19) "_hap_of" ["self", "name"] (spBq K (ca 19) R_hof (X_hof ca)) := by
  refine T.d_Bench__hap_of.query sc_Bench__hap_of (fun b ds d h => by obtain ⟨_, _, rfl, _⟩ := h; rfl) (fun b ds c h => by obtain ⟨_, rfl, _⟩ := h; rfl) (fun f cdv A outer s H E hr => (pss_cons (ps_if (PW.pt (pw_or (pt_not (pt_val (pe_h (h_is_name T) hr (by decide) pass0 (pa_cons (pv 1) pa_nil)))) (pw_or1 (pt_cmp (pc_dnotin (lt64 hr.units) (pv 1) (fldK (K := K) rfl (pv 0) rfl)))))) (pss_one (ps_raise rfl (takes_of rfl rfl rfl rfl) (pmk_own PySem.F.excBase_ValueError T.x_NoName.x T.x_NoName.g T.x_NoName.k (raises_own T.x_NoName.b T.x_NoName.t) (by exact rfl)))) pss_nil) (pss_one (ps_ret (pe_dget (lt64 hr.units) (fldK (K := K) rfl (pv 0) rfl) (pv 1) (fun _ _ => rfl)))))) ?_ ?_
  · rintro x b ds d ⟨n, q, rfl, hl, hn, hq, rfl⟩
    refine by_no stb_br (ebt_or stb_br (a := false) (c := false) (ebt_is (ebt_not (ebt_B (eb_ev (ev_call (by walk_at "ea") (by exact ⟨_, rfl, fun s e => by cases e; exact hl, rfl⟩))))) (by rw [hn]; rfl)) (fun _ => ebt_is (ebt_B (eb_dnotin (fun _ _ h => h) stb_br T.cl_Bench T.na_Bench__haps rfl (ev_var rfl))) (by rw [hq]; rfl)) rfl) ?_
    exact by_ret stb_br fun E => eb_dget (fun _ _ h => h) T.cl_Bench T.na_Bench__haps rfl (ev_var rfl) hq
  · rintro x b ds c ⟨y, rfl, ⟨hs, h⟩, rfl⟩
    rcases h with h | ⟨n, rfl, h1, h2⟩
    · exact by_raise (ebt_or (c := true) stb_br (a := true) (ebt_is (ebt_not (ebt_B (eb_ev (ev_call (by walk_at "ea") (by exact ⟨_, rfl, hs, rfl⟩))))) (by rw [h]; rfl)) (fun z => by cases z) rfl)
    · exact by_raise (ebt_or stb_br (a := false) (c := true) (ebt_is (ebt_not (ebt_B (eb_ev (ev_call (by walk_at "ea") (by exact ⟨_, rfl, hs, rfl⟩))))) (by rw [h1]; rfl)) (fun _ => ebt_is (ebt_B (eb_dnotin (fun _ _ h => h) stb_br T.cl_Bench T.na_Bench__haps rfl (ev_var rfl))) (by rw [h2]; rfl)) rfl)
def R_drp (b : Bst) (ds : List Dt) (b' : Bst) : Prop := ∃ n : Str, ds = [.str n] ∧ n.length ≤ 90000 ∧ isNm (.str n) = true ∧ getH b.haps n ≠ none ∧ b.past.length ≤ 90000 ∧ b' = ⟨dropH b.haps n, b.speed, b.past ++ [(b.haps, b.speed)]⟩
theorem h_Bench_drop (T : Txt K mg ca fa ka) : HasM P w K mg base (L2.CX P w) 3 (ca 19) "drop" ["self", "name"] (spBd K (ca 19) R_drp (X_hof ca)) := by
  refine T.d_Bench_drop.deed sc_Bench_drop (fun b ds d h => by obtain ⟨_, rfl, _⟩ := h; rfl) (fun b ds c h => by obtain ⟨_, rfl, _⟩ := h; rfl) (fun f cdv A outer s H E hr => (pss_cons (ps_expr (pe_mh (h_Bench__hap_of T) T.cl_Bench hr (by decide) (passC (takes_of rfl rfl rfl rfl)) (pv 0) (pa_cons (pv 1) pa_nil))) (pss_cons (ps_set (i := 2) sc_Bench_drop.nd rfl (Or.inl rfl) (bm0K (K := K) rfl (pe_bm0 PySem.F.plainAttrs_dict PySem.F.slot_dict_copy PySem.F.type_dict_copy mt_copyD (fldK (K := K) rfl (pv 0) rfl)))) (pss_cons (ps_ddel (pv 2) (pv 1)) (pss_one (ps_expr (pe_mh (h_Bench__do T) T.cl_Bench hr (by decide) pass0 (pv 0) (pa_cons (pv 2) (pa_cons (fldK (K := K) rfl (pv 0) rfl) pa_nil))))))))) ?_ ?_
  · rintro x p b ds b' ⟨n, rfl, hl, hn, hg, hp, rfl⟩
    obtain ⟨q, hq⟩ := Option.ne_none_iff_exists'.mp hg
    exact by_drop stb_bn (fun E => eb_mq stb_bn (fun _ _ h => h.r) rfl (by decide +kernel) (by decide +kernel) (by decide +kernel) (eba_ev (by walk_at "ea")) (by exact ⟨n, q, rfl, hl, hn, hq, rfl⟩)) (by_end fun E => bn_drop T.cl_Bench T.na_Bench__haps T.na_Bench__speed hg hp)
  · rintro x p b ds c ⟨y, rfl, h, rfl⟩
    exact by_dropX (ebx_mq stb_bn (fun _ _ h => h.r) rfl (by decide +kernel) (by decide +kernel) (by decide +kernel) (eba_ev (by walk_at "ea")) (by exact ⟨y, rfl, h, rfl⟩))
def R_trn (b : Bst) (ds : List Dt) (b' : Bst) : Prop := ∃ v w : Rat, ds = [fq v] ∧ Pl v w ∧ Bq 1000 v ∧ b.past.length ≤ 90000 ∧ b' = ⟨b.haps, v, b.past ++ [(b.haps, b.speed)]⟩
def X_trn (ca : Nat → Addr) (b : Bst) (ds : List Dt) (c : Value) : Prop := X_beat_of ca ds c
theorem xbeat_len {ds : List Dt} {c : Value} (h : X_beat_of ca ds c) : ds.length + 1 = 2 := by
  obtain ⟨_, rfl, _⟩ := h
  rfl
theorem h_Bench_turn (T : Txt K mg ca fa ka) : HasM P w K mg base (L2.CX P w) 7 (ca 19) "turn" ["self", "speed"] (spBd K (ca 19) R_trn (X_trn ca)) := by
  refine T.d_Bench_turn.deed sc_Bench_turn (fun b ds d h => by obtain ⟨_, _, rfl, _⟩ := h; rfl) (fun b ds c h => xbeat_len h) (fun f cdv A outer s H E hr => (pss_cons (ps_expr (pe_h (h_check_plain T) hr (by decide) (passC (takes_of rfl rfl rfl rfl)) (pa_cons (pv 1) pa_nil))) (pss_one (ps_expr (pe_mh (h_Bench__do T) T.cl_Bench hr (by decide) pass0 (pv 0) (pa_cons (fldK (K := K) rfl (pv 0) rfl) (pa_cons (pv 1) pa_nil))))))) ?_ ?_
  · rintro x p b ds b' ⟨v, w, rfl, hv, bv, hp, rfl⟩
    exact by_ok stb_bn (eba_ev (by walk_at "ea")) (by exact ⟨v, w, rfl, hv.s, bv, hv.p, hv.e, rfl⟩) (by_end fun E => bn_turn T.cl_Bench T.na_Bench__haps hp rfl (eb_ev (ev_var rfl)))
  · rintro x p b ds c h
    obtain ⟨a, rfl, _⟩ := id h
    exact by_out (eba_ev (by walk_at "ea")) h
def R_psh (b : Bst) (ds : List Dt) (b' : Bst) : Prop := ∃ v w : Rat, ds = [fq v] ∧ Pl v w ∧ Bq 1000 v ∧ Sp b.speed ∧ Jb b.speed v ∧ b.past.length ≤ 90000 ∧ b' = ⟨b.haps, jn b.speed v, b.past ++ [(b.haps, b.speed)]⟩
theorem h_Bench_push (T : Txt K mg ca fa ka) : HasM P w K mg base (L2.CX P w) 7 (ca 19) "push" ["self", "speed"] (spBd K (ca 19) R_psh (X_trn ca)) := by
  refine T.d_Bench_push.deed sc_Bench_push (fun b ds d h => by obtain ⟨_, _, rfl, _⟩ := h; rfl) (fun b ds c h => xbeat_len h) (fun f cdv A outer s H E hr => (pss_cons (ps_expr (pe_h (h_check_plain T) hr (by decide) (passC (takes_of rfl rfl rfl rfl)) (pa_cons (pv 1) pa_nil))) (pss_one (ps_expr (pe_mh (h_Bench__do T) T.cl_Bench hr (by decide) pass0 (pv 0) (pa_cons (fldK (K := K) rfl (pv 0) rfl) (pa_cons (pe_h (h_together T) hr (by decide) (passC (takes_of rfl rfl rfl rfl)) (pa_cons (fldK (K := K) rfl (pv 0) rfl) (pa_cons (pv 1) pa_nil))) pa_nil))))))) ?_ ?_
  · rintro x p b ds b' ⟨v, w, rfl, hv, bv, hs, jb, hp, rfl⟩
    exact by_ok stb_bn (eba_ev (by walk_at "ea")) (by exact ⟨v, w, rfl, hv.s, bv, hv.p, hv.e, rfl⟩) (by_end fun E => bn_turn T.cl_Bench T.na_Bench__haps hp rfl (eb_callX (eba_cons stb_bn (eb_speed (fun _ _ h => h.r) T.cl_Bench T.na_Bench__speed rfl) (eba_ev (by walk_at "ea"))) (by exact ⟨_, _, rfl, hs, hv.s, jb, rfl⟩)))
  · rintro x p b ds c h
    obtain ⟨a, rfl, _⟩ := id h
    exact by_out (eba_ev (by walk_at "ea")) h
def R_und (b : Bst) (ds : List Dt) (b' : Bst) : Prop := ds = [] ∧ ∃ (h0 : Hps) (s0 : Rat) (pt : List (Hps × Rat)), b.past = pt ++ [(h0, s0)] ∧ b' = ⟨h0, s0, pt⟩
def X_und (ca : Nat → Addr) (b : Bst) (ds : List Dt) (c : Value) : Prop := ds = [] ∧ b.past = [] ∧ c = .ref (ca 17)
theorem h_Bench_undo (T : Txt K mg ca fa ka) : HasM P w K mg base (L2.CX P w) 1 (ca 19) "undo" ["self"] (spBd K (ca 19) R_und (X_und ca)) := by
  refine T.d_Bench_undo.deed sc_Bench_undo (fun b ds d h => by obtain ⟨rfl, _⟩ := h; rfl) (fun b ds c h => by obtain ⟨rfl, _⟩ := h; rfl) (fun f cdv A outer s H E hr => (pss_cons (ps_if (pt_cmpR (eqEK (K := K) rfl hr.units) (fldK (K := K) rfl (pv 0) rfl) (pe_lst pa_nil) (nomark _)) (pss_one (ps_raise rfl (takes_of rfl rfl rfl rfl) (pmk_own PySem.F.excBase_ValueError T.x_NoDeed.x T.x_NoDeed.g T.x_NoDeed.k (raises_own T.x_NoDeed.b T.x_NoDeed.t) (by exact rfl)))) pss_nil) (pss_one (ps_asg (bm0K (K := K) rfl (pe_bm0 PySem.F.plainAttrs_list PySem.F.slot_list_pop PySem.F.type_list_pop mt_pop (fldK (K := K) rfl (pv 0) rfl))) (tupK (K := K) (n := 2) rfl rfl (pgs_cons (fldGK (K := K) rfl (pv 0)) (pgs_cons (fldGK (K := K) rfl (pv 0)) pgs_nil))))))) ?_ ?_
  · rintro x p b ds b' ⟨rfl, h0, s0, pt, hp, rfl⟩
    exact by_no stb_bn (ebt_is (ebt_test (eb_pastE (fun _ _ h => h) T.cl_Bench T.na_Bench__past rfl)) (by rw [hp]; cases pt <;> rfl)) (by_end fun E => bn_undo T.cl_Bench T.na_Bench__haps T.na_Bench__speed T.na_Bench__past rfl hp)
  · rintro x p b ds c ⟨rfl, hp, rfl⟩
    exact by_raise (ebt_is (ebt_test (eb_pastE (fun _ _ h => h) T.cl_Bench T.na_Bench__past rfl)) (by rw [hp]; rfl))
def R_nms (b : Bst) (ds : List Dt) (d : Dt) : Prop := ds = [] ∧ b.haps.length < 64 ∧ d = namesD b
theorem h_Bench_names (T : Txt K mg ca fa ka) : HasM P w K mg base CX0 1 (ca 19) "names" ["self"] (spBq K (ca 19) R_nms fun _ _ _ => False) := by
  refine T.d_Bench_names.ask sc_Bench_names (fun b ds d h => by obtain ⟨rfl, _⟩ := h; rfl) (fun f cdv A outer s H E hr => (pss_one (ps_ret (pe_callB (sortH rfl) (by rfl) T.m_sorted (by decide +kernel) (pa_cons (fldK (K := K) rfl (pv 0) rfl) pa_nil))))) ?_
  rintro x b ds d ⟨rfl, hl, rfl⟩
  exact by_ret stb_br fun E => eb_names (fun _ _ h => h) T.cl_Bench T.na_Bench__haps rfl hl
def R_tel (b : Bst) (ds : List Dt) (d : Dt) : Prop := ∃ (n : Str) (q : Rat × Rat) (w : Rat), ds = [.str n] ∧ n.length ≤ 90000 ∧ isNm (.str n) = true ∧ getH b.haps n = some q ∧ Pl b.speed w ∧ Bq 400 b.speed ∧ Bq 400 q.1 ∧ Bq 400 q.2 ∧ d = hpD (mvP b.speed w (0, 0) q)
theorem h_Bench_tell (T : Txt K mg ca fa ka) : HasM P w K mg base (L2.CX P w) 10 (ca 19) "tell" ["self", "name"] (spBq K (ca 19) R_tel (X_hof ca)) := by
  refine T.d_Bench_tell.query sc_Bench_tell (fun b ds d h => by obtain ⟨_, _, _, rfl, _⟩ := h; rfl) (fun b ds c h => by obtain ⟨_, rfl, _⟩ := h; rfl) (fun f cdv A outer s H E hr => (pss_one (ps_ret (pe_h (h_told_from T) hr (by decide) (passC (takes_of rfl rfl rfl rfl)) (pa_cons (pe_tup (pa_cons (fldK (K := K) rfl (pv 0) rfl) (pa_cons (pe_tup (pa_cons (pe_glob (v := .ref (ka 3)) (by rfl) T.v_NOUGHT rfl) (pa_cons (pe_glob (v := .ref (ka 3)) (by rfl) T.v_NOUGHT rfl) pa_nil))) pa_nil))) (pa_cons (pe_mh (h_Bench__hap_of T) T.cl_Bench hr (by decide) (passC (takes_of rfl rfl rfl rfl)) (pv 0) (pa_cons (pv 1) pa_nil)) pa_nil)))))) ?_ ?_
  rotate_left
  · rintro x b ds c ⟨y, rfl, h, rfl⟩
    exact by_retX (ebx_arg (eax_2 stb_br (fun E => eb_is (eb_tup (eba_cons stb_br (eb_speed (fun _ _ h => h) T.cl_Bench T.na_Bench__speed rfl) (eba_ev (ea_cons (ev_tup (ea_cons (ev_NOUGHT T) (ea_cons (ev_NOUGHT T) ea_nil))) ea_nil)))) (show _ = seatD b.speed 0 0 from rfl)) (eax_1 (ebx_mq stb_br (fun _ _ h => h) rfl (by decide +kernel) (by decide +kernel) (by decide +kernel) (eba_ev (by walk_at "ea")) (by exact ⟨y, rfl, h, rfl⟩)))))
  rintro x b ds d ⟨n, q, w, rfl, hl, hn, hq, hv, bv, b1, b2, rfl⟩
  exact by_ret stb_br fun E => eb_callX (eba_cons stb_br (eb_is (eb_tup (eba_cons stb_br (eb_speed (fun _ _ h => h) T.cl_Bench T.na_Bench__speed rfl) (eba_ev (ea_cons (ev_tup (ea_cons (ev_NOUGHT T) (ea_cons (ev_NOUGHT T) ea_nil))) ea_nil)))) (show _ = seatD b.speed 0 0 from rfl)) (eba_cons stb_br (eb_mq stb_br (fun _ _ h => h) rfl (by decide +kernel) (by decide +kernel) (by decide +kernel) (eba_ev (by walk_at "ea")) (by exact ⟨n, q, rfl, hl, hn, hq, rfl⟩)) (eba_ev ea_nil))) (by exact toldS_ok hv bv (bq_zero.mono (by decide)) (bq_zero.mono (by decide)) b1 b2)
def R_knd (b : Bst) (ds : List Dt) (d : Dt) : Prop := ∃ (n m : Str) (q r : Rat × Rat), ds = [.str n, .str m] ∧ (n.length ≤ 90000 ∧ isNm (.str n) = true) ∧ (m.length ≤ 90000 ∧ isNm (.str m) = true) ∧ getH b.haps n = some q ∧ getH b.haps m = some r ∧ (Bq 1000 q.1 ∧ Bq 1000 q.2) ∧ (Bq 1000 r.1 ∧ Bq 1000 r.2) ∧ d = .str (wordS (r.1 - q.1) (r.2 - q.2))
def X_knd (ca : Nat → Addr) (b : Bst) (ds : List Dt) (c : Value) : Prop := ∃ x y : Dt, ds = [x, y] ∧ (NoNm b x ∨ ((∃ (n : Str) (q : Rat × Rat), x = .str n ∧ n.length ≤ 90000 ∧ isNm x = true ∧ getH b.haps n = some q) ∧ NoNm b y)) ∧ c = .ref (ca 16)
theorem h_Bench_kind (T : Txt K mg ca fa ka) : HasM P w K mg base (L2.CX P w) 5 (ca 19) "kind" ["self", "one", "other"] (spBq K (ca 19) R_knd (X_knd ca)) := by
  refine T.d_Bench_kind.query sc_Bench_kind (fun b ds d h => by obtain ⟨_, _, _, _, rfl, _⟩ := h; rfl) (fun b ds c h => by obtain ⟨_, _, rfl, _⟩ := h; rfl) (fun f cdv A outer s H E hr => (pss_one (ps_ret (pe_h (h_kind_of T) hr (by decide) pass0 (pa_cons (pe_mh (h_Bench__hap_of T) T.cl_Bench hr (by decide) (passC (takes_of rfl rfl rfl rfl)) (pv 0) (pa_cons (pv 1) pa_nil)) (pa_cons (pe_mh (h_Bench__hap_of T) T.cl_Bench hr (by decide) (passC (takes_of rfl rfl rfl rfl)) (pv 0) (pa_cons (pv 2) pa_nil)) pa_nil)))))) ?_ ?_
  · rintro x b ds d ⟨n, m, q, r, rfl, ⟨l1, n1⟩, ⟨l2, n2⟩, g1, g2, b1, b2, rfl⟩
    exact by_ret stb_br fun E => eb_call (eba_cons stb_br (eb_mq stb_br (fun _ _ h => h) rfl (by decide +kernel) (by decide +kernel) (by decide +kernel) (eba_ev (by walk_at "ea")) (by exact ⟨n, q, rfl, l1, n1, g1, rfl⟩)) (eba_cons stb_br (eb_mq stb_br (fun _ _ h => h) rfl (by decide +kernel) (by decide +kernel) (by decide +kernel) (eba_ev (by walk_at "ea")) (by exact ⟨m, r, rfl, l2, n2, g2, rfl⟩)) (eba_ev ea_nil))) (by exact ⟨_, _, _, _, rfl, b1.1, b1.2, b2.1, b2.2, rfl⟩)
  · rintro x b ds c ⟨y, z, rfl, h, rfl⟩
    rcases h with h | ⟨⟨n, q, rfl, l1, n1, g1⟩, h⟩
    · exact by_retX (ebx_arg (eax_1 (ebx_mq stb_br (fun _ _ h => h) rfl (by decide +kernel) (by decide +kernel) (by decide +kernel) (eba_ev (by walk_at "ea")) (by exact ⟨y, rfl, h, rfl⟩))))
    · exact by_retX (ebx_arg (eax_2 stb_br (fun E => eb_mq stb_br (fun _ _ h => h) rfl (by decide +kernel) (by decide +kernel) (by decide +kernel) (eba_ev (by walk_at "ea")) (by exact ⟨n, q, rfl, l1, n1, g1, rfl⟩)) (eax_1 (ebx_mq stb_br (fun _ _ h => h) rfl (by decide +kernel) (by decide +kernel) (by decide +kernel) (eba_ev (by walk_at "ea")) (by exact ⟨z, rfl, h, rfl⟩)))))
def R_cell_at (ds : List Dt) (d : Dt) : Prop := ∃ (ns : List Int) (k : Nat), ds = [.lst (ns.map Dt.int), .int k] ∧ d = .int (ns.getD k 0)
theorem cell_ok {ns : List Int} {k : Nat} : R_cell_at [.lst (ns.map Dt.int), .int k] (.int (ns.getD k 0)) := ⟨ns, k, rfl, rfl⟩
local macro_rules | `(tactic| walk_at "rok") => `(tactic| exact cell_ok)
theorem h__law_cell_at (T : Txt K mg ca fa ka) : Has P w K mg base CX0 1 "_law_cell_at" ["_law_script", "_law_k"] (spP K R_cell_at) := by
  refine T.d__law_cell_at.pure sc__law_cell_at (fun ds d h => by obtain ⟨ns, k, rfl, _⟩ := h; rfl) (fun f cdv A outer s H E hr => (pss_cons (ps_if (pt_cmpR op_lt (pv 1) (pe_callB (lenK (K := K) rfl) (by rfl) T.m_len (by decide +kernel) (pa_cons (pv 0) pa_nil)) (nomark _)) (pss_one (ps_ret (pe_ix (ixK (K := K) rfl) (pv 0) (pv 1) (fun _ _ => rfl)))) pss_nil) (pss_one (ps_ret pe_int)))) ?_
  rintro ds d ⟨ns, k, rfl, rfl⟩
  refine rt_cond (et_test (ev_op (ev_var rfl) (ev_cb (ea_cons (ev_var rfl) ea_nil) rc_lenL) r2_lt)) (fun hb => ?_) (fun hb => ?_)
  · have hk := of_decide_eq_true hb
    rw [List.length_map] at hk
    have hk' : k < ns.length := by omega
    refine rt_ret (ev_op (ev_var rfl) (ev_var rfl) (r2_ixL ?_))
    rw [List.getD_eq_getElem?_getD, List.getElem?_eq_getElem hk', Option.getD_some]
    exact atI_nat (by rw [List.getElem?_map, List.getElem?_eq_getElem hk']; rfl)
  · have hk := of_decide_eq_false hb
    rw [List.length_map] at hk
    refine rt_is (rt_ret ev_int) ?_
    rw [List.getD_eq_getElem?_getD, List.getElem?_eq_none (by omega), Option.getD_none]
theorem h__law_pot (T : Txt K mg ca fa ka) : Has P w K mg base CX0 1 "_law_pot" ["_law_cell"] (spNew K fun ds => ∃ c : Int, ds = [.int c]) := by
  refine T.d__law_pot.newpot sc__law_pot (fun ds h => by obtain ⟨c, rfl⟩ := h; rfl) (fun f cdv A outer s H E hr => (pss_cons (ps_if (pt_cmpR op_ge (pv 0) (pe_op op_pow pe_int pe_int) (nomark _)) (pss_one (ps_ret (pe_lst (pa_cons (pe_op op_sub (pv 0) (pe_op op_pow pe_int pe_int)) pa_nil)))) pss_nil) (pss_cons (ps_set (i := 1) sc__law_pot.nd rfl (Or.inl rfl) pe_int) (pss_cons (ps_for PassesOwn.never rfl (pi_range1 rfl T.m_range (pa_cons pe_int pa_nil)) (pg_name (i := 2) sc__law_pot.nd rfl (Or.inl rfl)) (pss_cons (ps_set (i := 3) sc__law_pot.nd rfl (Or.inl rfl) (pe_op op_modN (pe_op op_mulA (pe_op op_add (pe_op op_add (pe_op op_modN (pv 0) pe_int) (pe_op op_mulA pe_int (pv 2))) pe_int) pe_int) pe_int)) (pss_cons (ps_set (i := 3) sc__law_pot.nd rfl (Or.inl rfl) (pe_op op_modN (pe_op op_add (pe_op op_add (pe_op op_mulA (pv 3) (pv 3)) (pe_op op_mulA pe_int (pv 2))) pe_int) pe_int)) (pss_one (ps_set (i := 1) sc__law_pot.nd rfl (Or.inl rfl) (pe_op op_add (pe_op op_mulA (pv 1) pe_int) (pv 3))))))) (pss_one (ps_ret (pe_lst (pa_cons (pv 1) pa_nil)))))))) ?_
  rintro ds ⟨c, rfl⟩ G H σ k f D q
  have new : ∀ (e : Int) (te : TE) (sl : List Sl) (G1 H1 : Hp) (σ1 : L2.St), Nx G H G1 H1 → FrD K G1 σ1 sl → Ev K te sl (.int e) → tRet (tLst (tCons te tNil)) D σ1 H1 := fun e te sl G1 H1 σ1 n1 f1 h =>
    h G1 H1 σ1 n1.k f1 _ fun v G2 H2 n2 r2 => by
      cases r2
      refine ⟨sz_ok (by decide : 1 ≤ 100000), fun p hp => ?_⟩
      have n12 := n1.trans n2
      have hp0 : H p = none := free_of n12.h hp
      exact q p e G2 _ ⟨n12.g, n12.h.trans (Ex.new hp), n12.k.trans (Ex.new hp), n12.f⟩ hp0 (free_of n12.k hp) upd_same
  have ht : EvT K (tTest (tOp (rI0 fun i j => .bl (decide (j ≤ i))) (tVar 0) (tOp (rI CPow fun i j => .int (i ^ j.toNat)) (tC (.int 10)) (tC (.int 18))))) [.d (.int c), .no, .no, .no] (decide ((10 : Int) ^ (18 : Int).toNat ≤ c)) :=
    et_test (ev_op (ev_var rfl) (ev_op ev_int ev_int (r2_pow ⟨by decide, by decide, by decide⟩)) r2_ge)
  refine ht G H σ k f _ fun G1 H1 n1 => ?_
  by_cases hc : (10 : Int) ^ (18 : Int).toNat ≤ c
  · rw [decide_eq_true hc]
    exact new _ _ _ G1 H1 σ n1 (FrD.mono n1.g f) (ev_op (ev_var rfl) (ev_op ev_int ev_int (r2_pow ⟨by decide, by decide, by decide⟩)) r2_sub)
  · rw [decide_eq_false hc]
    refine iteF ?_
    dsimp only [tNext]
    refine (nt_asg ev_int : Nt K (tAsg (tC (.int 0)) (gName 1)) _ _) G1 H1 σ n1.k (FrD.mono n1.g f) _ fun σ2 G2 H2 n2 f2 => ?_
    refine (ip_for (K := K) (ps := []) (n := 64) (I := fun _ sl => ∃ (n : Int) (s2 s3 : Sl), sl = [.d (.int c), .d (.int n), s2, s3]) (ea_cons ev_int ea_nil) ⟨by decide, by decide⟩ ⟨0, _, _, rfl⟩ ?_) G2 H2 σ2 n2.k f2 .nil _ fun σ3 sl3 G3 H3 ⟨n, s2, s3, e⟩ n3 _ f3 => ?_
    · rintro i sl hi ⟨n, s2, s3, rfl⟩
      have p1 : IntMulOk ((c.fmod 2147483629 + 7919 * (i : Int) + 1)) 48271 := mulR ⟨by decide, by decide⟩
      refine ip_nt (nt_asg (ev_op (ev_op (ev_op (ev_op (ev_op (ev_var rfl) ev_int (r2_mod (by decide))) (ev_op ev_int (ev_var rfl) (r2_mul (mulL ⟨by decide, by decide⟩))) r2_add) ev_int r2_add) ev_int (r2_mul p1)) ev_int (r2_mod (by decide)))) ?_
      generalize hm : ((c.fmod 2147483629 + 7919 * (i : Int) + 1) * 48271).fmod 2147483647 = m
      have bm : -(2 ^ 64) < m ∧ m < 2 ^ 64 := by
        have := fmod_bd (a := (c.fmod 2147483629 + 7919 * (i : Int) + 1) * 48271) (b := 2147483647) (by decide)
        rw [hm] at this
        omega
      refine ip_nt (nt_asg (ev_op (ev_op (ev_op (ev_op (ev_var rfl) (ev_var rfl) (r2_mul (mulL bm))) (ev_op ev_int (ev_var rfl) (r2_mul (mulL ⟨by decide, by decide⟩))) r2_add) ev_int r2_add) ev_int (r2_mod (by decide)))) ?_
      exact ip_end (nt_asg (ev_op (ev_op (ev_var rfl) ev_int (r2_mul (mulR ⟨by decide, by decide⟩))) (ev_var rfl) r2_add)) ⟨_, _, _, rfl⟩
    · subst e
      exact new n _ _ G3 H3 σ3 ((n1.trans n2).trans n3.nx) f3 (ev_var rfl)
theorem h__law_take (T : Txt K mg ca fa ka) : Has P w K mg base CX0 1 "_law_take" ["_law_pot_here", "_law_far"] spTake := by
  refine T.d__law_take.any sc__law_take (fun vs H Q E h => by obtain ⟨p, n, f, rfl, _⟩ := h; rfl) (fun f cdv A outer s H E hr => (pss_cons (ps_set (i := 2) sc__law_take.nd rfl (Or.inl rfl) (pe_op op_modN (pe_ix (ixK (K := K) rfl) (pv 0) pe_int (fun _ _ => rfl)) (pv 1))) (pss_cons (ps_asg (pe_op op_fdivA (pe_ix (ixK (K := K) rfl) (pv 0) pe_int (fun _ _ => rfl)) (pv 1)) (pg_sub (pv 0) pe_int set_list)) (pss_one (ps_ret (pv 2)))))) ?_
  rintro vs H Q E ⟨p, n, f, rfl, hp, h0, h9, q⟩
  have at0 : atI [V.int n] 0 = some (.int n) := rfl
  refine ⟨.ref p, rfl, .inl ⟨p, [.int n], 0, .int n, rfl, rfl, .inl (.inl hp), at0, .int f, rfl, n, f, rfl, rfl, by omega, ?_⟩⟩
  refine ⟨.ref p, rfl, .inl ⟨p, [.int n], 0, .int n, rfl, rfl, .inl (.inl hp), at0, .int f, rfl, n, f, rfl, rfl, ⟨by omega, h9⟩, ?_⟩⟩
  refine ⟨.ref p, rfl, p, [.int n], 0, 0, rfl, rfl, hp, rfl, .int (n.fmod f), rfl, ?_⟩
  have b := fmod_bd (a := n) h0
  exact q _ _ b.1 b.2
theorem h__law_fresh (T : Txt K mg ca fa ka) : Has P w K mg base CX0 1 "_law_fresh" [] (spFr K) := by
  refine T.d__law_fresh.any sc__law_fresh (fun vs H Q E h => by obtain ⟨rfl, _⟩ := h; rfl) (fun f cdv A outer s H E hr => (pss_one (ps_ret (pe_disp (pps_cons pe_str pe_dct (pps_cons pe_str (pe_tup (pa_cons pe_int (pa_cons pe_int pa_nil))) (pps_cons pe_str (pe_lst pa_nil) pps_nil))) rfl rfl (by simp) (by decide))))) ?_
  rintro vs H Q E ⟨rfl, G, k, q⟩
  exact fresh_ok k q
def NmS (d : Dt) : Prop := ∃ n : Str, d = .str n ∧ n.length ≤ 8 ∧ isNm (.str n) = true ∧ n ≠ "q"
theorem h__law_named (T : Txt K mg ca fa ka) : Has P w K mg base CX0 2 "_law_named" ["_law_pot_here"] (spM K (fun ds => ds = []) fun _ d => NmS d) := by
  refine T.d__law_named.draws sc__law_named (fun ds h => by subst h; rfl) (fun f cdv A outer s H E hr => (pss_one (ps_ret (pe_ix (ixK (K := K) rfl) (pe_lst (pa_cons pe_str (pa_cons pe_str (pa_cons pe_str (pa_cons pe_str (pa_cons pe_str (pa_cons pe_str (pa_cons pe_str (pa_cons pe_str (pa_cons pe_str (pa_cons pe_str (pa_cons pe_str (pa_cons pe_str (pa_cons pe_str (pa_cons pe_str pa_nil))))))))))))))) (pe_h (h__law_take T) hr (by decide) pass0 (pa_cons (pv 0) (pa_cons pe_int pa_nil))) (fun _ _ => rfl))))) ?_
  rintro ds rfl p
  have mem : p ∈ [p] := by simp
  refine ir_ret (ep_op (ep_ev (by walk_at "ev") (ep_take rfl mem (ep_ev ev_int ⟨14, rfl, by decide, by decide, fun m m0 m1 => ?_⟩))))
  obtain ⟨x, hat, hx⟩ := hit (P := NmS) (xs := [.str "a", .str "b", .str "ab", .str "hap", .str "z", .str "zzzzzzzz", .str "c", .str "d", .str "e", .str "f", .str "g", .str "h", .str "i", .str "j"]) m0 m1 rfl ⟨⟨_, rfl, by decide +kernel, by decide +kernel, by decide +kernel⟩, ⟨_, rfl, by decide +kernel, by decide +kernel, by decide +kernel⟩, ⟨_, rfl, by decide +kernel, by decide +kernel, by decide +kernel⟩, ⟨_, rfl, by decide +kernel, by decide +kernel, by decide +kernel⟩, ⟨_, rfl, by decide +kernel, by decide +kernel, by decide +kernel⟩, ⟨_, rfl, by decide +kernel, by decide +kernel, by decide +kernel⟩, ⟨_, rfl, by decide +kernel, by decide +kernel, by decide +kernel⟩, ⟨_, rfl, by decide +kernel, by decide +kernel, by decide +kernel⟩, ⟨_, rfl, by decide +kernel, by decide +kernel, by decide +kernel⟩, ⟨_, rfl, by decide +kernel, by decide +kernel, by decide +kernel⟩, ⟨_, rfl, by decide +kernel, by decide +kernel, by decide +kernel⟩, ⟨_, rfl, by decide +kernel, by decide +kernel, by decide +kernel⟩, ⟨_, rfl, by decide +kernel, by decide +kernel, by decide +kernel⟩, ⟨_, rfl, by decide +kernel, by decide +kernel, by decide +kernel⟩, trivial⟩
  exact ⟨_, r2_ixL hat, hx⟩
theorem h__law_low (T : Txt K mg ca fa ka) : Has P w K mg base CX0 1 "_law_low" ["_law_top", "_law_bottom"] (spP K R_low) := by
  refine T.d__law_low.pure sc__law_low (fun ds d h => by obtain ⟨t, b, rfl, _⟩ := h; rfl) (fun f cdv A outer s H E hr => (pss_cons (ps_par (i := 2) (j := 3) rfl sc__law_low.nd rfl rfl (by decide) rfl rfl (pa_cons (pe_callB cr_abs (by rfl) T.m_abs (by decide +kernel) (pa_cons (pv 0) pa_nil)) (pa_cons (pe_callB cr_abs (by rfl) T.m_abs (by decide +kernel) (pa_cons (pv 1) pa_nil)) pa_nil)) (by rfl)) (pss_cons (ps_while PassesOwn.never (pt_cmpR op_gt (pv 3) pe_int (nomark _)) (pss_one (ps_par (i := 2) (j := 3) rfl sc__law_low.nd rfl rfl (by decide) rfl rfl (pa_cons (pv 3) (pa_cons (pe_op op_modN (pv 2) (pv 3)) pa_nil)) (by rfl)))) (pss_cons (ps_if (pt_cmpR op_lt (pv 1) pe_int (nomark _)) (pss_one (ps_set (i := 2) sc__law_low.nd rfl (Or.inl rfl) (pe_op op_sub pe_int (pv 2)))) pss_nil) (pss_one (ps_ret (pe_tup (pa_cons (pe_op op_fdivA (pv 0) (pv 2)) (pa_cons (pe_op op_fdivA (pv 1) (pv 2)) pa_nil))))))))) ?_
  rintro ds d ⟨t, b, rfl, hb0, hb, rfl⟩
  refine rt_seq (nt_par (ea_cons (ev_cb (ea_cons (ev_var rfl) ea_nil) rc_abs) (ea_cons (ev_cb (ea_cons (ev_var rfl) ea_nil) rc_abs) ea_nil))) ?_
  have g0 : 0 < Nat.gcd t.natAbs b.natAbs := gcd_pos hb0
  refine rt_seq (nt_while (sl2 := [.d (.int t), .d (.int b), .d (.int ((Nat.gcd t.natAbs b.natAbs : Nat) : Int)), .d (.int ((0 : Nat) : Int))]) (fun s : Nat × Nat => [.d (.int t), .d (.int b), .d (.int (s.1 : Int)), .d (.int (s.2 : Int))]) (fun s => Nat.gcd s.1 s.2 = Nat.gcd t.natAbs b.natAbs) (fun s => s.2) (t.natAbs, b.natAbs) rfl rfl ?_) ?_
  · rintro ⟨x, y⟩ hg
    refine ⟨_, et_test (ev_op (ev_var rfl) ev_int r2_gt), fun hy => ?_, fun hy => ?_⟩
    · have hy : (0 : Int) < (y : Int) := of_decide_eq_true hy
      refine ⟨(y, x % y), ?_, Nat.mod_lt _ (by omega), ?_⟩
      · rw [← hg]
        show Nat.gcd y (x % y) = Nat.gcd x y
        rw [Nat.gcd_comm y, ← Nat.gcd_rec y x, Nat.gcd_comm]
      · refine nt_is (nt_par (ea_cons (ev_var rfl) (ea_cons (ev_op (ev_var rfl) (ev_var rfl) (r2_mod (by omega))) ea_nil))) ?_
        rw [fmod_nat]
        rfl
    · have hy : ¬ (0 : Int) < (y : Int) := of_decide_eq_false hy
      have y0 : y = 0 := by omega
      subst y0
      rw [← hg]
      show _ = _
      rw [Nat.gcd_zero_right]
  · refine rt_seq (nt_if (sl2 := [.d (.int t), .d (.int b), .d (.int (dvs t b)), .d (.int ((0 : Nat) : Int))]) (et_test (ev_op (ev_var rfl) ev_int r2_lt)) (fun h => ?_) (fun h => ?_)) ?_
    · refine nt_is (nt_asg (ev_op ev_int (ev_var rfl) r2_sub)) ?_
      have e : dvs t b = 0 - ((Nat.gcd t.natAbs b.natAbs : Nat) : Int) := by
        unfold dvs
        rw [if_pos (of_decide_eq_true h)]
        omega
      rw [e]
      rfl
    · refine nt_is nt_next ?_
      have e : dvs t b = ((Nat.gcd t.natAbs b.natAbs : Nat) : Int) := by
        unfold dvs
        rw [if_neg (of_decide_eq_false h)]
      rw [e]
    · have dk : ∀ i, CDivA i (dvs t b) := fun i => divok (dvs_ne hb0) (bt_dvs hb0 hb) (by decide)
      exact rt_is (rt_ret (ev_tup (ea_cons (ev_op (ev_var rfl) (ev_var rfl) (r2_div (dk _))) (ea_cons (ev_op (ev_var rfl) (ev_var rfl) (r2_div (dk _))) ea_nil)))) (low_fq hb0)
theorem h__law_hap (T : Txt K mg ca fa ka) : Has P w K mg base CX0 2 "_law_hap" ["_law_pot_here"] (spM K (fun ds => ds = []) fun _ d => ∃ t p : Rat, d = .tup [fq t, fq p] ∧ Bq 90 t ∧ Bq 4 p ∧ t.den ≤ 2) := by
  refine T.d__law_hap.draws sc__law_hap (fun ds h => by subst h; rfl) (fun f cdv A outer s H E hr => (pss_cons (ps_set (i := 1) sc__law_hap.nd rfl (Or.inl rfl) (pe_ix (ixK (K := K) rfl) (pe_lst (pa_cons pe_int (pa_cons (pe_op op_pow pe_int pe_int) pa_nil))) (pe_op op_fdivA (pe_h (h__law_take T) hr (by decide) pass0 (pa_cons (pv 0) (pa_cons pe_int pa_nil))) pe_int) (fun _ _ => rfl))) (pss_cons (ps_set (i := 2) sc__law_hap.nd rfl (Or.inl rfl) (pe_h (h__law_low T) hr (by decide) pass0 (pa_cons (pe_op op_add (pe_op op_sub (pe_h (h__law_take T) hr (by decide) pass0 (pa_cons (pv 0) (pa_cons pe_int pa_nil))) pe_int) (pe_op op_mulA pe_int (pv 1))) (pa_cons (pe_op op_add pe_int (pe_h (h__law_take T) hr (by decide) pass0 (pa_cons (pv 0) (pa_cons pe_int pa_nil)))) pa_nil)))) (pss_one (ps_ret (pe_tup (pa_cons (pv 2) (pa_cons (pe_h (h__law_low T) hr (by decide) pass0 (pa_cons (pe_op op_sub (pe_h (h__law_take T) hr (by decide) pass0 (pa_cons (pv 0) (pa_cons pe_int pa_nil))) pe_int) (pa_cons (pe_op op_add pe_int (pe_h (h__law_take T) hr (by decide) pass0 (pa_cons (pv 0) (pa_cons pe_int pa_nil)))) pa_nil))) pa_nil)))))))) ?_
  rintro ds rfl p
  have mem : p ∈ [p] := by simp
  refine ir_asg (ep_op (ep_ev (ev_lst (ea_cons ev_int (ea_cons (ev_op ev_int ev_int (r2_pow ⟨by decide, by decide, by decide⟩)) ea_nil))) (ep_op (ep_take rfl mem (ep_ev ev_int ⟨12, rfl, by decide, by decide, fun m m0 m1 => ep_ev ev_int ⟨_, r2_div ⟨by decide, by decide⟩, ?_⟩⟩)))))
  have hfar : ∃ far : Int, atI [Dt.int 0, .int (10 ^ (25 : Int).toNat)] (m.fdiv 11) = some (.int far) ∧ 0 ≤ far ∧ far ≤ 10 ^ 25 := by
    rw [Int.fdiv_eq_ediv_of_nonneg _ (by decide)]
    by_cases h : m < 11
    · rw [show m / 11 = 0 by omega]
      exact ⟨0, rfl, by decide, by decide⟩
    · rw [show m / 11 = 1 by omega]
      exact ⟨10 ^ (25 : Int).toNat, rfl, by decide, by decide⟩
  obtain ⟨far, hat, f0, f1⟩ := hfar
  refine ⟨_, r2_ixL hat, ?_⟩
  refine ir_asg (ep_call (epa_cons (ep_op (ep_op (ep_take rfl mem (ep_ev ev_int ⟨13, rfl, by decide, by decide, fun a a0 a1 => ep_ev ev_int ⟨_, r2_sub, ep_ev (ev_op ev_int (ev_var rfl) (r2_mul (mulL ⟨by decide, by decide⟩))) ⟨_, r2_add, epa_cons (ep_op (ep_ev ev_int (ep_take rfl mem (ep_ev ev_int ⟨2, rfl, by decide, by decide, fun b b0 b1 => ⟨_, r2_add, epa_nil ?_⟩⟩))))⟩⟩⟩))))))
  have bb : Bt 90 (1 + b) := by
    show (1 + b).natAbs < 2 ^ 90
    omega
  have ba : Bt 90 (a - 6 + 2 * far) := by
    show (a - 6 + 2 * far).natAbs < 2 ^ 90
    omega
  refine ⟨_, ⟨_, _, rfl, by omega, bb.mono (by decide), rfl⟩, ?_⟩
  refine ir_ret (ep_tup (epa_cons (ep_ev (ev_var rfl) (epa_cons (ep_call (epa_cons (ep_op (ep_take rfl mem (ep_ev ev_int ⟨13, rfl, by decide, by decide, fun c c0 c1 => ep_ev ev_int ⟨_, r2_sub, epa_cons (ep_op (ep_ev ev_int (ep_take rfl mem (ep_ev ev_int ⟨2, rfl, by decide, by decide, fun d d0 d1 => ⟨_, r2_add, epa_nil ?_⟩⟩))))⟩⟩)))))))))
  have bd : Bt 4 (1 + d) := by
    show (1 + d).natAbs < 2 ^ 4
    omega
  have bc : Bt 4 (c - 6) := by
    show (c - 6).natAbs < 2 ^ 4
    omega
  exact ⟨_, ⟨_, _, rfl, by omega, bd.mono (by decide), rfl⟩, epa_nil ⟨by exact Nat.le_of_ble_eq_true rfl, _, _, rfl, bq_div (by omega) ba bb, bq_div (by omega) bc bd, Nat.le_trans (den_le (by omega)) (by omega)⟩⟩
theorem h__law_stretch (T : Txt K mg ca fa ka) : Has P w K mg base CX0 2 "_law_stretch" ["_law_pot_here"] (spM K (fun ds => ds = []) fun _ d => ∃ q, d = fq q ∧ 0 < q ∧ Bq 21 q) := by
  refine T.d__law_stretch.draws sc__law_stretch (fun ds h => by subst h; rfl) (fun f cdv A outer s H E hr => (pss_cons (ps_set (i := 1) sc__law_stretch.nd rfl (Or.inl rfl) (pe_ix (ixK (K := K) rfl) (pe_lst (pa_cons pe_int (pa_cons pe_int (pa_cons pe_int (pa_cons (pe_op op_pow pe_int pe_int) pa_nil))))) (pe_h (h__law_take T) hr (by decide) pass0 (pa_cons (pv 0) (pa_cons pe_int pa_nil))) (fun _ _ => rfl))) (pss_cons (ps_set (i := 2) sc__law_stretch.nd rfl (Or.inl rfl) (pe_op op_add pe_int (pe_h (h__law_take T) hr (by decide) pass0 (pa_cons (pv 0) (pa_cons (pv 1) pa_nil))))) (pss_one (ps_ret (pe_h (h__law_low T) hr (by decide) pass0 (pa_cons (pv 2) (pa_cons (pe_op op_add pe_int (pe_h (h__law_take T) hr (by decide) pass0 (pa_cons (pv 0) (pa_cons (pv 1) pa_nil)))) pa_nil)))))))) ?_
  rintro ds rfl p
  have mem : p ∈ [p] := by simp
  refine ir_asg (ep_op (ep_ev (by walk_at "ev") (ep_take rfl mem (ep_ev ev_int ⟨4, rfl, by decide, by decide, fun m m0 m1 => ?_⟩))))
  obtain ⟨_, hat, far, rfl, f0, f1⟩ := hit (P := fun d => ∃ far : Int, d = .int far ∧ 0 < far ∧ far ≤ 10 ^ 6) (xs := [.int 9, .int 9, .int 9, .int (10 ^ (6 : Int).toNat)]) m0 m1 rfl ⟨⟨_, rfl, by decide, by decide⟩, ⟨_, rfl, by decide, by decide⟩, ⟨_, rfl, by decide, by decide⟩, ⟨_, rfl, by decide, by decide⟩, trivial⟩
  refine ⟨_, r2_ixL hat, ?_⟩
  refine ir_asg (ep_op (ep_ev ev_int (ep_take rfl mem (ep_ev (ev_var rfl) ⟨far, rfl, f0, lg64 (by omega) (by omega), fun t t0 t1 => ⟨_, r2_add, ?_⟩⟩))))
  refine ir_ret (ep_call (epa_cons (ep_ev (ev_var rfl) (epa_cons (ep_op (ep_ev ev_int (ep_take rfl mem (ep_ev (ev_var rfl) ⟨far, rfl, f0, lg64 (by omega) (by omega), fun b b0 b1 => ⟨_, r2_add, epa_nil ?_⟩⟩))))))))
  have bt : Bt 21 (1 + t) := by
    show (1 + t).natAbs < 2 ^ 21
    omega
  have bb : Bt 21 (1 + b) := by
    show (1 + b).natAbs < 2 ^ 21
    omega
  exact ⟨_, low_ok (by omega) (bb.mono (by decide)), _, rfl, pos_low (by omega) (by omega), bq_div (by omega) bt bb⟩
theorem h__law_fast (T : Txt K mg ca fa ka) : Has P w K mg base CX0 3 "_law_fast" ["_law_pot_here"] (spM K (fun ds => ds = []) fun _ d => ∃ s, d = fq (pl s) ∧ 0 < s ∧ Bq 21 s) := by
  refine T.d__law_fast.draws sc__law_fast (fun ds h => by subst h; rfl) (fun f cdv A outer s H E hr => (pss_cons (ps_asg (pe_h (h__law_stretch T) hr (by decide) pass0 (pa_cons (pv 0) pa_nil)) (tupK (K := K) (n := 2) rfl rfl (pgs_cons (pg_name (i := 1) sc__law_fast.nd rfl (Or.inl rfl)) (pgs_cons (pg_name (i := 2) sc__law_fast.nd rfl (Or.inl rfl)) pgs_nil)))) (pss_one (ps_ret (pe_h (h__law_low T) hr (by decide) pass0 (pa_cons (pe_op op_sub (pe_op op_mulA (pv 1) (pv 1)) (pe_op op_mulA (pv 2) (pv 2))) (pa_cons (pe_op op_add (pe_op op_mulA (pv 1) (pv 1)) (pe_op op_mulA (pv 2) (pv 2))) pa_nil))))))) ?_
  rintro ds rfl p
  have mem : p ∈ [p] := by simp
  refine ir_unp (ep_callM rfl mem (epa_nil ⟨rfl, ?_⟩))
  rintro _ ⟨s, rfl, s0, bs⟩
  refine ⟨_, _, rfl, ?_⟩
  have h0 : s.num * s.num + (s.den : Int) * (s.den : Int) ≠ 0 := by
    have a := den_pos s
    have b := Int.mul_pos a a
    have c : 0 ≤ s.num * s.num := by
      rw [← Int.natAbs_mul_self]
      omega
    omega
  have hb : Bt 9000 (s.num * s.num + (s.den : Int) * (s.den : Int)) := (bt_add (k := 43) (bt_mul bs.1 bs.1) (bt_mul bs.2 bs.2) (by decide) (by decide)).mono (by decide)
  have e := pl_low s s0
  refine ir_ret (ep_ev (ev_call (by walk_at "ea") (by exact low_ok h0 hb)) ⟨s, ?_, s0, bs⟩)
  rw [e]
theorem h__law_speed (T : Txt K mg ca fa ka) : Has P w K mg base CX0 4 "_law_speed" ["_law_pot_here"] (spM K (fun ds => ds = []) fun _ d => ∃ q, d = fq q ∧ Sp q ∧ Bq 67 q) := by
  refine T.d__law_speed.draws sc__law_speed (fun ds h => by subst h; rfl) (fun f cdv A outer s H E hr => (pss_cons (ps_set (i := 1) sc__law_speed.nd rfl (Or.inl rfl) (pe_h (h__law_take T) hr (by decide) pass0 (pa_cons (pv 0) (pa_cons pe_int pa_nil)))) (pss_cons (ps_if (pt_cmpR op_lt (pv 1) pe_int (nomark _)) (pss_one (ps_ret (pe_h (h__law_fast T) hr (by decide) pass0 (pa_cons (pv 0) pa_nil)))) pss_nil) (pss_cons (ps_if (pt_cmpR (eqK (K := K) rfl hr.units) (pv 1) pe_int (nomark _)) (pss_one (ps_ret (pe_tup (pa_cons (pe_op op_sub (pe_op op_pow pe_int pe_int) pe_int) (pa_cons (pe_op op_pow pe_int pe_int) pa_nil))))) pss_nil) (pss_cons (ps_set (i := 2) sc__law_speed.nd rfl (Or.inl rfl) (pe_op op_add pe_int (pe_h (h__law_take T) hr (by decide) pass0 (pa_cons (pv 0) (pa_cons pe_int pa_nil))))) (pss_cons (ps_set (i := 3) sc__law_speed.nd rfl (Or.inl rfl) (pe_op op_add (pe_op op_sub (pe_h (h__law_take T) hr (by decide) pass0 (pa_cons (pv 0) (pa_cons (pe_op op_sub (pe_op op_mulA pe_int (pv 2)) pe_int) pa_nil))) (pv 2)) pe_int)) (pss_one (ps_ret (pe_h (h__law_low T) hr (by decide) pass0 (pa_cons (pv 3) (pa_cons (pv 2) pa_nil))))))))))) ?_
  rintro ds rfl p
  have mem : p ∈ [p] := by simp
  refine ir_asg (ep_take rfl mem (ep_ev ev_int ⟨12, rfl, by decide, by decide, fun m m0 m1 => ?_⟩))
  refine ir_cond (by walk_at "et") (fun _ => ?_) (fun _ => ?_)
  · refine ir_ret (ep_callM rfl mem (epa_nil ⟨rfl, ?_⟩))
    rintro _ ⟨s, rfl, s0, bs⟩
    exact ⟨_, rfl, pl_sp s0, (bq_pl bs s0).mono (by decide)⟩
  refine ir_cond (by walk_at "et") (fun _ => ?_) (fun _ => ?_)
  · exact ir_ret (ep_ev (by walk_at "ev") ⟨⟨10 ^ 20 - 1, 10 ^ 20, by decide, by decide +kernel⟩, rfl, sp_iff.mpr (by decide +kernel), ⟨by show Int.natAbs _ < 2 ^ 67; decide +kernel, by show Int.natAbs _ < 2 ^ 67; decide +kernel⟩⟩)
  refine ir_asg (ep_op (ep_ev ev_int (ep_take rfl mem (ep_ev ev_int ⟨12, rfl, by decide, by decide, fun b b0 b1 => ⟨_, r2_add, ?_⟩⟩))))
  refine ir_asg (ep_op (ep_op (ep_take rfl mem (ep_ev (by walk_at "ev") ⟨_, rfl, by omega, lg64 (by omega) (by omega), fun t t0 t1 => ep_ev (ev_var rfl) ⟨_, r2_sub, ep_ev ev_int ⟨_, r2_add, ?_⟩⟩⟩))))
  have bt : Bt 67 (t - (1 + b) + 1) := by
    show (t - (1 + b) + 1).natAbs < 2 ^ 67
    omega
  have bb : Bt 67 (1 + b) := by
    show (1 + b).natAbs < 2 ^ 67
    omega
  exact ir_ret (ep_ev (ev_call (by walk_at "ea") (by exact low_ok (by omega) (bb.mono (by decide)))) ⟨_, rfl, sp_low (by omega) (by omega), bq_div (by omega) bt bb⟩)
theorem nm_txt {d : Dt} (h : NmS d) : TxtB d := fun s e => by
  obtain ⟨n, rfl, hn, _⟩ := h
  cases e
  omega
theorem nm_ntx {d : Dt} (h : NmS d) : NmT d := ⟨nm_txt h, fun e => by
  obtain ⟨n, rfl, _, _, hq⟩ := h
  cases e
  exact hq rfl⟩
theorem spd_fq {q : Rat} (s : Sp q) (b : Bq 67 q) : SpdB (fq q) := ⟨sz_fq (by show Int.natAbs _ < 2 ^ 9000; exact Nat.lt_of_lt_of_le b.2 (Nat.pow_le_pow_right (by decide) (by decide))), fun _ => ⟨q, rfl, s, b⟩⟩
theorem spd_non : SpdB .non := ⟨fun _ _ e => (by cases e), fun z => (by cases z)⟩
theorem spd_11 : SpdB (.tup [.int 1, .int 1]) := ⟨fun t b e => (by cases e; show Int.natAbs 1 < 2 ^ 9000; exact Nat.one_lt_two_pow (by decide)), fun z => absurd z (by decide +kernel)⟩
theorem spd_12 : SpdB (.tup [.int 1, .int 2]) := by
  obtain ⟨hv, n2, d2⟩ : ∃ h : Rat, h.num = 1 ∧ h.den = 2 := ⟨1 / 2, by decide +kernel, by decide +kernel⟩
  have eh : fq hv = .tup [.int 1, .int 2] := by
    unfold fq
    rw [n2, d2]
    rfl
  rw [← eh]
  have bq : Bq 67 hv := ⟨by rw [n2]; show Int.natAbs 1 < 2 ^ 67; decide, by rw [d2]; show Int.natAbs 2 < 2 ^ 67; decide⟩
  have sp : isSpD (fq hv) = true := by rw [eh]; decide +kernel
  exact ⟨sz_fq (by show Int.natAbs _ < 2 ^ 9000; exact Nat.lt_of_lt_of_le bq.2 (Nat.pow_le_pow_right (by decide) (by decide))), fun _ => ⟨hv, rfl, (by obtain ⟨q, sq, e⟩ := isSpD_iff.mp sp; rw [fq_inj e]; exact sq), bq⟩⟩
def HapOr (d : Dt) : Prop := Sz2 d ∧ (isHp d = true → ∃ q : Rat × Rat, d = hpD q ∧ Bq 90 q.1 ∧ Bq 4 q.2)
theorem hap_or {t r : Rat} (h1 : Bq 90 t) (h2 : Bq 4 r) : HapOr (.tup [fq t, fq r]) := ⟨⟨fun a b e => (by injection e with e; injection e with e _; cases e), fun a b e => (by
  injection e with e
  injection e with e1 e2
  injection e2 with e2 _
  subst e1 e2
  exact ⟨sz_fq (by show Int.natAbs _ < 2 ^ 9000; exact Nat.lt_of_lt_of_le h1.2 (Nat.pow_le_pow_right (by decide) (by decide))), sz_fq (by show Int.natAbs _ < 2 ^ 9000; exact Nat.lt_of_lt_of_le h2.2 (Nat.pow_le_pow_right (by decide) (by decide)))⟩)⟩, fun _ => ⟨(t, r), rfl, h1, h2⟩⟩
theorem h__law_deed (T : Txt K mg ca fa ka) : Has P w K mg base CX0 5 "_law_deed" ["_law_pot_here"] (spM K (fun ds => ds = []) fun _ d => ∃ de : Deed, d = .tup [.str de.w, .lst de.t] ∧ DeedOk de) := by
  refine T.d__law_deed.draws sc__law_deed (fun ds h => by subst h; rfl) (fun f cdv A outer s H E hr => (pss_cons (ps_set (i := 1) sc__law_deed.nd rfl (Or.inl rfl) (pe_h (h__law_take T) hr (by decide) pass0 (pa_cons (pv 0) (pa_cons pe_int pa_nil)))) (pss_cons (ps_if (pt_cmpR op_lt (pv 1) pe_int (nomark _)) (pss_cons (ps_set (i := 2) sc__law_deed.nd rfl (Or.inl rfl) (pe_h (h__law_named T) hr (by decide) pass0 (pa_cons (pv 0) pa_nil))) (pss_cons (ps_if (pt_cmpR (eqK (K := K) rfl hr.units) (pe_h (h__law_take T) hr (by decide) pass0 (pa_cons (pv 0) (pa_cons pe_int pa_nil))) pe_int (nomark _)) (pss_one (ps_set (i := 2) sc__law_deed.nd rfl (Or.inl rfl) (pe_ix (ixK (K := K) rfl) (pe_lst (pa_cons pe_str (pa_cons pe_str (pa_cons pe_str (pa_cons pe_int (pa_cons pe_non pa_nil)))))) (pe_h (h__law_take T) hr (by decide) pass0 (pa_cons (pv 0) (pa_cons pe_int pa_nil))) (fun _ _ => rfl)))) pss_nil) (pss_cons (ps_set (i := 3) sc__law_deed.nd rfl (Or.inl rfl) (pe_ix (ixK (K := K) rfl) (pe_lst (pa_cons (pe_tup (pa_cons (pe_tup (pa_cons pe_int (pa_cons pe_int pa_nil))) (pa_cons (pe_tup (pa_cons pe_int (pa_cons pe_int pa_nil))) pa_nil))) (pa_cons pe_non (pa_cons (pe_lst (pa_cons (pe_tup (pa_cons pe_int (pa_cons pe_int pa_nil))) (pa_cons (pe_tup (pa_cons pe_int (pa_cons pe_int pa_nil))) pa_nil))) (pa_cons pe_str pa_nil))))) (pe_h (h__law_take T) hr (by decide) pass0 (pa_cons (pv 0) (pa_cons pe_int pa_nil))) (fun _ _ => rfl))) (pss_one (ps_ret (pe_tup (pa_cons pe_str (pa_cons (pe_lst (pa_cons (pv 2) (pa_cons (pe_ix (ixK (K := K) rfl) (pe_lst (pa_cons (pe_h (h__law_hap T) hr (by decide) pass0 (pa_cons (pv 0) pa_nil)) (pa_cons (pv 3) pa_nil))) (pe_op op_fdivA (pe_h (h__law_take T) hr (by decide) pass0 (pa_cons (pv 0) (pa_cons pe_int pa_nil))) pe_int) (fun _ _ => rfl)) pa_nil))) pa_nil)))))))) pss_nil) (pss_cons (ps_if (pt_cmpR op_lt (pv 1) pe_int (nomark _)) (pss_one (ps_ret (pe_tup (pa_cons pe_str (pa_cons (pe_lst (pa_cons (pe_ix (ixK (K := K) rfl) (pe_lst (pa_cons (pe_h (h__law_named T) hr (by decide) pass0 (pa_cons (pv 0) pa_nil)) (pa_cons pe_str (pa_cons pe_non pa_nil)))) (pe_ix (ixK (K := K) rfl) (pe_lst (pa_cons pe_int (pa_cons pe_int (pa_cons pe_int (pa_cons pe_int (pa_cons pe_int (pa_cons pe_int pa_nil))))))) (pe_h (h__law_take T) hr (by decide) pass0 (pa_cons (pv 0) (pa_cons pe_int pa_nil))) (fun _ _ => rfl)) (fun _ _ => rfl)) pa_nil)) pa_nil))))) pss_nil) (pss_cons (ps_if (pt_cmpR op_lt (pv 1) pe_int (nomark _)) (pss_cons (ps_set (i := 4) sc__law_deed.nd rfl (Or.inl rfl) (pe_h (h__law_fast T) hr (by decide) pass0 (pa_cons (pv 0) pa_nil))) (pss_cons (ps_if (pt_cmpR (eqK (K := K) rfl hr.units) (pe_h (h__law_take T) hr (by decide) pass0 (pa_cons (pv 0) (pa_cons pe_int pa_nil))) pe_int (nomark _)) (pss_one (ps_set (i := 4) sc__law_deed.nd rfl (Or.inl rfl) (pe_ix (ixK (K := K) rfl) (pe_lst (pa_cons (pe_h (h__law_speed T) hr (by decide) pass0 (pa_cons (pv 0) pa_nil)) (pa_cons (pe_tup (pa_cons pe_int (pa_cons pe_int pa_nil))) (pa_cons (pe_tup (pa_cons pe_int (pa_cons pe_int pa_nil))) (pa_cons pe_non pa_nil))))) (pe_h (h__law_take T) hr (by decide) pass0 (pa_cons (pv 0) (pa_cons pe_int pa_nil))) (fun _ _ => rfl)))) pss_nil) (pss_one (ps_ret (pe_tup (pa_cons (pe_ix (ixK (K := K) rfl) (pe_lst (pa_cons pe_str (pa_cons pe_str pa_nil))) (pe_op op_modN (pv 1) pe_int) (fun _ _ => rfl)) (pa_cons (pe_lst (pa_cons (pv 4) pa_nil)) pa_nil))))))) pss_nil) (pss_one (ps_ret (pe_tup (pa_cons pe_str (pa_cons (pe_lst pa_nil) pa_nil)))))))))) ?_
  rintro ds rfl p
  have mem : p ∈ [p] := by simp
  refine ir_asg (ep_take rfl mem (ep_ev ev_int ⟨16, rfl, by decide, by decide, fun way w0 w1 => ?_⟩))
  refine ir_cond (et_test (ev_op (ev_var rfl) ev_int r2_lt)) (fun z1 => ?_) (fun z1 => ?_)
  · refine ir_asg (ep_callM rfl mem (epa_nil ⟨rfl, ?_⟩))
    rintro nm hnm
    refine ir_ip (N := fun s => ∃ x : Dt, NmT x ∧ s = [.raw (.ref p), .d (.int way), .d x, .no, .no]) (ip_ifP (ept_test (ep_op (ep_take rfl mem (ep_ev ev_int ⟨6, rfl, by decide, by decide, fun m m0 m1 => ep_ev ev_int ⟨_, r2_eqI, _, rfl, fun _ => ?_, fun _ => ⟨nm, nm_ntx hnm, rfl⟩⟩⟩))))) ?_
    · refine ip_asg1 (ep_op (ep_ev (by walk_at "ev") (ep_take rfl mem (ep_ev ev_int ⟨5, rfl, by decide, by decide, fun k k0 k1 => ?_⟩))))
      obtain ⟨x, hat, hx⟩ := hit (P := NmT) (xs := [.str "A", .str "", .str "abcdefghi", .int 5, .non]) k0 k1 rfl ⟨⟨fun s e => (by cases e; decide +kernel), fun e => absurd e (fun z => by injection z with z; revert z; decide +kernel)⟩, ⟨fun s e => (by cases e; decide +kernel), fun e => absurd e (fun z => by injection z with z; revert z; decide +kernel)⟩, ⟨fun s e => (by cases e; decide +kernel), fun e => absurd e (fun z => by injection z with z; revert z; decide +kernel)⟩, ⟨fun s e => (by cases e), fun e => by cases e⟩, ⟨fun s e => (by cases e), fun e => by cases e⟩, trivial⟩
      exact ⟨_, r2_ixL hat, x, hx, rfl⟩
    rintro s ⟨x, hx, rfl⟩
    refine ir_asg (ep_op (ep_ev (by walk_at "ev") (ep_take rfl mem (ep_ev ev_int ⟨4, rfl, by decide, by decide, fun k k0 k1 => ?_⟩))))
    obtain ⟨bad, hat, hb⟩ := hit (P := HapOr) (xs := [.tup [.tup [.int 0, .int 2], .tup [.int 0, .int 1]], .non, .lst [.tup [.int 0, .int 1], .tup [.int 0, .int 1]], .str "0@0"]) k0 k1 rfl ⟨⟨⟨fun a b e => (by cases e), fun a b e => (by cases e; exact ⟨fun t b e => (by cases e; show Int.natAbs 2 < 2 ^ 9000; exact Nat.lt_of_lt_of_le (m := 2 ^ 2) (by decide) (Nat.pow_le_pow_right (by decide) (by decide))), fun t b e => (by cases e; show Int.natAbs 1 < 2 ^ 9000; exact Nat.one_lt_two_pow (by decide))⟩)⟩, fun z => absurd z (by decide +kernel)⟩, ⟨⟨fun a b e => (by cases e), fun a b e => (by cases e)⟩, fun z => (by cases z)⟩, ⟨⟨fun a b e => (by cases e), fun a b e => (by cases e)⟩, fun z => (by cases z)⟩, ⟨⟨fun a b e => (by cases e), fun a b e => (by cases e)⟩, fun z => (by cases z)⟩, trivial⟩
    refine ⟨_, r2_ixL hat, ?_⟩
    refine ir_ret (ep_tup (epa_cons (ep_ev ev_str (epa_cons (ep_lst (epa_cons (ep_ev (ev_var rfl) (epa_cons (ep_op (ep_lst (epa_cons (ep_callM rfl mem (epa_nil ⟨rfl, ?_⟩)))))))))))))
    rintro hp ⟨t, r, rfl, bt, br, _⟩
    refine epa_ev (by walk_at "ea") ⟨by exact Nat.le_of_ble_eq_true rfl, ep_op (ep_take rfl mem (ep_ev ev_int ⟨8, rfl, by decide, by decide, fun j j0 j1 => ep_ev ev_int ⟨_, r2_div (by exact ⟨by decide, by decide⟩), ?_⟩⟩))⟩
    have hj : 0 ≤ j.fdiv 7 ∧ j.fdiv 7 < 2 := by
      rw [Int.fdiv_eq_ediv_of_nonneg _ (by decide)]
      omega
    obtain ⟨y, haty, hy⟩ := hit (P := HapOr) (xs := [.tup [fq t, fq r], bad]) hj.1 hj.2 rfl ⟨hap_or bt br, hb, trivial⟩
    exact ⟨_, r2_ixL haty, epa_nil ⟨by exact Nat.le_of_ble_eq_true rfl, epa_nil ⟨by exact Nat.le_of_ble_eq_true rfl, .put x y, rfl, hx, hy.1, hy.2⟩⟩⟩
  refine ir_cond (et_test (ev_op (ev_var rfl) ev_int r2_lt)) (fun z2 => ?_) (fun z2 => ?_)
  · refine ir_ret (ep_tup (epa_cons (ep_ev ev_str (epa_cons (ep_lst (epa_cons (ep_op (ep_lst (epa_cons (ep_callM rfl mem (epa_nil ⟨rfl, ?_⟩)))))))))))
    rintro nm hnm
    refine epa_ev (by walk_at "ea") ⟨by exact Nat.le_of_ble_eq_true rfl, ep_op (ep_ev (by walk_at "ev") (ep_take rfl mem (ep_ev ev_int ⟨6, rfl, by decide, by decide, fun k k0 k1 => ?_⟩)))⟩
    obtain ⟨ix, hat, i, rfl, i0, i1⟩ := hit (P := fun d => ∃ i : Int, d = .int i ∧ 0 ≤ i ∧ i < 3) (xs := [.int 0, .int 0, .int 0, .int 0, .int 1, .int 2]) k0 k1 rfl ⟨⟨_, rfl, by decide, by decide⟩, ⟨_, rfl, by decide, by decide⟩, ⟨_, rfl, by decide, by decide⟩, ⟨_, rfl, by decide, by decide⟩, ⟨_, rfl, by decide, by decide⟩, ⟨_, rfl, by decide, by decide⟩, trivial⟩
    refine ⟨_, r2_ixL hat, ?_⟩
    obtain ⟨y, haty, hy⟩ := hit (P := TxtB) (xs := [nm, .str "A", .non]) i0 i1 rfl ⟨nm_txt hnm, fun s e => (by cases e; decide +kernel), fun s e => (by cases e), trivial⟩
    exact ⟨_, r2_ixL haty, epa_nil ⟨by exact Nat.le_of_ble_eq_true rfl, epa_nil ⟨by exact Nat.le_of_ble_eq_true rfl, .drop y, rfl, hy⟩⟩⟩
  refine ir_cond (et_test (ev_op (ev_var rfl) ev_int r2_lt)) (fun z3 => ?_) (fun z3 => ir_ret (ep_ev (ev_tup (ea_cons ev_str (ea_cons (ev_lst ea_nil) ea_nil))) ⟨.undo, rfl, trivial⟩))
  refine ir_asg (ep_callM rfl mem (epa_nil ⟨rfl, ?_⟩))
  rintro _ ⟨sq, rfl, s0, bs⟩
  refine ir_ip (N := fun s => ∃ x : Dt, SpdB x ∧ s = [.raw (.ref p), .d (.int way), .no, .no, .d x]) (ip_ifP (ept_test (ep_op (ep_take rfl mem (ep_ev ev_int ⟨4, rfl, by decide, by decide, fun m m0 m1 => ep_ev ev_int ⟨_, r2_eqI, _, rfl, fun _ => ?_, fun _ => ⟨_, spd_fq (pl_sp s0) ((bq_pl bs s0).mono (by decide)), rfl⟩⟩⟩))))) ?_
  · refine ip_asg1 (ep_op (ep_lst (epa_cons (ep_callM rfl mem (epa_nil ⟨rfl, ?_⟩)))))
    rintro _ ⟨v, rfl, sv, bv⟩
    refine epa_ev (by walk_at "ea") ⟨by exact Nat.le_of_ble_eq_true rfl, ep_take rfl mem (ep_ev ev_int ⟨4, rfl, by decide, by decide, fun k k0 k1 => ?_⟩)⟩
    obtain ⟨y, hat, hy⟩ := hit (P := SpdB) (xs := [fq v, .tup [.int 1, .int 1], .tup [.int 1, .int 2], .non]) k0 k1 rfl ⟨spd_fq sv bv, spd_11, spd_12, spd_non, trivial⟩
    exact ⟨_, r2_ixL hat, y, hy, rfl⟩
  rintro s ⟨x, hx, rfl⟩
  have hm : 0 ≤ way.fmod 2 ∧ way.fmod 2 < 2 := by
    rw [Int.fmod_eq_emod_of_nonneg _ (by decide)]
    omega
  have hat : atI [Dt.str "turn", .str "push"] (way.fmod 2) = some (.str "turn") ∨ atI [Dt.str "turn", .str "push"] (way.fmod 2) = some (.str "push") := by
    rcases (by omega : way.fmod 2 = 0 ∨ way.fmod 2 = 1) with e | e <;> rw [e]
    · exact .inl rfl
    · exact .inr rfl
  rcases hat with h | h
  · exact ir_ret (ep_ev (ev_tup (ea_cons (ev_op (by walk_at "ev") (ev_op (ev_var rfl) ev_int (r2_mod (by decide))) (r2_ixL h)) (ea_cons (ev_lst (ea_cons (ev_var rfl) ea_nil)) ea_nil))) ⟨.turn x, rfl, hx⟩)
  · exact ir_ret (ep_ev (ev_tup (ea_cons (ev_op (by walk_at "ev") (ev_op (ev_var rfl) ev_int (r2_mod (by decide))) (r2_ixL h)) (ea_cons (ev_lst (ea_cons (ev_var rfl) ea_nil)) ea_nil))) ⟨.push x, rfl, hx⟩)
theorem h__law_whole (T : Txt K mg ca fa ka) : Has P w K mg base CX0 1 "_law_whole" ["_law_thing"] (spP K R_wh) := by
  refine T.d__law_whole.pure sc__law_whole (fun ds d h => by obtain ⟨x, rfl, _⟩ := h; rfl) (fun f cdv A outer s H E hr => (pss_one (ps_ret (pe_and (pe_callB (isiK (K := K) rfl) (by rfl) T.m_isinstance (by decide +kernel) (pa_cons (pv 0) (pa_cons (pe_bltn (v := .ty "int") (by rfl) T.m_int (by decide +kernel) rfl) pa_nil))) (pe_one (pe_not (pe_callB (isiK (K := K) rfl) (by rfl) T.m_isinstance (by decide +kernel) (pa_cons (pv 0) (pa_cons (pe_bltn (v := .ty "bool") (by rfl) T.m_bool (by decide +kernel) rfl) pa_nil))))))))) ?_
  rintro ds d ⟨x, rfl, rfl⟩
  obtain ⟨a, b, ha, hb, e⟩ := kb_whole x
  rw [← e]
  exact rt_ret (ev_andV (ev_isi (ev_var rfl) ha) (fun _ => ev_notV (ev_isi (ev_var rfl) hb)))
def R_good (ds : List Dt) (d : Dt) : Prop := ∃ x : Dt, ds = [x] ∧ Sz x ∧ d = .bl (isFr x)
theorem h__law_good (T : Txt K mg ca fa ka) : Has P w K mg base CX0 2 "_law_good" ["_law_thing"] (spP K R_good) := by
  refine T.d__law_good.pure sc__law_good (fun ds d h => by obtain ⟨x, rfl, _⟩ := h; rfl) (fun f cdv A outer s H E hr => (pss_cons (ps_if (PW.pt (pw_or (pt_not (pt_val (pe_callB (isiK (K := K) rfl) (by rfl) T.m_isinstance (by decide +kernel) (pa_cons (pv 0) (pa_cons (pe_bltn (v := .ty "tuple") (by rfl) T.m_tuple (by decide +kernel) rfl) pa_nil))))) (pw_or (pt_cmpR (neK (K := K) rfl hr.units) (pe_callB (lenK (K := K) rfl) (by rfl) T.m_len (by decide +kernel) (pa_cons (pv 0) pa_nil)) pe_int (nomark _)) (pw_or (pt_not (pt_val (pe_h (h__law_whole T) hr (by decide) pass0 (pa_cons (pe_ix (ixK (K := K) rfl) (pv 0) pe_int (fun _ _ => rfl)) pa_nil)))) (pw_or1 (pt_not (pt_val (pe_h (h__law_whole T) hr (by decide) pass0 (pa_cons (pe_ix (ixK (K := K) rfl) (pv 0) pe_int (fun _ _ => rfl)) pa_nil))))))))) (pss_one (ps_ret pe_bl)) pss_nil) (pss_one (ps_ret (pe_and (pe_cmpR op_gt (pe_ix (ixK (K := K) rfl) (pv 0) pe_int (fun _ _ => rfl)) pe_int (nomark _)) (pe_one (pe_cmpR (eqK (K := K) rfl hr.units) (pe_h (h__law_low T) hr (by decide) pass0 (pa_cons (pe_ix (ixK (K := K) rfl) (pv 0) pe_int (fun _ _ => rfl)) (pa_cons (pe_ix (ixK (K := K) rfl) (pv 0) pe_int (fun _ _ => rfl)) pa_nil))) (pv 0) (nomark _)))))))) ?_
  rintro ds d ⟨x, rfl, hsz, rfl⟩
  obtain ⟨c, hc, hiff⟩ := kb_tup x
  by_cases h : ∃ ds, x = .tup ds
  · obtain ⟨ds, rfl⟩ := h
    have c1 : c = true := hiff.mpr ⟨ds, rfl⟩
    subst c1
    by_cases hl : ds.length = 2
    · obtain ⟨a, b, rfl⟩ := two_of hl
      by_cases ha : isWh a = true
      · obtain ⟨t, rfl⟩ := isWh_iff.mp ha
        by_cases hb2 : isWh b = true
        · obtain ⟨u, rfl⟩ := isWh_iff.mp hb2
          have hu := hsz t u rfl
          refine rt_cond (b := false) (et_is (et_or (et_not (et_B (ev_isi (ev_var rfl) hc))) (fun _ => et_or (et_test (ev_op (ev_cb (ea_cons (ev_var rfl) ea_nil) rc_lenT) ev_int r2_neI)) (fun _ => et_or (et_not (et_B (ev_call (ea_cons (ev_op (ev_var rfl) ev_int ix0) ea_nil) (by exact ⟨_, rfl, rfl⟩)))) (fun _ => et_not (et_B (ev_call (ea_cons (ev_op (ev_var rfl) ev_int ix1) ea_nil) (by exact ⟨_, rfl, rfl⟩))))))) rfl) (fun h => by cases h) (fun _ => ?_)
          by_cases u0 : 0 < u
          · have un : u ≠ 0 := by omega
            refine rt_is (rt_ret (ev_andV (ev_op (ev_op (ev_var rfl) ev_int ix1) ev_int r2_gt) (fun _ => ev_op (ev_call (ea_cons (ev_op (ev_var rfl) ev_int ix0) (ea_cons (ev_op (ev_var rfl) ev_int ix1) ea_nil)) (by exact ⟨t, u, rfl, un, hu, rfl⟩)) (ev_var rfl) (r2_eq (py_fq _) (by exact rfl) (sh_fq _ _) (sh_fq _ _))))) ?_
            rw [eqv_pair, isFr_pair u0]
            rfl
          · rw [show isFr (.tup [.int t, .int u]) = false by show (decide (0 < u) && _) = false; rw [decide_eq_false u0]; rfl]
            exact rt_is (rt_ret (ev_andV (b := false) (ev_is (ev_op (ev_op (ev_var rfl) ev_int ix1) ev_int r2_gt) (by rw [decide_eq_false u0])) (fun h => by cases h))) rfl
        · have e : isFr (.tup [.int t, b]) = false := by
            cases b <;> first | rfl | exact absurd rfl hb2
          have hb3 : isWh b = false := by simpa using hb2
          rw [e]
          exact rt_cond (b := true) (et_is (et_or (et_not (et_B (ev_isi (ev_var rfl) hc))) (fun _ => et_or (et_test (ev_op (ev_cb (ea_cons (ev_var rfl) ea_nil) rc_lenT) ev_int r2_neI)) (fun _ => et_or (et_not (et_B (ev_call (ea_cons (ev_op (ev_var rfl) ev_int ix0) ea_nil) (by exact ⟨_, rfl, rfl⟩)))) (fun _ => et_not (et_B (ev_call (ea_cons (ev_op (ev_var rfl) ev_int ix1) ea_nil) (by exact ⟨_, rfl, rfl⟩))))))) (by rw [hb3]; rfl)) (fun _ => rt_ret ev_bl) (fun h => by cases h)
      · have e : isFr (.tup [a, b]) = false := by
          cases a <;> first | rfl | exact absurd rfl ha
        have ha3 : isWh a = false := by simpa using ha
        rw [e]
        exact rt_cond (b := true) (et_is (et_or (et_not (et_B (ev_isi (ev_var rfl) hc))) (fun _ => et_or (et_test (ev_op (ev_cb (ea_cons (ev_var rfl) ea_nil) rc_lenT) ev_int r2_neI)) (fun _ => et_or (b := true) (et_is (et_not (et_B (ev_call (ea_cons (ev_op (ev_var rfl) ev_int ix0) ea_nil) (by exact ⟨_, rfl, rfl⟩)))) (show (!isWh a) = true by rw [ha3]; rfl)) (fun h => by cases h)))) rfl) (fun _ => rt_ret ev_bl) (fun h => by cases h)
    · rw [isFr_len hl]
      exact rt_cond (b := true) (et_is (et_or (et_not (et_B (ev_isi (ev_var rfl) hc))) (fun _ => et_or (b := true) (et_is (et_test (ev_op (ev_cb (ea_cons (ev_var rfl) ea_nil) rc_lenT) ev_int r2_neI)) (by rw [beq_eq_false_iff_ne.mpr (show ¬ (ds.length : Int) = 2 by omega)]; rfl : (!((ds.length : Int) == 2)) = true)) (fun h => by cases h))) rfl) (fun _ => rt_ret ev_bl) (fun h => by cases h)
  · have c0 : c = false := by
      cases c with
      | false => rfl
      | true => exact absurd (hiff.mp rfl) h
    subst c0
    have e : isFr x = false := by
      cases x <;> first | rfl | exact absurd ⟨_, rfl⟩ h
    rw [e]
    exact rt_cond (b := true) (et_is (et_or (b := true) (et_not (et_B (ev_isi (ev_var rfl) hc))) (fun h => by cases h)) rfl) (fun _ => rt_ret ev_bl) (fun h => by cases h)
def R_one (ds : List Dt) (d : Dt) : Prop := ∃ x : Dt, ds = [x] ∧ Sz2 x ∧ d = .bl (isHp x)
theorem h__law_is_it (T : Txt K mg ca fa ka) : Has P w K mg base CX0 3 "_law_is_it" ["_law_thing"] (spP K R_one) := by
  refine T.d__law_is_it.pure sc__law_is_it (fun ds d h => by obtain ⟨x, rfl, _⟩ := h; rfl) (fun f cdv A outer s H E hr => (pss_one (ps_ret (pe_and (pe_callB (isiK (K := K) rfl) (by rfl) T.m_isinstance (by decide +kernel) (pa_cons (pv 0) (pa_cons (pe_bltn (v := .ty "tuple") (by rfl) T.m_tuple (by decide +kernel) rfl) pa_nil))) (pe_and (pe_cmpR (eqK (K := K) rfl hr.units) (pe_callB (lenK (K := K) rfl) (by rfl) T.m_len (by decide +kernel) (pa_cons (pv 0) pa_nil)) pe_int (nomark _)) (pe_and (pe_h (h__law_good T) hr (by decide) pass0 (pa_cons (pe_ix (ixK (K := K) rfl) (pv 0) pe_int (fun _ _ => rfl)) pa_nil)) (pe_one (pe_h (h__law_good T) hr (by decide) pass0 (pa_cons (pe_ix (ixK (K := K) rfl) (pv 0) pe_int (fun _ _ => rfl)) pa_nil))))))))) ?_
  rintro ds d ⟨x, rfl, hsz, rfl⟩
  obtain ⟨c, hc, hiff⟩ := kb_tup x
  by_cases h : ∃ ds, x = .tup ds
  · obtain ⟨ds, rfl⟩ := h
    have c1 : c = true := hiff.mpr ⟨ds, rfl⟩
    subst c1
    by_cases hl : ds.length = 2
    · obtain ⟨a, b, rfl⟩ := two_of hl
      have hs := hsz.2 a b rfl
      exact rt_is (rt_ret (ev_andV (ev_isi (ev_var rfl) hc) (fun _ => ev_andV (ev_op (ev_cb (ea_cons (ev_var rfl) ea_nil) rc_lenT) ev_int r2_eqI) (fun _ => ev_andV (ev_call (ea_cons (ev_op (ev_var rfl) ev_int ix0) ea_nil) (by exact ⟨_, rfl, hs.1, rfl⟩)) (fun _ => ev_call (ea_cons (ev_op (ev_var rfl) ev_int ix1) ea_nil) (by exact ⟨_, rfl, hs.2, rfl⟩)))))) rfl
    · rw [isHp_len hl]
      exact rt_is (rt_ret (ev_andV (ev_isi (ev_var rfl) hc) (fun _ => ev_andV (a := false) (b := false) (ev_is (ev_op (ev_cb (ea_cons (ev_var rfl) ea_nil) rc_lenT) ev_int r2_eqI) (by rw [beq_eq_false_iff_ne.mpr (show ¬ (ds.length : Int) = 2 by omega)])) (fun h => by cases h)))) rfl
  · have c0 : c = false := by
      cases c with
      | false => rfl
      | true => exact absurd (hiff.mp rfl) h
    subst c0
    have e : isHp x = false := by
      cases x <;> first | rfl | exact absurd ⟨_, rfl⟩ h
    rw [e]
    exact rt_is (rt_ret (ev_andV (b := false) (ev_isi (ev_var rfl) hc) (fun h => by cases h))) rfl
def R_nw (ds : List Dt) (d : Dt) : Prop := ∃ x : Dt, ds = [x] ∧ (∀ s, x = .str s → s.length ≤ 90000) ∧ d = .bl (isNm x)
theorem h__law_named_well (T : Txt K mg ca fa ka) : Has P w K mg base CX0 1 "_law_named_well" ["_law_thing"] (spP K R_nw) := by
  refine T.d__law_named_well.pure sc__law_named_well (fun ds d h => by obtain ⟨_, rfl, _⟩ := h; rfl) (fun f cdv A outer s H E hr => (pss_cons (ps_if (PW.pt (pw_or (pt_not (pt_val (pe_callB (isiK (K := K) rfl) (by rfl) T.m_isinstance (by decide +kernel) (pa_cons (pv 0) (pa_cons (pe_bltn (v := .ty "str") (by rfl) T.m_str (by decide +kernel) rfl) pa_nil))))) (pw_or1 (pt_not (pt_chain op_le op_le pe_int (pe_callB call_len_str (by rfl) T.m_len (by decide +kernel) (pa_cons (pv 0) pa_nil)) pe_int))))) (pss_one (ps_ret pe_bl)) pss_nil) (pss_one (ps_ret (pe_callB (allK (K := K) rfl rfl) (by rfl) T.m_all (by decide +kernel) (pa_cons (pe_lc (own := [("_law_sign", 1)]) (g := gName 1) (tt := tYes) rfl sc__law_named_well.nd (pi_str (pv 0)) (blkOk_by (own := [("_law_sign", 1)]) (N := ["_law_thing", "_law_sign"]) (sc := defScope s__law_named_well) (by decide +kernel)) (fun _ _ _ _ _ => pg_name (i := 1) sc__law_named_well.nd rfl (Or.inl rfl)) (fun _ _ _ _ _ => pts_nil) (fun _ _ _ _ _ => (pe_cmpR op_in_sign (pv 1) pe_str (by rfl)))) pa_nil)))))) ?_
  rintro ds d ⟨x, rfl, hsz, rfl⟩
  obtain ⟨c, hc, hiff⟩ := kb_strT x
  by_cases h : ∃ s, x = .str s
  · obtain ⟨s, rfl⟩ := h
    have c1 : c = true := hiff.mpr ⟨s, rfl⟩
    subst c1
    have hl := hsz s rfl
    have ln : ∀ {sl : List Sl}, sl[0]? = some (.d (.str s)) → Ev K (tCB _ (tCons (tVar 0) tNil)) sl (.int (s.length : Nat)) := fun h => ev_cb (ea_cons (ev_var h) ea_nil) (rc_lenS (by omega))
    refine rt_cond (b := !(decide ((1 : Int) ≤ (s.length : Nat)) && decide (((s.length : Nat) : Int) ≤ 8))) (et_is (et_or (a := false) (et_not (a := true) (et_B (ev_isi (ev_var rfl) hc))) (fun _ => et_not (et_chain ev_int (ln rfl) r2_le (fun _ => ev_int) (fun _ => r2_le)))) (Bool.false_or _)) (fun z => rt_is (rt_ret ev_bl) ?_) (fun z => ?_)
    · show Dt.bl false = .bl ((decide (1 ≤ s.length) && decide (s.length ≤ 8)) && _)
      rw [Bool.not_eq_true'] at z
      have e : (decide (1 ≤ s.length) && decide (s.length ≤ 8)) = false := by
        rw [← z]
        congr 1 <;> exact decide_eq_decide.mpr (by omega)
      rw [e, Bool.false_and]
    · rw [Bool.not_eq_false'] at z
      have e : (decide (1 ≤ s.length) && decide (s.length ≤ 8)) = true := by
        rw [← z]
        congr 1 <;> exact decide_eq_decide.mpr (by omega)
      refine rt_is (rt_ret (ev_cb (ea_cons (ev_is (ev_lcS (s := s) (es := (s.cps.toList.map fun c => decide (c ∈ abcS.cps.toList)).map Dt.bl) (by rw [List.length_map, List.length_map, Array.length_toList]) (ev_var rfl) hl (fun k x hk hx => ?_)) rfl) ea_nil) rc_all)) ?_
      · rw [List.getElem?_map, List.getElem?_map] at hx
        have hk2 : s.cps.toList[k]? = some (s.cps.getD k 0) := by
          rw [Array.getElem?_toList, Array.getD_eq_getD_getElem?, Array.getElem?_eq_getElem hk]
          rfl
        rw [hk2] at hx
        cases hx
        exact ev_op (ev_var rfl) ev_str (by exact r2_sgIn)
      · show _ = Dt.bl ((decide (1 ≤ s.length) && decide (s.length ≤ 8)) && _)
        rw [e, Bool.true_and, List.all_map]
        rfl
  · have c0 : c = false := by
      cases c with
      | false => rfl
      | true => exact absurd (hiff.mp rfl) h
    subst c0
    refine rt_yes (b := true) (et_is (et_or (a := true) (b := true) (et_not (a := false) (et_B (ev_isi (ev_var rfl) hc))) (fun z => by cases z)) rfl) rfl (rt_is (rt_ret ev_bl) ?_)
    cases x with
    | str s => exact absurd ⟨s, rfl⟩ h
    | _ => rfl
def R_fastD (ds : List Dt) (d : Dt) : Prop := ∃ x : Dt, ds = [x] ∧ Sz x ∧ d = .bl (isSpD x)
theorem h__law_is_fast (T : Txt K mg ca fa ka) : Has P w K mg base CX0 3 "_law_is_fast" ["_law_thing"] (spP K R_fastD) := by
  refine T.d__law_is_fast.pure sc__law_is_fast (fun ds d h => by obtain ⟨x, rfl, _⟩ := h; rfl) (fun f cdv A outer s H E hr => (pss_one (ps_ret (pe_and (pe_h (h__law_good T) hr (by decide) pass0 (pa_cons (pv 0) pa_nil)) (pe_one (pe_cmpR op_lt (pe_callB cr_abs (by rfl) T.m_abs (by decide +kernel) (pa_cons (pe_ix (ixK (K := K) rfl) (pv 0) pe_int (fun _ _ => rfl)) pa_nil)) (pe_ix (ixK (K := K) rfl) (pv 0) pe_int (fun _ _ => rfl)) (nomark _))))))) ?_
  rintro ds d ⟨x, rfl, hs, rfl⟩
  cases hf : isFr x with
  | false =>
    have e : isSpD x = false := by
      unfold isSpD
      split
      · rename_i t b
        rw [hf, Bool.false_and]
      · rfl
    rw [e]
    exact rt_ret (ev_andV (a := false) (b := false) (ev_is (ev_call (ea_cons (ev_var rfl) ea_nil) (by exact ⟨x, rfl, hs, rfl⟩)) (by rw [hf])) (fun z => by cases z))
  | true =>
    obtain ⟨t, u, rfl⟩ : ∃ t u : Int, x = .tup [.int t, .int u] := by
      unfold isFr at hf
      split at hf
      · exact ⟨_, _, rfl⟩
      · cases hf
    have e : isSpD (.tup [.int t, .int u]) = decide ((t.natAbs : Int) < u) := by
      show (isFr (.tup [.int t, .int u]) && _) = _
      rw [hf, Bool.true_and]
    rw [e]
    exact rt_ret (ev_andV (a := true) (ev_is (ev_call (ea_cons (ev_var rfl) ea_nil) (by exact ⟨_, rfl, hs, rfl⟩)) (by rw [hf])) (fun _ => ev_op (ev_cb (ea_cons (ev_op (ev_var rfl) ev_int ix0) ea_nil) rc_abs) (ev_op (ev_var rfl) ev_int ix1) r2_lt))
def R_root (ds : List Dt) (d : Dt) : Prop := ∃ m : Nat, ds = [.int (m : Int)] ∧ Bt 4400 (m : Int) ∧ d = .int (sq m : Int)
theorem h__law_root (T : Txt K mg ca fa ka) : Has P w K mg base CX0 1 "_law_root" ["_law_number"] (spP K R_root) := by
  refine T.d__law_root.pure sc__law_root (fun ds d h => by obtain ⟨x, rfl, _⟩ := h; rfl) (fun f cdv A outer s H E hr => (pss_cons (ps_set (i := 1) sc__law_root.nd rfl (Or.inl rfl) pe_int) (pss_cons (ps_set (i := 2) sc__law_root.nd rfl (Or.inl rfl) pe_int) (pss_cons (ps_while PassesOwn.never (pt_cmpR op_le (pe_op op_mulA (pv 2) (pv 2)) (pv 0) (nomark _)) (pss_one (ps_set (i := 2) sc__law_root.nd rfl (Or.inl rfl) (pe_op op_mulA pe_int (pv 2))))) (pss_cons (ps_while PassesOwn.never (pt_cmpR op_gt (pv 2) pe_int (nomark _)) (pss_cons (ps_if (pt_cmpR op_le (pe_op op_mulA (pe_op op_add (pv 1) (pv 2)) (pe_op op_add (pv 1) (pv 2))) (pv 0) (nomark _)) (pss_one (ps_set (i := 1) sc__law_root.nd rfl (Or.inl rfl) (pe_op op_add (pv 1) (pv 2)))) pss_nil) (pss_one (ps_set (i := 2) sc__law_root.nd rfl (Or.inl rfl) (pe_op op_fdivA (pv 2) pe_int))))) (pss_one (ps_ret (pv 1)))))))) ?_
  rintro ds d ⟨m, rfl, hm, rfl⟩
  have big : ∀ b : Nat, b ≤ 4 * m + 4 → Bt 4403 (b : Int) := fun b hb => by
    unfold Bt at *
    rw [Int.natAbs_natCast] at *
    have e : 2 ^ 4403 = 2 ^ 4400 * 8 := by rw [← Nat.pow_add 2 4400 3]
    generalize 2 ^ 4403 = X at *
    generalize 2 ^ 4400 = Y at *
    omega
  have sqle : ∀ b : Nat, b ≤ b * b := fun b => Nat.le_mul_self b
  refine rt_seq (nt_asg ev_int) (rt_seq (nt_asg ev_int) ?_)
  refine rt_ip (ip_while (fun l sl => ∃ b k : Nat, l = 2 * m + 2 - b ∧ b = 2 ^ k ∧ b ≤ 2 * m + 1 ∧ sl = [.d (.int m), .d (.int 0), .d (.int b)]) (2 * m + 1) ⟨1, 0, by omega, rfl, by omega, rfl⟩ ?_)
  rintro l sl ⟨b, k, hl, hk, hb, rfl⟩
  have b1 : 1 ≤ b := by rw [hk]; exact Nat.one_le_two_pow
  refine ⟨_, et_test (ev_op (ev_op (ev_var rfl) (ev_var rfl) (r2_mul (mulok (big b (by omega)) (big b (by omega)) (by decide)))) (ev_var rfl) r2_le), fun h => ?_, fun h => ?_⟩
  · have h : (b : Int) * (b : Int) ≤ (m : Int) := of_decide_eq_true h
    have h : b * b ≤ m := by rw [← Int.natCast_mul] at h; omega
    have := sqle b
    refine ip_end (nt_asg (ev_op ev_int (ev_var rfl) (r2_mul (mulL ⟨by decide, by decide⟩)))) ⟨2 * m + 2 - 2 * b, by omega, 2 * b, k + 1, rfl, by rw [Nat.pow_succ]; omega, by omega, ?_⟩
    rfl
  · have h : ¬ (b : Int) * (b : Int) ≤ (m : Int) := of_decide_eq_false h
    have h : m < b * b := by rw [← Int.natCast_mul] at h; omega
    refine rt_ip (ip_while (fun l sl => ∃ f c : Nat, l = c ∧ f * f ≤ m ∧ c ≤ 2 * m + 1 ∧ (c = 0 ∧ m < (f + 1) * (f + 1) ∨ ∃ k, c = 2 ^ k ∧ m < (f + 2 * c) * (f + 2 * c)) ∧ sl = [.d (.int m), .d (.int f), .d (.int c)]) b ⟨0, b, rfl, by omega, by omega, .inr ⟨k, hk, ?_⟩, rfl⟩ ?_)
    · have : b * b ≤ (0 + 2 * b) * (0 + 2 * b) := Nat.mul_le_mul (by omega) (by omega)
      omega
    · rintro l sl ⟨f, c, hl, hf, hc, ho, rfl⟩
      have := sqle f
      refine ⟨_, et_test (ev_op (ev_var rfl) ev_int r2_gt), fun h => ?_, fun h => ?_⟩
      · have h0 : (0 : Int) < (c : Int) := of_decide_eq_true h
        have fin : ∀ g : Nat, g * g ≤ m → m < (g + c) * (g + c) → (c / 2 = 0 ∧ m < (g + 1) * (g + 1) ∨ ∃ k, c / 2 = 2 ^ k ∧ m < (g + 2 * (c / 2)) * (g + 2 * (c / 2))) := fun g hg hg2 => by
          rcases ho with ⟨z, _⟩ | ⟨j, hj, _⟩
          · omega
          · cases j with
            | zero =>
              have c1 : c = 1 := by rw [hj] <;> rfl
              subst c1
              exact .inl ⟨rfl, hg2⟩
            | succ j =>
              rw [Nat.pow_succ] at hj
              refine .inr ⟨j, by omega, ?_⟩
              rw [show 2 * (c / 2) = c by omega]
              exact hg2
        have ho2 : m < (f + 2 * c) * (f + 2 * c) := by
          rcases ho with ⟨z, _⟩ | ⟨_, _, h⟩
          · omega
          · exact h
        have half : ((c : Int)).fdiv 2 = ((c / 2 : Nat) : Int) := by
          rw [Int.fdiv_eq_ediv_of_nonneg _ (by decide)]
          rfl
        have eb : ((f : Int) + (c : Int)) = ((f + c : Nat) : Int) := rfl
        have bfc : Bt 4403 ((f : Int) + (c : Int)) := by rw [eb]; exact big _ (by omega)
        have step : ∀ g : Nat, g * g ≤ m → m < (g + c) * (g + c) → Ip K (tAsg (tOp (rI CDivA fun i j => .int (i.fdiv j)) (tVar 2) (tC (.int 2))) (gName 2)) [.d (.int m), .d (.int g), .d (.int c)] [] fun sl2 => ∃ m', m' < l ∧ ∃ f c : Nat, m' = c ∧ f * f ≤ m ∧ c ≤ 2 * m + 1 ∧ (c = 0 ∧ m < (f + 1) * (f + 1) ∨ ∃ k, c = 2 ^ k ∧ m < (f + 2 * c) * (f + 2 * c)) ∧ sl2 = [.d (.int m), .d (.int f), .d (.int c)] := fun g hg hg2 => by
          refine ip_end (nt_asg (ev_op (ev_var rfl) ev_int (r2_div (divok (n := 2) (by decide) (by show Int.natAbs 2 < 2 ^ 2; decide) (by decide))))) ⟨c / 2, by omega, g, c / 2, rfl, hg, by omega, fin g hg hg2, ?_⟩
          rw [half] <;> rfl
        refine ip_nt (sl1 := [.d (.int m), .d (.int (if (f + c) * (f + c) ≤ m then f + c else f : Nat)), .d (.int c)]) (nt_if (et_test (ev_op (ev_op (ev_op (ev_var rfl) (ev_var rfl) r2_add) (ev_op (ev_var rfl) (ev_var rfl) r2_add) (r2_mul (mulok (by exact bfc) (by exact bfc) (by decide)))) (ev_var rfl) r2_le)) (fun h => ?_) (fun h => ?_)) ?_
        · have h : ((f : Int) + (c : Int)) * ((f : Int) + (c : Int)) ≤ (m : Int) := of_decide_eq_true h
          rw [eb, ← Int.natCast_mul] at h
          refine nt_is (nt_asg (ev_op (ev_var rfl) (ev_var rfl) r2_add)) ?_
          rw [if_pos (by omega)]
          rfl
        · have h : ¬ ((f : Int) + (c : Int)) * ((f : Int) + (c : Int)) ≤ (m : Int) := of_decide_eq_false h
          rw [eb, ← Int.natCast_mul] at h
          refine nt_is nt_next ?_
          rw [if_neg (by omega)]
        · by_cases hq : (f + c) * (f + c) ≤ m
          · rw [if_pos hq]
            exact step _ hq (by rw [show f + c + c = f + 2 * c by omega]; exact ho2)
          · rw [if_neg hq]
            exact step _ hf (by omega)
      · have h0 : ¬ (0 : Int) < (c : Int) := of_decide_eq_false h
        have c0 : c = 0 := by omega
        refine rt_is (rt_ret (ev_var rfl)) ?_
        have hf2 : m < (f + 1) * (f + 1) := by
          rcases ho with ⟨_, h⟩ | ⟨j, hj, _⟩
          · exact h
          · have := Nat.one_le_two_pow (n := j)
            omega
        rw [isq_unique (sq_spec m).1 (sq_spec m).2 hf hf2]
def R_rooted (ds : List Dt) (d : Dt) : Prop := ∃ x : Rat, ds = [fq x] ∧ Bq 4000 x ∧ d = rootD x
theorem h__law_rooted (T : Txt K mg ca fa ka) : Has P w K mg base CX0 2 "_law_rooted" ["_law_one"] (spP K R_rooted) := by
  refine T.d__law_rooted.pure sc__law_rooted (fun ds d h => by obtain ⟨x, rfl, _⟩ := h; rfl) (fun f cdv A outer s H E hr => (pss_cons (ps_if (pt_cmpR op_lt (pe_ix (ixK (K := K) rfl) (pv 0) pe_int (fun _ _ => rfl)) pe_int (nomark _)) (pss_one (ps_ret pe_non)) pss_nil) (pss_cons (ps_par (i := 1) (j := 2) rfl sc__law_rooted.nd rfl rfl (by decide) rfl rfl (pa_cons (pe_h (h__law_root T) hr (by decide) pass0 (pa_cons (pe_ix (ixK (K := K) rfl) (pv 0) pe_int (fun _ _ => rfl)) pa_nil)) (pa_cons (pe_h (h__law_root T) hr (by decide) pass0 (pa_cons (pe_ix (ixK (K := K) rfl) (pv 0) pe_int (fun _ _ => rfl)) pa_nil)) pa_nil)) (by rfl)) (pss_cons (ps_if (PW.pt (pw_or (pt_cmpR (neK (K := K) rfl hr.units) (pe_op op_mulA (pv 1) (pv 1)) (pe_ix (ixK (K := K) rfl) (pv 0) pe_int (fun _ _ => rfl)) (nomark _)) (pw_or1 (pt_cmpR (neK (K := K) rfl hr.units) (pe_op op_mulA (pv 2) (pv 2)) (pe_ix (ixK (K := K) rfl) (pv 0) pe_int (fun _ _ => rfl)) (nomark _))))) (pss_one (ps_ret pe_non)) pss_nil) (pss_one (ps_ret (pe_tup (pa_cons (pv 1) (pa_cons (pv 2) pa_nil))))))))) ?_
  rintro ds d ⟨x, rfl, ⟨bn, bd⟩, rfl⟩
  refine rt_cond (et_test (ev_op (ev_op (ev_var rfl) ev_int fx0) ev_int r2_lt)) (fun hb => ?_) (fun hb => ?_)
  · refine rt_is (rt_ret ev_non) ?_
    unfold rootD
    rw [if_pos (of_decide_eq_true hb)]
  · have h0 : ¬ x.num < 0 := of_decide_eq_false hb
    have hn : ((x.num.toNat : Nat) : Int) = x.num := Int.toNat_of_nonneg (by omega)
    have bn2 : Bt 4400 ((x.num.toNat : Nat) : Int) := by rw [hn]; exact bn.mono (by decide)
    refine rt_seq (nt_par (ea_cons (ev_call (ea_cons (ev_op (ev_var rfl) ev_int fx0) ea_nil) (by exact ⟨x.num.toNat, by rw [hn], bn2, rfl⟩)) (ea_cons (ev_call (ea_cons (ev_op (ev_var rfl) ev_int fx1) ea_nil) (by exact ⟨x.den, rfl, bd.mono (by decide), rfl⟩)) ea_nil))) ?_
    have b1 : Bt 4000 (sq x.num.toNat : Int) := bt_sq (by rw [hn]; exact bn)
    have b2 : Bt 4000 (sq x.den : Int) := bt_sq bd
    refine rt_cond (et_or (et_test (ev_op (ev_op (ev_var rfl) (ev_var rfl) (r2_mul (mulok b1 b1 (by decide)))) (ev_op (ev_var rfl) ev_int fx0) r2_neI)) (fun _ => et_test (ev_op (ev_op (ev_var rfl) (ev_var rfl) (r2_mul (mulok (by exact b2) (by exact b2) (by decide)))) (ev_op (ev_var rfl) ev_int fx1) r2_neI))) (fun hb => ?_) (fun hb => ?_)
    · refine rt_is (rt_ret ev_non) ?_
      unfold rootD
      rw [if_neg h0, if_neg ?_]
      rintro ⟨e1, e2⟩
      have a1 : (sq x.num.toNat : Int) * (sq x.num.toNat : Int) = x.num := by rw [← Int.natCast_mul, e1, hn]
      have a2 : (sq x.den : Int) * (sq x.den : Int) = (x.den : Int) := by rw [← Int.natCast_mul, e2]
      change (!((sq x.num.toNat : Int) * (sq x.num.toNat : Int) == x.num) || !((sq x.den : Int) * (sq x.den : Int) == (x.den : Int))) = true at hb
      rw [a1, a2] at hb
      simp at hb
    · refine rt_is (rt_ret (ev_tup (ea_cons (ev_var rfl) (ea_cons (ev_var rfl) ea_nil)))) ?_
      change (!((sq x.num.toNat : Int) * (sq x.num.toNat : Int) == x.num) || !((sq x.den : Int) * (sq x.den : Int) == (x.den : Int))) = false at hb
      rw [Bool.or_eq_false_iff, Bool.not_eq_false', Bool.not_eq_false', beq_iff_eq, beq_iff_eq] at hb
      have hq : sq x.num.toNat * sq x.num.toNat = x.num.toNat ∧ sq x.den * sq x.den = x.den := by
        refine ⟨?_, ?_⟩
        · have := hb.1
          rw [← Int.natCast_mul] at this
          omega
        · have := hb.2
          rw [← Int.natCast_mul] at this
          omega
      unfold rootD
      rw [if_neg h0, if_pos hq] <;> rfl
theorem h__law_gap (T : Txt K mg ca fa ka) : Has P w K mg base CX0 2 "_law_gap" ["_law_one", "_law_other"] (spP K R_gap) := by
  refine T.d__law_gap.pure sc__law_gap (fun ds d h => by obtain ⟨x, y, rfl, _⟩ := h; rfl) (fun f cdv A outer s H E hr => (pss_one (ps_ret (pe_h (h__law_low T) hr (by decide) pass0 (pa_cons (pe_op op_sub (pe_op op_mulA (pe_ix (ixK (K := K) rfl) (pv 0) pe_int (fun _ _ => rfl)) (pe_ix (ixK (K := K) rfl) (pv 1) pe_int (fun _ _ => rfl))) (pe_op op_mulA (pe_ix (ixK (K := K) rfl) (pv 1) pe_int (fun _ _ => rfl)) (pe_ix (ixK (K := K) rfl) (pv 0) pe_int (fun _ _ => rfl)))) (pa_cons (pe_op op_mulA (pe_ix (ixK (K := K) rfl) (pv 0) pe_int (fun _ _ => rfl)) (pe_ix (ixK (K := K) rfl) (pv 1) pe_int (fun _ _ => rfl))) pa_nil)))))) ?_
  rintro ds d ⟨x, y, rfl, bx, by_, rfl⟩
  refine rt_ret (ev_call (ea_cons (ev_op (ev_op (ev_op (ev_var rfl) ev_int fx0) (ev_op (ev_var rfl) ev_int fx1) (r2_mul (mulok bx.1 by_.2 (by decide)))) (ev_op (ev_op (ev_var rfl) ev_int fx0) (ev_op (ev_var rfl) ev_int fx1) (r2_mul (mulok by_.1 bx.2 (by decide)))) r2_sub) (ea_cons (ev_op (ev_op (ev_var rfl) ev_int fx1) (ev_op (ev_var rfl) ev_int fx1) (r2_mul (mulok bx.2 by_.2 (by decide)))) ea_nil)) ⟨_, _, rfl, Int.mul_ne_zero (den_ne x) (den_ne y), (bt_mul bx.2 by_.2).mono (by decide), ?_⟩)
  rw [q_sub]
theorem h__law_prod (T : Txt K mg ca fa ka) : Has P w K mg base CX0 2 "_law_prod" ["_law_one", "_law_other"] (spP K R_prod) := by
  refine T.d__law_prod.pure sc__law_prod (fun ds d h => by obtain ⟨x, y, rfl, _⟩ := h; rfl) (fun f cdv A outer s H E hr => (pss_one (ps_ret (pe_h (h__law_low T) hr (by decide) pass0 (pa_cons (pe_op op_mulA (pe_ix (ixK (K := K) rfl) (pv 0) pe_int (fun _ _ => rfl)) (pe_ix (ixK (K := K) rfl) (pv 1) pe_int (fun _ _ => rfl))) (pa_cons (pe_op op_mulA (pe_ix (ixK (K := K) rfl) (pv 0) pe_int (fun _ _ => rfl)) (pe_ix (ixK (K := K) rfl) (pv 1) pe_int (fun _ _ => rfl))) pa_nil)))))) ?_
  rintro ds d ⟨x, y, rfl, bx, by_, rfl⟩
  refine rt_ret (ev_call (ea_cons (ev_op (ev_op (ev_var rfl) ev_int fx0) (ev_op (ev_var rfl) ev_int fx0) (r2_mul (mulok bx.1 by_.1 (by decide)))) (ea_cons (ev_op (ev_op (ev_var rfl) ev_int fx1) (ev_op (ev_var rfl) ev_int fx1) (r2_mul (mulok bx.2 by_.2 (by decide)))) ea_nil)) ⟨_, _, rfl, Int.mul_ne_zero (den_ne x) (den_ne y), (bt_mul bx.2 by_.2).mono (by decide), ?_⟩)
  rw [q_mul]
def R_beatL (ds : List Dt) (d : Dt) : Prop := ∃ x : Rat, ds = [fq x] ∧ Bq 1990 x ∧ d = beatD x
theorem h__law_beat (T : Txt K mg ca fa ka) : Has P w K mg base CX0 3 "_law_beat" ["_law_speed_here"] (spP K R_beatL) := by
  refine T.d__law_beat.pure sc__law_beat (fun ds d h => by obtain ⟨x, rfl, _⟩ := h; rfl) (fun f cdv A outer s H E hr => (pss_one (ps_ret (pe_h (h__law_rooted T) hr (by decide) pass0 (pa_cons (pe_h (h__law_gap T) hr (by decide) pass0 (pa_cons (pe_tup (pa_cons pe_int (pa_cons pe_int pa_nil))) (pa_cons (pe_h (h__law_prod T) hr (by decide) pass0 (pa_cons (pv 0) (pa_cons (pv 0) pa_nil))) pa_nil))) pa_nil))))) ?_
  rintro ds d ⟨x, rfl, bx, rfl⟩
  have e1 : (Dt.tup [.int 1, .int 1]) = fq 1 := rfl
  exact rt_ret (ev_call (ea_cons (ev_call (ea_cons (ev_is (by walk_at "ev") e1) (ea_cons (ev_call (by walk_at "ea") (by walk_at "rok")) ea_nil)) (by walk_at "rok")) ea_nil) (by exact ⟨_, rfl, (bq_low bx).mono (by decide), rfl⟩))
def R_rfs (b : Bst) (ds : List Dt) (d : Dt) : Prop := ∃ de : Deed, ds = [.str de.w, .lst de.t] ∧ DeedOk de ∧ d = wD (refw b de)
theorem h__law_refused_as (T : Txt K mg ca fa ka) : Has P w K mg base CX0 4 "_law_refused_as" ["_law_state", "_law_word_here", "_law_told_here"] (spStQ K R_rfs) := by
  refine T.d__law_refused_as.askS sc__law_refused_as (fun b ds d h => by obtain ⟨_, rfl, _⟩ := h; rfl) (fun f cdv A outer s H E hr => (pss_cons (ps_if (pt_cmpR (eqK (K := K) rfl hr.units) (pv 1) pe_str (nomark _)) (pss_one (ps_ret (pe_ifExp (pt_cmpR (eqEK (K := K) rfl hr.units) (pe_dget (lt64 hr.units) (pv 0) pe_str (fun _ _ => rfl)) (pe_lst pa_nil) (nomark _)) pe_str pe_non))) pss_nil) (pss_cons (ps_if (pt_cmpR (eqK (K := K) rfl hr.units) (pv 1) pe_str (nomark _)) (pss_cons (ps_if (pt_not (pt_val (pe_h (h__law_named_well T) hr (by decide) pass0 (pa_cons (pe_ix (ixK (K := K) rfl) (pv 2) pe_int (fun _ _ => rfl)) pa_nil)))) (pss_one (ps_ret pe_str)) pss_nil) (pss_cons (ps_if (pt_not (pt_val (pe_h (h__law_is_it T) hr (by decide) pass0 (pa_cons (pe_ix (ixK (K := K) rfl) (pv 2) pe_int (fun _ _ => rfl)) pa_nil)))) (pss_one (ps_ret pe_str)) pss_nil) (pss_one (ps_ret (pe_ifExp (PW.pt (pw_and (pt_cmp (pc_dnotin (lt64 hr.units) (pe_ix (ixK (K := K) rfl) (pv 2) pe_int (fun _ _ => rfl)) (pe_dget (lt64 hr.units) (pv 0) pe_str (fun _ _ => rfl)))) (pw_and1 (pt_cmpR (eqK (K := K) rfl hr.units) (pe_callB call_lenR (by rfl) T.m_len (by decide +kernel) (pa_cons (pe_dget (lt64 hr.units) (pv 0) pe_str (fun _ _ => rfl)) pa_nil)) pe_int (nomark _))))) pe_str pe_non))))) pss_nil) (pss_cons (ps_if (pt_cmpR (eqK (K := K) rfl hr.units) (pv 1) pe_str (nomark _)) (pss_one (ps_ret (pe_ifExp (PW.pt (pw_and (pt_val (pe_h (h__law_named_well T) hr (by decide) pass0 (pa_cons (pe_ix (ixK (K := K) rfl) (pv 2) pe_int (fun _ _ => rfl)) pa_nil))) (pw_and1 (pt_cmp (pc_din (lt64 hr.units) (pe_ix (ixK (K := K) rfl) (pv 2) pe_int (fun _ _ => rfl)) (pe_dget (lt64 hr.units) (pv 0) pe_str (fun _ _ => rfl))))))) pe_non pe_str))) pss_nil) (pss_cons (ps_if (pt_not (pt_val (pe_h (h__law_is_fast T) hr (by decide) pass0 (pa_cons (pe_ix (ixK (K := K) rfl) (pv 2) pe_int (fun _ _ => rfl)) pa_nil)))) (pss_one (ps_ret pe_str)) pss_nil) (pss_one (ps_ret (pe_ifExp (pt_cmpR op_isN1 (pe_h (h__law_beat T) hr (by decide) pass0 (pa_cons (pe_ix (ixK (K := K) rfl) (pv 2) pe_int (fun _ _ => rfl)) pa_nil)) pe_non (nomark _)) pe_str pe_non)))))))) ?_
  rintro y b ds d ⟨de, rfl, ok, rfl⟩
  have hw : ∀ {sl : List Sl} {s z : Str} {c : Bool}, sl[1]? = some (.d (.str s)) → SeqAt.shaped (.str s) = true → SeqAt.shaped (.str z) = true → (s == z) = c → EbT K (fun G H => SoR K y G H b) (tTest (tOp (rEqD K) (tVar 1) (tC (.str z)))) sl c := fun h1 h2 h3 h4 => ebt_ev (et_is (et_test (ev_op (ev_var h1) ev_str (r2_eqS h2 h3))) h4)
  have x0 : ∀ {sl : List Sl} {a : Dt} {l : List Dt}, sl[2]? = some (.d (.lst (a :: l))) → Ev K (tOp (rIx K) (tVar 2) (tC (.int 0))) sl a := fun {sl a l} h => ev_op (ev_var h) ev_int (r2_ixL ((atI_k (k := 0) (a :: l) (Nat.succ_pos _)).trans rfl))
  have x1 : ∀ {sl : List Sl} {a c : Dt} {l : List Dt}, sl[2]? = some (.d (.lst (a :: c :: l))) → Ev K (tOp (rIx K) (tVar 2) (tC (.int 1))) sl c := fun {sl a c l} h => ev_op (ev_var h) ev_int (r2_ixL ((atI_k (k := 1) (a :: c :: l) (Nat.succ_lt_succ (Nat.succ_pos _))).trans rfl))
  cases de with
  | undo =>
    refine br_yes stb_sr (hw (s := "undo") rfl (by decide +kernel) (by decide +kernel) (by decide +kernel)) ?_
    refine br_ret stb_sr (eb_if stb_sr (ebt_test (es_pastE (fun _ _ h => h) rfl)) (fun z => eb_ev ?_) (fun z => eb_ev ?_))
    · exact ev_is ev_str (by show _ = wD (if b.past.isEmpty = true then some "deed" else none); rw [if_pos z]; rfl)
    · exact ev_is ev_non (by show _ = wD (if b.past.isEmpty = true then some "deed" else none); rw [if_neg (by rw [z]; exact Bool.false_ne_true)]; rfl)
  | put x z =>
    obtain ⟨⟨o1, _⟩, o2, o3⟩ := ok
    refine br_no stb_sr (hw (s := "put") rfl (by decide +kernel) (by decide +kernel) (by decide +kernel)) ?_
    refine br_yes stb_sr (hw (s := "put") rfl (by decide +kernel) (by decide +kernel) (by decide +kernel)) ?_
    show Br _ _ _ _ _ _ (wD (if isNm x = false then some "name" else if isHp z = false then some "hap" else if (!(getX b.haps x).isSome && decide (b.haps.length = 12)) = true then some "many" else none))
    cases hn : isNm x with
    | false =>
      rw [if_pos rfl]
      exact br_yes stb_sr (ebt_is (ebt_not (ebt_B (eb_ev (ev_call (ea_cons (x0 rfl) ea_nil) (by exact ⟨x, rfl, o1, rfl⟩))))) (by rw [hn]; rfl)) (br_ret stb_sr (eb_ev ev_str))
    | true =>
      rw [if_neg (fun q => by cases q)]
      refine br_no stb_sr (ebt_is (ebt_not (ebt_B (eb_ev (ev_call (ea_cons (x0 rfl) ea_nil) (by exact ⟨x, rfl, o1, rfl⟩))))) (by rw [hn]; rfl)) ?_
      cases hh : isHp z with
      | false =>
        rw [if_pos rfl]
        exact br_yes stb_sr (ebt_is (ebt_not (ebt_B (eb_ev (ev_call (ea_cons (x1 rfl) ea_nil) (by exact ⟨z, rfl, o2, rfl⟩))))) (by rw [hh]; rfl)) (br_ret stb_sr (eb_ev ev_str))
      | true =>
        rw [if_neg (fun q => by cases q)]
        refine br_no stb_sr (ebt_is (ebt_not (ebt_B (eb_ev (ev_call (ea_cons (x1 rfl) ea_nil) (by exact ⟨z, rfl, o2, rfl⟩))))) (by rw [hh]; rfl)) ?_
        obtain ⟨n, rfl⟩ := isNm_str hn
        have e12 : (((b.haps.length : Nat) : Int) == 12) = decide (b.haps.length = 12) := by
          by_cases h : b.haps.length = 12
          · rw [h]; rfl
          · rw [decide_eq_false h]
            exact beq_eq_false_iff_ne.mpr (by omega)
        refine br_ret stb_sr (eb_if stb_sr (b := !(getH b.haps n).isSome && decide (b.haps.length = 12)) (ebt_and stb_sr (ebt_B (es_notin stb_sr (fun _ _ h => h) rfl (eb_ev (x0 rfl)))) (fun _ => ebt_is (ebt_test (eb_op stb_sr (es_len (fun _ _ h => h) rfl) (eb_ev ev_int) r2_eqI)) e12) rfl) (fun q => eb_ev ?_) (fun q => eb_ev ?_))
        · exact ev_is ev_str (by rw [show getX b.haps (.str n) = getH b.haps n from rfl, if_pos q]; rfl)
        · exact ev_is ev_non (by rw [if_neg (by rw [show getX b.haps (.str n) = getH b.haps n from rfl, q]; exact Bool.false_ne_true)]; rfl)
  | drop x =>
    refine br_no stb_sr (hw (s := "drop") rfl (by decide +kernel) (by decide +kernel) (by decide +kernel)) ?_
    refine br_no stb_sr (hw (s := "drop") rfl (by decide +kernel) (by decide +kernel) (by decide +kernel)) ?_
    refine br_yes stb_sr (hw (s := "drop") rfl (by decide +kernel) (by decide +kernel) (by decide +kernel)) ?_
    show Br _ _ _ _ _ _ (wD (if (isNm x && (getX b.haps x).isSome) = true then none else some "name"))
    have ok' : TxtB x := ok
    cases hn : isNm x with
    | false =>
      rw [Bool.false_and, if_neg Bool.false_ne_true]
      exact br_ret stb_sr (eb_if stb_sr (b := false) (ebt_and (c := false) stb_sr (a := false) (ebt_is (ebt_B (eb_ev (ev_call (ea_cons (x0 rfl) ea_nil) (by exact ⟨x, rfl, ok', rfl⟩)))) hn) (fun z => by cases z) rfl) (fun z => by cases z) (fun _ => eb_ev ev_str))
    | true =>
      rw [Bool.true_and]
      obtain ⟨n, rfl⟩ := isNm_str hn
      refine br_ret stb_sr (eb_if stb_sr (b := (getH b.haps n).isSome) (ebt_and (c := (getH b.haps n).isSome) stb_sr (a := true) (ebt_is (ebt_B (eb_ev (ev_call (ea_cons (x0 rfl) ea_nil) (by exact ⟨_, rfl, ok', rfl⟩)))) hn) (fun _ => ebt_B (es_in stb_sr (fun _ _ h => h) rfl (eb_ev (x0 rfl)))) (Bool.true_and _)) (fun q => eb_ev ?_) (fun q => eb_ev ?_))
      · exact ev_is ev_non (by rw [show getX b.haps (.str n) = getH b.haps n from rfl, if_pos q]; rfl)
      · exact ev_is ev_str (by rw [show getX b.haps (.str n) = getH b.haps n from rfl, if_neg (by rw [q]; exact Bool.false_ne_true)]; rfl)
  | turn x =>
    obtain ⟨o1, o2⟩ := ok
    refine br_no stb_sr (hw (s := "turn") rfl (by decide +kernel) (by decide +kernel) (by decide +kernel)) ?_
    refine br_no stb_sr (hw (s := "turn") rfl (by decide +kernel) (by decide +kernel) (by decide +kernel)) ?_
    refine br_no stb_sr (hw (s := "turn") rfl (by decide +kernel) (by decide +kernel) (by decide +kernel)) ?_
    show Br _ _ _ _ _ _ (wD (spdR x))
    cases hs : isSpD x with
    | false =>
      refine br_is (br_yes stb_sr (ebt_is (ebt_not (ebt_B (eb_ev (ev_call (ea_cons (x0 rfl) ea_nil) (by exact ⟨x, rfl, o1, rfl⟩))))) (by rw [hs]; rfl)) (br_ret stb_sr (eb_ev ev_str))) ?_
      unfold spdR
      rw [if_pos hs]
      rfl
    | true =>
      refine br_no stb_sr (ebt_is (ebt_not (ebt_B (eb_ev (ev_call (ea_cons (x0 rfl) ea_nil) (by exact ⟨x, rfl, o1, rfl⟩))))) (by rw [hs]; rfl)) ?_
      obtain ⟨v, rfl, sv, bv⟩ := o2 hs
      have e : spdR (fq v) = (if isNon (beatD v) = true then some ("plain" : Str) else none) := by
        unfold spdR
        rw [if_neg (by rw [hs]; exact fun q => by cases q), ratOf_fq]
      rw [e]
      refine br_ret stb_sr (eb_if stb_sr (b := isNon (beatD v)) (ebt_ev (et_test (ev_op (ev_call (ea_cons (x0 rfl) ea_nil) (by exact ⟨v, rfl, bv.mono (by decide), rfl⟩)) ev_non r2_isN))) (fun z => eb_ev ?_) (fun z => eb_ev ?_))
      · exact ev_is ev_str (by rw [if_pos z]; rfl)
      · exact ev_is ev_non (by rw [if_neg (by rw [z]; exact Bool.false_ne_true)]; rfl)
  | push x =>
    obtain ⟨o1, o2⟩ := ok
    refine br_no stb_sr (hw (s := "push") rfl (by decide +kernel) (by decide +kernel) (by decide +kernel)) ?_
    refine br_no stb_sr (hw (s := "push") rfl (by decide +kernel) (by decide +kernel) (by decide +kernel)) ?_
    refine br_no stb_sr (hw (s := "push") rfl (by decide +kernel) (by decide +kernel) (by decide +kernel)) ?_
    show Br _ _ _ _ _ _ (wD (spdR x))
    cases hs : isSpD x with
    | false =>
      refine br_is (br_yes stb_sr (ebt_is (ebt_not (ebt_B (eb_ev (ev_call (ea_cons (x0 rfl) ea_nil) (by exact ⟨x, rfl, o1, rfl⟩))))) (by rw [hs]; rfl)) (br_ret stb_sr (eb_ev ev_str))) ?_
      unfold spdR
      rw [if_pos hs]
      rfl
    | true =>
      refine br_no stb_sr (ebt_is (ebt_not (ebt_B (eb_ev (ev_call (ea_cons (x0 rfl) ea_nil) (by exact ⟨x, rfl, o1, rfl⟩))))) (by rw [hs]; rfl)) ?_
      obtain ⟨v, rfl, sv, bv⟩ := o2 hs
      have e : spdR (fq v) = (if isNon (beatD v) = true then some ("plain" : Str) else none) := by
        unfold spdR
        rw [if_neg (by rw [hs]; exact fun q => by cases q), ratOf_fq]
      rw [e]
      refine br_ret stb_sr (eb_if stb_sr (b := isNon (beatD v)) (ebt_ev (et_test (ev_op (ev_call (ea_cons (x0 rfl) ea_nil) (by exact ⟨v, rfl, bv.mono (by decide), rfl⟩)) ev_non r2_isN))) (fun z => eb_ev ?_) (fun z => eb_ev ?_))
      · exact ev_is ev_str (by rw [if_pos z]; rfl)
      · exact ev_is ev_non (by rw [if_neg (by rw [z]; exact Bool.false_ne_true)]; rfl)
theorem h__law_sum (T : Txt K mg ca fa ka) : Has P w K mg base CX0 2 "_law_sum" ["_law_one", "_law_other"] (spP K R_sum) := by
  refine T.d__law_sum.pure sc__law_sum (fun ds d h => by obtain ⟨x, y, rfl, _⟩ := h; rfl) (fun f cdv A outer s H E hr => (pss_one (ps_ret (pe_h (h__law_low T) hr (by decide) pass0 (pa_cons (pe_op op_add (pe_op op_mulA (pe_ix (ixK (K := K) rfl) (pv 0) pe_int (fun _ _ => rfl)) (pe_ix (ixK (K := K) rfl) (pv 1) pe_int (fun _ _ => rfl))) (pe_op op_mulA (pe_ix (ixK (K := K) rfl) (pv 1) pe_int (fun _ _ => rfl)) (pe_ix (ixK (K := K) rfl) (pv 0) pe_int (fun _ _ => rfl)))) (pa_cons (pe_op op_mulA (pe_ix (ixK (K := K) rfl) (pv 0) pe_int (fun _ _ => rfl)) (pe_ix (ixK (K := K) rfl) (pv 1) pe_int (fun _ _ => rfl))) pa_nil)))))) ?_
  rintro ds d ⟨x, y, rfl, bx, by_, rfl⟩
  refine rt_ret (ev_call (ea_cons (ev_op (ev_op (ev_op (ev_var rfl) ev_int fx0) (ev_op (ev_var rfl) ev_int fx1) (r2_mul (mulok bx.1 by_.2 (by decide)))) (ev_op (ev_op (ev_var rfl) ev_int fx0) (ev_op (ev_var rfl) ev_int fx1) (r2_mul (mulok by_.1 bx.2 (by decide)))) r2_add) (ea_cons (ev_op (ev_op (ev_var rfl) ev_int fx1) (ev_op (ev_var rfl) ev_int fx1) (r2_mul (mulok bx.2 by_.2 (by decide)))) ea_nil)) ⟨_, _, rfl, Int.mul_ne_zero (den_ne x) (den_ne y), (bt_mul bx.2 by_.2).mono (by decide), ?_⟩)
  rw [q_add]
theorem h__law_quot (T : Txt K mg ca fa ka) : Has P w K mg base CX0 2 "_law_quot" ["_law_one", "_law_other"] (spP K R_quot) := by
  refine T.d__law_quot.pure sc__law_quot (fun ds d h => by obtain ⟨x, y, rfl, _⟩ := h; rfl) (fun f cdv A outer s H E hr => (pss_one (ps_ret (pe_h (h__law_low T) hr (by decide) pass0 (pa_cons (pe_op op_mulA (pe_ix (ixK (K := K) rfl) (pv 0) pe_int (fun _ _ => rfl)) (pe_ix (ixK (K := K) rfl) (pv 1) pe_int (fun _ _ => rfl))) (pa_cons (pe_op op_mulA (pe_ix (ixK (K := K) rfl) (pv 0) pe_int (fun _ _ => rfl)) (pe_ix (ixK (K := K) rfl) (pv 1) pe_int (fun _ _ => rfl))) pa_nil)))))) ?_
  rintro ds d ⟨x, y, rfl, bx, by_, y0, rfl⟩
  refine rt_ret (ev_call (ea_cons (ev_op (ev_op (ev_var rfl) ev_int fx0) (ev_op (ev_var rfl) ev_int fx1) (r2_mul (mulok bx.1 by_.2 (by decide)))) (ea_cons (ev_op (ev_op (ev_var rfl) ev_int fx1) (ev_op (ev_var rfl) ev_int fx0) (r2_mul (mulok bx.2 by_.1 (by decide)))) ea_nil)) ⟨_, _, rfl, Int.mul_ne_zero (den_ne x) (num_ne.mpr y0), (bt_mul bx.2 by_.1).mono (by decide), ?_⟩)
  rw [q_div]
theorem h__law_joined (T : Txt K mg ca fa ka) : Has P w K mg base CX0 3 "_law_joined" ["_law_one", "_law_other"] (spP K R_joined) := by
  refine T.d__law_joined.pure sc__law_joined (fun ds d h => by obtain ⟨x, y, rfl, _⟩ := h; rfl) (fun f cdv A outer s H E hr => (pss_one (ps_ret (pe_h (h__law_quot T) hr (by decide) pass0 (pa_cons (pe_h (h__law_sum T) hr (by decide) pass0 (pa_cons (pv 0) (pa_cons (pv 1) pa_nil))) (pa_cons (pe_h (h__law_sum T) hr (by decide) pass0 (pa_cons (pe_tup (pa_cons pe_int (pa_cons pe_int pa_nil))) (pa_cons (pe_h (h__law_prod T) hr (by decide) pass0 (pa_cons (pv 0) (pa_cons (pv 1) pa_nil))) pa_nil))) pa_nil)))))) ?_
  rintro ds d ⟨x, y, rfl, ⟨n, m, bx, by_, hnm⟩, h, rfl⟩
  rw [jn_def]
  have b1 : Bq 4400 1 := bq_one.mono (by decide)
  have bx4 : Bq 4400 x := bx.mono (by omega)
  have by4 : Bq 4400 y := by_.mono (by omega)
  have bs : Bq 4400 (x + y) := (bq_add bx by_).mono (by omega)
  have bp : Bq 4400 (x * y) := (bq_mul bx by_).mono (by omega)
  have bq : Bq 4400 (1 + x * y) := (bq_add bq_one (bq_mul bx by_)).mono (by omega)
  clear bx by_
  have e1 : (Dt.tup [.int 1, .int 1]) = fq 1 := rfl
  refine rt_ret ?_
  refine ev_call (ea_cons (ev_call (by walk_at "ea") (by walk_at "rok")) (ea_cons (ev_call (ea_cons (ev_is (by walk_at "ev") e1) (by walk_at "ea")) (by walk_at "rok")) ea_nil)) (by walk_at "rok")
def R_kpt (b : Bst) (ds : List Dt) (d : Dt) (b' : Bst) : Prop := ∃ de : Deed, ds = [.str de.w, .lst de.t] ∧ DeedOk de ∧ SpB b ∧ DoneR b de d b'
theorem h__law_kept (T : Txt K mg ca fa ka) : Has P w K mg base CX0 5 "_law_kept" ["_law_state", "_law_word_here", "_law_told_here"] (spStD K R_kpt) := by
  refine T.d__law_kept.deedS sc__law_kept (fun b ds d b' h => by obtain ⟨_, rfl, _⟩ := h; rfl) (fun f cdv A outer s H E hr => (pss_cons (ps_set (i := 3) sc__law_kept.nd rfl (Or.inl rfl) (pe_h (h__law_refused_as T) hr (by decide) pass0 (pa_cons (pv 0) (pa_cons (pv 1) (pa_cons (pv 2) pa_nil))))) (pss_cons (ps_if (pt_cmpR op_notN1 (pv 3) pe_non (nomark _)) (pss_one (ps_ret (pv 3))) pss_nil) (pss_cons (ps_if (pt_cmpR (eqK (K := K) rfl hr.units) (pv 1) pe_str (nomark _)) (pss_cons (ps_asg (bm0K (K := K) rfl (pe_bm0 PySem.F.plainAttrs_list PySem.F.slot_list_pop PySem.F.type_list_pop mt_pop (pe_dget (lt64 hr.units) (pv 0) pe_str (fun _ _ => rfl)))) (tupK (K := K) (n := 2) rfl rfl (pgs_cons (pg_sub (pv 0) pe_str (set_dict (lt64 hr.units))) (pgs_cons (pg_sub (pv 0) pe_str (set_dict (lt64 hr.units))) pgs_nil)))) (pss_one (ps_ret pe_non))) pss_nil) (pss_cons (ps_expr (bmK (K := K) rfl (pe_bm PySem.F.plainAttrs_list PySem.F.slot_list_append PySem.F.type_list_append mt_append (pe_dget (lt64 hr.units) (pv 0) pe_str (fun _ _ => rfl)) (pa_cons (pe_tup (pa_cons (pe_dget (lt64 hr.units) (pv 0) pe_str (fun _ _ => rfl)) (pa_cons (pe_dget (lt64 hr.units) (pv 0) pe_str (fun _ _ => rfl)) pa_nil))) pa_nil)))) (pss_cons (ps_dput (lt64 hr.units) (pv 0) pe_str (pe_callTy dictH (by rfl) T.m_dict (by decide +kernel) (pa_cons (pe_dget (lt64 hr.units) (pv 0) pe_str (fun _ _ => rfl)) pa_nil)) (by rfl)) (pss_cons (ps_if (pt_cmpR (eqK (K := K) rfl hr.units) (pv 1) pe_str (nomark _)) (pss_one (ps_dput (lt64 hr.units) (pe_dget (lt64 hr.units) (pv 0) pe_str (fun _ _ => rfl)) (pe_ix (ixK (K := K) rfl) (pv 2) pe_int (fun _ _ => rfl)) (pe_ix (ixK (K := K) rfl) (pv 2) pe_int (fun _ _ => rfl)) (by rfl))) (pss_one (ps_if (pt_cmpR (eqK (K := K) rfl hr.units) (pv 1) pe_str (nomark _)) (pss_one (ps_expr (pe_dpop1 (pe_dget (lt64 hr.units) (pv 0) pe_str (fun _ _ => rfl)) (pe_ix (ixK (K := K) rfl) (pv 2) pe_int (fun _ _ => rfl)) ⟨rfl, rfl, rfl, rfl⟩))) (pss_one (ps_dput (lt64 hr.units) (pv 0) pe_str (pe_ifExp (pt_cmpR (eqK (K := K) rfl hr.units) (pv 1) pe_str (nomark _)) (pe_ix (ixK (K := K) rfl) (pv 2) pe_int (fun _ _ => rfl)) (pe_h (h__law_joined T) hr (by decide) pass0 (pa_cons (pe_dget (lt64 hr.units) (pv 0) pe_str (fun _ _ => rfl)) (pa_cons (pe_ix (ixK (K := K) rfl) (pv 2) pe_int (fun _ _ => rfl)) pa_nil)))) (by rfl)))))) (pss_one (ps_ret pe_non))))))))) ?_
  rintro y p b ds d b' ⟨de, rfl, ok, ⟨l1, l2, ss, bs⟩, h⟩
  have hw : ∀ {sl : List Sl} {s z : Str} {c : Bool}, sl[1]? = some (.d (.str s)) → SeqAt.shaped (.str s) = true → SeqAt.shaped (.str z) = true → (s == z) = c → EvT K (tTest (tOp (rEqD K) (tVar 1) (tC (.str z)))) sl c := fun h1 h2 h3 h4 => et_is (et_test (ev_op (ev_var h1) ev_str (r2_eqS h2 h3))) h4
  have x0 : ∀ {sl : List Sl} {a : Dt} {l : List Dt}, sl[2]? = some (.d (.lst (a :: l))) → Ev K (tOp (rIx K) (tVar 2) (tC (.int 0))) sl a := fun {sl a l} h => ev_op (ev_var h) ev_int (r2_ixL ((atI_k (k := 0) (a :: l) (Nat.succ_pos _)).trans rfl))
  have x1 : ∀ {sl : List Sl} {a c : Dt} {l : List Dt}, sl[2]? = some (.d (.lst (a :: c :: l))) → Ev K (tOp (rIx K) (tVar 2) (tC (.int 1))) sl c := fun {sl a c l} h => ev_op (ev_var h) ev_int (r2_ixL ((atI_k (k := 1) (a :: c :: l) (Nat.succ_lt_succ (Nat.succ_pos _))).trans rfl))
  refine br_seq (bn_asg (N := fun s => s = [.raw (.ref y), .d (.str de.w), .d (.lst de.t), .d (wD (refw b de))]) (x := wD (refw b de)) stb_so (es_call stb_so (fun _ _ h => h.r) rfl (eba_ev (by walk_at "ea")) (by exact ⟨de, rfl, ok, rfl⟩)) rfl) ?_
  rintro s rfl
  rcases h with ⟨w, hr2, rfl, rfl⟩ | ⟨hr2, rfl, ha⟩
  · rw [hr2]
    exact br_yes stb_so (ebt_ev (et_is (et_test (ev_op (ev_var rfl) ev_non r2_notN)) rfl)) (br_ret stb_so (eb_ev (ev_var rfl)))
  rw [hr2]
  refine br_no stb_so (ebt_ev (et_is (et_test (ev_op (ev_var rfl) ev_non r2_notN)) rfl)) ?_
  cases de with
  | undo =>
    obtain ⟨h0, s0, pt, hp, rfl⟩ := ha
    exact br_yes stb_so (ebt_ev (hw (s := "undo") rfl (by decide +kernel) (by decide +kernel) (by decide +kernel))) (br_seq (bs_undo rfl hp) fun s _ => br_ret stb_so (eb_ev ev_non))
  | put x z =>
    obtain ⟨n, q, rfl, rfl, rfl⟩ := ha
    refine br_no stb_so (ebt_ev (hw (s := "put") rfl (by decide +kernel) (by decide +kernel) (by decide +kernel))) ?_
    refine br_seq (bs_past rfl l2) ?_
    rintro s rfl
    refine br_two (bs_put (n := n) (q := q) rfl l1 (hw (s := "put") rfl (by decide +kernel) (by decide +kernel) (by decide +kernel)) (x0 rfl) (x1 rfl)) ?_
    rintro s rfl
    exact br_ret stb_so (eb_ev ev_non)
  | drop x =>
    obtain ⟨n, rfl, hg, rfl⟩ := ha
    refine br_no stb_so (ebt_ev (hw (s := "drop") rfl (by decide +kernel) (by decide +kernel) (by decide +kernel))) ?_
    refine br_seq (bs_past rfl l2) ?_
    rintro s rfl
    refine br_two (bs_drop (n := n) rfl hg (hw (s := "drop") rfl (by decide +kernel) (by decide +kernel) (by decide +kernel)) (hw (s := "drop") rfl (by decide +kernel) (by decide +kernel) (by decide +kernel)) (x0 rfl)) ?_
    rintro s rfl
    exact br_ret stb_so (eb_ev ev_non)
  | turn x =>
    obtain ⟨v, w, rfl, hv, bv, rfl⟩ := ha
    refine br_no stb_so (ebt_ev (hw (s := "turn") rfl (by decide +kernel) (by decide +kernel) (by decide +kernel))) ?_
    refine br_seq (bs_past rfl l2) ?_
    rintro s rfl
    refine br_two (bs_spd (v := v) rfl (hw (s := "turn") rfl (by decide +kernel) (by decide +kernel) (by decide +kernel)) (hw (s := "turn") rfl (by decide +kernel) (by decide +kernel) (by decide +kernel)) (eb_if stb_w (b := true) (ebt_ev (hw (s := "turn") rfl (by decide +kernel) (by decide +kernel) (by decide +kernel))) (fun _ => eb_ev (x0 rfl)) (fun z => by cases z))) ?_
    rintro s rfl
    exact br_ret stb_so (eb_ev ev_non)
  | push x =>
    obtain ⟨v, w, rfl, hv, bv, rfl⟩ := ha
    refine br_no stb_so (ebt_ev (hw (s := "push") rfl (by decide +kernel) (by decide +kernel) (by decide +kernel))) ?_
    refine br_seq (bs_past rfl l2) ?_
    rintro s rfl
    refine br_two (bs_spd (v := jn b.speed v) rfl (hw (s := "push") rfl (by decide +kernel) (by decide +kernel) (by decide +kernel)) (hw (s := "push") rfl (by decide +kernel) (by decide +kernel) (by decide +kernel)) (eb_if stb_w (b := false) (ebt_ev (hw (s := "push") rfl (by decide +kernel) (by decide +kernel) (by decide +kernel))) (fun z => by cases z) (fun _ => eb_call (eba_cons stb_w (ew_speed rfl) (eba_ev (ea_cons (x0 rfl) ea_nil))) (by exact ⟨b.speed, v, rfl, ⟨4000, 67, bs, bv, by decide⟩, sp_ne ss hv.s, rfl⟩)))) ?_
    rintro s rfl
    exact br_ret stb_so (eb_ev ev_non)
def Kd (ca : Nat → Addr) (D : Addr) (ans : Str) : Prop := (D = ca 16 ∧ ans = "name") ∨ (D = ca 2 ∧ ans = "hap") ∨ (D = ca 4 ∧ ans = "speed") ∨ (D = ca 6 ∧ ans = "plain") ∨ (D = ca 17 ∧ ans = "deed") ∨ (D = ca 5 ∧ ans = "many")
theorem h__law_kind_of (T : Txt K mg ca fa ka) : HasE P w K mg base 1 "_law_kind_of" "_law_e" (Kd ca) := by
  obtain ⟨f, fd, F, hm, b⟩ := T.d__law_kind_of.ex
  refine ⟨f, fd, fun D ans h => ?_, hm, F.kp, b⟩
  rcases h with ⟨rfl, rfl⟩ | ⟨rfl, rfl⟩ | ⟨rfl, rfl⟩ | ⟨rfl, rfl⟩ | ⟨rfl, rfl⟩ | ⟨rfl, rfl⟩
  · refine fnE_of F sc__law_kind_of (fun cdv A outer s H a oe hr hz hf => (pss_cons (ps_set (i := 1) sc__law_kind_of.nd rfl (Or.inl rfl) (pe_lst (pa_cons (pe_callB (isE (K := K) rfl List.mem_cons_self T.e_NoName hz hf) (by rfl) T.m_isinstance (by decide +kernel) (pa_cons (pv 0) (pa_cons (pe_glob (v := .ref (ca 17)) (by rfl) T.c_NoDeed rfl) pa_nil))) (pa_cons (pe_callB (isE (K := K) rfl List.mem_cons_self T.e_NoName hz hf) (by rfl) T.m_isinstance (by decide +kernel) (pa_cons (pv 0) (pa_cons (pe_glob (v := .ref (ca 15)) (by rfl) T.c_NoFlash rfl) pa_nil))) (pa_cons (pe_callB (isE (K := K) rfl List.mem_cons_self T.e_NoName hz hf) (by rfl) T.m_isinstance (by decide +kernel) (pa_cons (pv 0) (pa_cons (pe_glob (v := .ref (ca 1)) (by rfl) T.c_NoFraction rfl) pa_nil))) (pa_cons (pe_callB (isE (K := K) rfl List.mem_cons_self T.e_NoName hz hf) (by rfl) T.m_isinstance (by decide +kernel) (pa_cons (pv 0) (pa_cons (pe_glob (v := .ref (ca 2)) (by rfl) T.c_NoHap rfl) pa_nil))) pa_nil)))))) (pss_cons (ps_set (i := 1) sc__law_kind_of.nd rfl (Or.inl rfl) (pe_op (catK (K := K) rfl) (pv 1) (pe_lst (pa_cons (pe_callB (isE (K := K) rfl List.mem_cons_self T.e_NoName hz hf) (by rfl) T.m_isinstance (by decide +kernel) (pa_cons (pv 0) (pa_cons (pe_glob (v := .ref (ca 8)) (by rfl) T.c_NoHaps rfl) pa_nil))) (pa_cons (pe_callB (isE (K := K) rfl List.mem_cons_self T.e_NoName hz hf) (by rfl) T.m_isinstance (by decide +kernel) (pa_cons (pv 0) (pa_cons (pe_glob (v := .ref (ca 16)) (by rfl) T.c_NoName rfl) pa_nil))) (pa_cons (pe_callB (isE (K := K) rfl List.mem_cons_self T.e_NoName hz hf) (by rfl) T.m_isinstance (by decide +kernel) (pa_cons (pv 0) (pa_cons (pe_glob (v := .ref (ca 11)) (by rfl) T.c_NoNumber rfl) pa_nil))) pa_nil)))))) (pss_cons (ps_set (i := 1) sc__law_kind_of.nd rfl (Or.inl rfl) (pe_op (catK (K := K) rfl) (pv 1) (pe_lst (pa_cons (pe_callB (isE (K := K) rfl List.mem_cons_self T.e_NoName hz hf) (by rfl) T.m_isinstance (by decide +kernel) (pa_cons (pv 0) (pa_cons (pe_glob (v := .ref (ca 9)) (by rfl) T.c_NoOrder rfl) pa_nil))) (pa_cons (pe_callB (isE (K := K) rfl List.mem_cons_self T.e_NoName hz hf) (by rfl) T.m_isinstance (by decide +kernel) (pa_cons (pv 0) (pa_cons (pe_glob (v := .ref (ca 13)) (by rfl) T.c_NoRod rfl) pa_nil))) (pa_cons (pe_callB (isE (K := K) rfl List.mem_cons_self T.e_NoName hz hf) (by rfl) T.m_isinstance (by decide +kernel) (pa_cons (pv 0) (pa_cons (pe_glob (v := .ref (ca 18)) (by rfl) T.c_NoRow rfl) pa_nil))) (pa_cons (pe_callB (isE (K := K) rfl List.mem_cons_self T.e_NoName hz hf) (by rfl) T.m_isinstance (by decide +kernel) (pa_cons (pv 0) (pa_cons (pe_glob (v := .ref (ca 12)) (by rfl) T.c_NoSeat rfl) pa_nil))) pa_nil))))))) (pss_cons (ps_set (i := 1) sc__law_kind_of.nd rfl (Or.inl rfl) (pe_op (catK (K := K) rfl) (pv 1) (pe_lst (pa_cons (pe_callB (isE (K := K) rfl List.mem_cons_self T.e_NoName hz hf) (by rfl) T.m_isinstance (by decide +kernel) (pa_cons (pv 0) (pa_cons (pe_glob (v := .ref (ca 4)) (by rfl) T.c_NoSpeed rfl) pa_nil))) (pa_cons (pe_callB (isE (K := K) rfl List.mem_cons_self T.e_NoName hz hf) (by rfl) T.m_isinstance (by decide +kernel) (pa_cons (pv 0) (pa_cons (pe_glob (v := .ref (ca 10)) (by rfl) T.c_NoStep rfl) pa_nil))) (pa_cons (pe_callB (isE (K := K) rfl List.mem_cons_self T.e_NoName hz hf) (by rfl) T.m_isinstance (by decide +kernel) (pa_cons (pv 0) (pa_cons (pe_glob (v := .ref (ca 7)) (by rfl) T.c_NoStretch rfl) pa_nil))) pa_nil)))))) (pss_cons (ps_set (i := 1) sc__law_kind_of.nd rfl (Or.inl rfl) (pe_op (catK (K := K) rfl) (pv 1) (pe_lst (pa_cons (pe_callB (isE (K := K) rfl List.mem_cons_self T.e_NoName hz hf) (by rfl) T.m_isinstance (by decide +kernel) (pa_cons (pv 0) (pa_cons (pe_glob (v := .ref (ca 3)) (by rfl) T.c_NoText rfl) pa_nil))) (pa_cons (pe_callB (isE (K := K) rfl List.mem_cons_self T.e_NoName hz hf) (by rfl) T.m_isinstance (by decide +kernel) (pa_cons (pv 0) (pa_cons (pe_glob (v := .ref (ca 6)) (by rfl) T.c_NotPlain rfl) pa_nil))) (pa_cons (pe_callB (isE (K := K) rfl List.mem_cons_self T.e_NoName hz hf) (by rfl) T.m_isinstance (by decide +kernel) (pa_cons (pv 0) (pa_cons (pe_glob (v := .ref (ca 14)) (by rfl) T.c_NoWay rfl) pa_nil))) (pa_cons (pe_callB (isE (K := K) rfl List.mem_cons_self T.e_NoName hz hf) (by rfl) T.m_isinstance (by decide +kernel) (pa_cons (pv 0) (pa_cons (pe_glob (v := .ref (ca 5)) (by rfl) T.c_TooMany rfl) pa_nil))) pa_nil))))))) (pss_cons (ps_if (PW.pt (pw_or (pt_cmpR (neK (K := K) rfl (unH hr)) (bmK (K := K) rfl (pe_bm PySem.F.plainAttrs_list PySem.F.slot_list_count PySem.F.type_list_count (cntK (K := K) rfl (unH hr)) (pv 1) (pa_cons pe_bl pa_nil))) pe_int (nomark _)) (pw_or1 (pt_not (pt_val (pe_callB (isE (K := K) rfl List.mem_cons_self T.e_NoName hz hf) (by rfl) T.m_isinstance (by decide +kernel) (pa_cons (pv 0) (pa_cons (pe_bltn (v := .ty "ValueError") (by rfl) T.m_ValueError (by decide +kernel) rfl) pa_nil)))))))) (pss_one (ps_ret pe_str)) pss_nil) (pss_cons (ps_set (i := 2) sc__law_kind_of.nd rfl (Or.inl rfl) (pe_lst (pa_cons pe_str (pa_cons pe_str (pa_cons pe_str (pa_cons pe_str (pa_cons pe_str (pa_cons pe_str (pa_cons pe_str (pa_cons pe_str (pa_cons pe_str (pa_cons pe_str (pa_cons pe_str (pa_cons pe_str pa_nil)))))))))))))) (pss_one (ps_ret (pe_ix (ixK (K := K) rfl) (pe_op (catK (K := K) rfl) (pv 2) (pe_lst (pa_cons pe_str (pa_cons pe_str (pa_cons pe_str (pa_cons pe_str (pa_cons pe_str (pa_cons pe_str pa_nil)))))))) (bmK (K := K) rfl (pe_bm PySem.F.plainAttrs_list PySem.F.slot_list_index PySem.F.type_list_index (idxK (K := K) rfl) (pv 1) (pa_cons pe_bl pa_nil))) (fun _ _ => rfl)))))))))))) fun a => ?_
    refine (rt_seq (nt_asg (ev_lst (ea_cons (ev_isE rfl (fun _ r => r) T.k_NoName_NoDeed) (ea_cons (ev_isE rfl (fun _ r => r) T.k_NoName_NoFlash) (ea_cons (ev_isE rfl (fun _ r => r) T.k_NoName_NoFraction) (ea_cons (ev_isE rfl (fun _ r => r) T.k_NoName_NoHap) ea_nil)))))) (rt_seq (nt_asg (ev_op (ev_var rfl) (ev_lst (ea_cons (ev_isE rfl (fun _ r => r) T.k_NoName_NoHaps) (ea_cons (ev_isE rfl (fun _ r => r) T.k_NoName_NoName) (ea_cons (ev_isE rfl (fun _ r => r) T.k_NoName_NoNumber) ea_nil)))) (r2_cat (by exact Nat.le_of_ble_eq_true rfl)))) (rt_seq (nt_asg (ev_op (ev_var rfl) (ev_lst (ea_cons (ev_isE rfl (fun _ r => r) T.k_NoName_NoOrder) (ea_cons (ev_isE rfl (fun _ r => r) T.k_NoName_NoRod) (ea_cons (ev_isE rfl (fun _ r => r) T.k_NoName_NoRow) (ea_cons (ev_isE rfl (fun _ r => r) T.k_NoName_NoSeat) ea_nil))))) (r2_cat (by exact Nat.le_of_ble_eq_true rfl)))) (rt_seq (nt_asg (ev_op (ev_var rfl) (ev_lst (ea_cons (ev_isE rfl (fun _ r => r) T.k_NoName_NoSpeed) (ea_cons (ev_isE rfl (fun _ r => r) T.k_NoName_NoStep) (ea_cons (ev_isE rfl (fun _ r => r) T.k_NoName_NoStretch) ea_nil)))) (r2_cat (by exact Nat.le_of_ble_eq_true rfl)))) (rt_seq (nt_asg (ev_op (ev_var rfl) (ev_lst (ea_cons (ev_isE rfl (fun _ r => r) T.k_NoName_NoText) (ea_cons (ev_isE rfl (fun _ r => r) T.k_NoName_NotPlain) (ea_cons (ev_isE rfl (fun _ r => r) T.k_NoName_NoWay) (ea_cons (ev_isE rfl (fun _ r => r) T.k_NoName_TooMany) ea_nil))))) (r2_cat (by exact Nat.le_of_ble_eq_true rfl)))) ?_)))))
    refine rt_cond (b := false) (et_is (et_or (et_test (ev_op (ev_count (bs := [false, false, false, false, false, true, false, false, false, false, false, false, false, false, false, false, false, false]) (ev_var rfl)) ev_int r2_neI)) (fun _ => et_not (et_B (ev_isE rfl (fun _ r => r) T.v_NoName)))) rfl) (fun h => by cases h) (fun _ => ?_)
    refine rt_seq (nt_asg (ev_lst (ea_cons ev_str (ea_cons ev_str (ea_cons ev_str (ea_cons ev_str (ea_cons ev_str (ea_cons ev_str (ea_cons ev_str (ea_cons ev_str (ea_cons ev_str (ea_cons ev_str (ea_cons ev_str (ea_cons ev_str ea_nil)))))))))))))) ?_
    refine rt_ret (ev_op (ev_op (ev_var rfl) (ev_lst (ea_cons ev_str (ea_cons ev_str (ea_cons ev_str (ea_cons ev_str (ea_cons ev_str (ea_cons ev_str ea_nil))))))) (r2_cat (by exact Nat.le_of_ble_eq_true rfl))) (ev_index (bs := [false, false, false, false, false, true, false, false, false, false, false, false, false, false, false, false, false, false]) (j := 5) (ev_var rfl) rfl ?_) (r2_ixL rfl))
    intro m hm
    match m, hm with
    | 0, _ => rfl
    | 1, _ => rfl
    | 2, _ => rfl
    | 3, _ => rfl
    | 4, _ => rfl
    | m + 5, h => exact absurd h (by omega)
  · refine fnE_of F sc__law_kind_of (fun cdv A outer s H a oe hr hz hf => (pss_cons (ps_set (i := 1) sc__law_kind_of.nd rfl (Or.inl rfl) (pe_lst (pa_cons (pe_callB (isE (K := K) rfl List.mem_cons_self T.e_NoHap hz hf) (by rfl) T.m_isinstance (by decide +kernel) (pa_cons (pv 0) (pa_cons (pe_glob (v := .ref (ca 17)) (by rfl) T.c_NoDeed rfl) pa_nil))) (pa_cons (pe_callB (isE (K := K) rfl List.mem_cons_self T.e_NoHap hz hf) (by rfl) T.m_isinstance (by decide +kernel) (pa_cons (pv 0) (pa_cons (pe_glob (v := .ref (ca 15)) (by rfl) T.c_NoFlash rfl) pa_nil))) (pa_cons (pe_callB (isE (K := K) rfl List.mem_cons_self T.e_NoHap hz hf) (by rfl) T.m_isinstance (by decide +kernel) (pa_cons (pv 0) (pa_cons (pe_glob (v := .ref (ca 1)) (by rfl) T.c_NoFraction rfl) pa_nil))) (pa_cons (pe_callB (isE (K := K) rfl List.mem_cons_self T.e_NoHap hz hf) (by rfl) T.m_isinstance (by decide +kernel) (pa_cons (pv 0) (pa_cons (pe_glob (v := .ref (ca 2)) (by rfl) T.c_NoHap rfl) pa_nil))) pa_nil)))))) (pss_cons (ps_set (i := 1) sc__law_kind_of.nd rfl (Or.inl rfl) (pe_op (catK (K := K) rfl) (pv 1) (pe_lst (pa_cons (pe_callB (isE (K := K) rfl List.mem_cons_self T.e_NoHap hz hf) (by rfl) T.m_isinstance (by decide +kernel) (pa_cons (pv 0) (pa_cons (pe_glob (v := .ref (ca 8)) (by rfl) T.c_NoHaps rfl) pa_nil))) (pa_cons (pe_callB (isE (K := K) rfl List.mem_cons_self T.e_NoHap hz hf) (by rfl) T.m_isinstance (by decide +kernel) (pa_cons (pv 0) (pa_cons (pe_glob (v := .ref (ca 16)) (by rfl) T.c_NoName rfl) pa_nil))) (pa_cons (pe_callB (isE (K := K) rfl List.mem_cons_self T.e_NoHap hz hf) (by rfl) T.m_isinstance (by decide +kernel) (pa_cons (pv 0) (pa_cons (pe_glob (v := .ref (ca 11)) (by rfl) T.c_NoNumber rfl) pa_nil))) pa_nil)))))) (pss_cons (ps_set (i := 1) sc__law_kind_of.nd rfl (Or.inl rfl) (pe_op (catK (K := K) rfl) (pv 1) (pe_lst (pa_cons (pe_callB (isE (K := K) rfl List.mem_cons_self T.e_NoHap hz hf) (by rfl) T.m_isinstance (by decide +kernel) (pa_cons (pv 0) (pa_cons (pe_glob (v := .ref (ca 9)) (by rfl) T.c_NoOrder rfl) pa_nil))) (pa_cons (pe_callB (isE (K := K) rfl List.mem_cons_self T.e_NoHap hz hf) (by rfl) T.m_isinstance (by decide +kernel) (pa_cons (pv 0) (pa_cons (pe_glob (v := .ref (ca 13)) (by rfl) T.c_NoRod rfl) pa_nil))) (pa_cons (pe_callB (isE (K := K) rfl List.mem_cons_self T.e_NoHap hz hf) (by rfl) T.m_isinstance (by decide +kernel) (pa_cons (pv 0) (pa_cons (pe_glob (v := .ref (ca 18)) (by rfl) T.c_NoRow rfl) pa_nil))) (pa_cons (pe_callB (isE (K := K) rfl List.mem_cons_self T.e_NoHap hz hf) (by rfl) T.m_isinstance (by decide +kernel) (pa_cons (pv 0) (pa_cons (pe_glob (v := .ref (ca 12)) (by rfl) T.c_NoSeat rfl) pa_nil))) pa_nil))))))) (pss_cons (ps_set (i := 1) sc__law_kind_of.nd rfl (Or.inl rfl) (pe_op (catK (K := K) rfl) (pv 1) (pe_lst (pa_cons (pe_callB (isE (K := K) rfl List.mem_cons_self T.e_NoHap hz hf) (by rfl) T.m_isinstance (by decide +kernel) (pa_cons (pv 0) (pa_cons (pe_glob (v := .ref (ca 4)) (by rfl) T.c_NoSpeed rfl) pa_nil))) (pa_cons (pe_callB (isE (K := K) rfl List.mem_cons_self T.e_NoHap hz hf) (by rfl) T.m_isinstance (by decide +kernel) (pa_cons (pv 0) (pa_cons (pe_glob (v := .ref (ca 10)) (by rfl) T.c_NoStep rfl) pa_nil))) (pa_cons (pe_callB (isE (K := K) rfl List.mem_cons_self T.e_NoHap hz hf) (by rfl) T.m_isinstance (by decide +kernel) (pa_cons (pv 0) (pa_cons (pe_glob (v := .ref (ca 7)) (by rfl) T.c_NoStretch rfl) pa_nil))) pa_nil)))))) (pss_cons (ps_set (i := 1) sc__law_kind_of.nd rfl (Or.inl rfl) (pe_op (catK (K := K) rfl) (pv 1) (pe_lst (pa_cons (pe_callB (isE (K := K) rfl List.mem_cons_self T.e_NoHap hz hf) (by rfl) T.m_isinstance (by decide +kernel) (pa_cons (pv 0) (pa_cons (pe_glob (v := .ref (ca 3)) (by rfl) T.c_NoText rfl) pa_nil))) (pa_cons (pe_callB (isE (K := K) rfl List.mem_cons_self T.e_NoHap hz hf) (by rfl) T.m_isinstance (by decide +kernel) (pa_cons (pv 0) (pa_cons (pe_glob (v := .ref (ca 6)) (by rfl) T.c_NotPlain rfl) pa_nil))) (pa_cons (pe_callB (isE (K := K) rfl List.mem_cons_self T.e_NoHap hz hf) (by rfl) T.m_isinstance (by decide +kernel) (pa_cons (pv 0) (pa_cons (pe_glob (v := .ref (ca 14)) (by rfl) T.c_NoWay rfl) pa_nil))) (pa_cons (pe_callB (isE (K := K) rfl List.mem_cons_self T.e_NoHap hz hf) (by rfl) T.m_isinstance (by decide +kernel) (pa_cons (pv 0) (pa_cons (pe_glob (v := .ref (ca 5)) (by rfl) T.c_TooMany rfl) pa_nil))) pa_nil))))))) (pss_cons (ps_if (PW.pt (pw_or (pt_cmpR (neK (K := K) rfl (unH hr)) (bmK (K := K) rfl (pe_bm PySem.F.plainAttrs_list PySem.F.slot_list_count PySem.F.type_list_count (cntK (K := K) rfl (unH hr)) (pv 1) (pa_cons pe_bl pa_nil))) pe_int (nomark _)) (pw_or1 (pt_not (pt_val (pe_callB (isE (K := K) rfl List.mem_cons_self T.e_NoHap hz hf) (by rfl) T.m_isinstance (by decide +kernel) (pa_cons (pv 0) (pa_cons (pe_bltn (v := .ty "ValueError") (by rfl) T.m_ValueError (by decide +kernel) rfl) pa_nil)))))))) (pss_one (ps_ret pe_str)) pss_nil) (pss_cons (ps_set (i := 2) sc__law_kind_of.nd rfl (Or.inl rfl) (pe_lst (pa_cons pe_str (pa_cons pe_str (pa_cons pe_str (pa_cons pe_str (pa_cons pe_str (pa_cons pe_str (pa_cons pe_str (pa_cons pe_str (pa_cons pe_str (pa_cons pe_str (pa_cons pe_str (pa_cons pe_str pa_nil)))))))))))))) (pss_one (ps_ret (pe_ix (ixK (K := K) rfl) (pe_op (catK (K := K) rfl) (pv 2) (pe_lst (pa_cons pe_str (pa_cons pe_str (pa_cons pe_str (pa_cons pe_str (pa_cons pe_str (pa_cons pe_str pa_nil)))))))) (bmK (K := K) rfl (pe_bm PySem.F.plainAttrs_list PySem.F.slot_list_index PySem.F.type_list_index (idxK (K := K) rfl) (pv 1) (pa_cons pe_bl pa_nil))) (fun _ _ => rfl)))))))))))) fun a => ?_
    refine (rt_seq (nt_asg (ev_lst (ea_cons (ev_isE rfl (fun _ r => r) T.k_NoHap_NoDeed) (ea_cons (ev_isE rfl (fun _ r => r) T.k_NoHap_NoFlash) (ea_cons (ev_isE rfl (fun _ r => r) T.k_NoHap_NoFraction) (ea_cons (ev_isE rfl (fun _ r => r) T.k_NoHap_NoHap) ea_nil)))))) (rt_seq (nt_asg (ev_op (ev_var rfl) (ev_lst (ea_cons (ev_isE rfl (fun _ r => r) T.k_NoHap_NoHaps) (ea_cons (ev_isE rfl (fun _ r => r) T.k_NoHap_NoName) (ea_cons (ev_isE rfl (fun _ r => r) T.k_NoHap_NoNumber) ea_nil)))) (r2_cat (by exact Nat.le_of_ble_eq_true rfl)))) (rt_seq (nt_asg (ev_op (ev_var rfl) (ev_lst (ea_cons (ev_isE rfl (fun _ r => r) T.k_NoHap_NoOrder) (ea_cons (ev_isE rfl (fun _ r => r) T.k_NoHap_NoRod) (ea_cons (ev_isE rfl (fun _ r => r) T.k_NoHap_NoRow) (ea_cons (ev_isE rfl (fun _ r => r) T.k_NoHap_NoSeat) ea_nil))))) (r2_cat (by exact Nat.le_of_ble_eq_true rfl)))) (rt_seq (nt_asg (ev_op (ev_var rfl) (ev_lst (ea_cons (ev_isE rfl (fun _ r => r) T.k_NoHap_NoSpeed) (ea_cons (ev_isE rfl (fun _ r => r) T.k_NoHap_NoStep) (ea_cons (ev_isE rfl (fun _ r => r) T.k_NoHap_NoStretch) ea_nil)))) (r2_cat (by exact Nat.le_of_ble_eq_true rfl)))) (rt_seq (nt_asg (ev_op (ev_var rfl) (ev_lst (ea_cons (ev_isE rfl (fun _ r => r) T.k_NoHap_NoText) (ea_cons (ev_isE rfl (fun _ r => r) T.k_NoHap_NotPlain) (ea_cons (ev_isE rfl (fun _ r => r) T.k_NoHap_NoWay) (ea_cons (ev_isE rfl (fun _ r => r) T.k_NoHap_TooMany) ea_nil))))) (r2_cat (by exact Nat.le_of_ble_eq_true rfl)))) ?_)))))
    refine rt_cond (b := false) (et_is (et_or (et_test (ev_op (ev_count (bs := [false, false, false, true, false, false, false, false, false, false, false, false, false, false, false, false, false, false]) (ev_var rfl)) ev_int r2_neI)) (fun _ => et_not (et_B (ev_isE rfl (fun _ r => r) T.v_NoHap)))) rfl) (fun h => by cases h) (fun _ => ?_)
    refine rt_seq (nt_asg (ev_lst (ea_cons ev_str (ea_cons ev_str (ea_cons ev_str (ea_cons ev_str (ea_cons ev_str (ea_cons ev_str (ea_cons ev_str (ea_cons ev_str (ea_cons ev_str (ea_cons ev_str (ea_cons ev_str (ea_cons ev_str ea_nil)))))))))))))) ?_
    refine rt_ret (ev_op (ev_op (ev_var rfl) (ev_lst (ea_cons ev_str (ea_cons ev_str (ea_cons ev_str (ea_cons ev_str (ea_cons ev_str (ea_cons ev_str ea_nil))))))) (r2_cat (by exact Nat.le_of_ble_eq_true rfl))) (ev_index (bs := [false, false, false, true, false, false, false, false, false, false, false, false, false, false, false, false, false, false]) (j := 3) (ev_var rfl) rfl ?_) (r2_ixL rfl))
    intro m hm
    match m, hm with
    | 0, _ => rfl
    | 1, _ => rfl
    | 2, _ => rfl
    | m + 3, h => exact absurd h (by omega)
  · refine fnE_of F sc__law_kind_of (fun cdv A outer s H a oe hr hz hf => (pss_cons (ps_set (i := 1) sc__law_kind_of.nd rfl (Or.inl rfl) (pe_lst (pa_cons (pe_callB (isE (K := K) rfl List.mem_cons_self T.e_NoSpeed hz hf) (by rfl) T.m_isinstance (by decide +kernel) (pa_cons (pv 0) (pa_cons (pe_glob (v := .ref (ca 17)) (by rfl) T.c_NoDeed rfl) pa_nil))) (pa_cons (pe_callB (isE (K := K) rfl List.mem_cons_self T.e_NoSpeed hz hf) (by rfl) T.m_isinstance (by decide +kernel) (pa_cons (pv 0) (pa_cons (pe_glob (v := .ref (ca 15)) (by rfl) T.c_NoFlash rfl) pa_nil))) (pa_cons (pe_callB (isE (K := K) rfl List.mem_cons_self T.e_NoSpeed hz hf) (by rfl) T.m_isinstance (by decide +kernel) (pa_cons (pv 0) (pa_cons (pe_glob (v := .ref (ca 1)) (by rfl) T.c_NoFraction rfl) pa_nil))) (pa_cons (pe_callB (isE (K := K) rfl List.mem_cons_self T.e_NoSpeed hz hf) (by rfl) T.m_isinstance (by decide +kernel) (pa_cons (pv 0) (pa_cons (pe_glob (v := .ref (ca 2)) (by rfl) T.c_NoHap rfl) pa_nil))) pa_nil)))))) (pss_cons (ps_set (i := 1) sc__law_kind_of.nd rfl (Or.inl rfl) (pe_op (catK (K := K) rfl) (pv 1) (pe_lst (pa_cons (pe_callB (isE (K := K) rfl List.mem_cons_self T.e_NoSpeed hz hf) (by rfl) T.m_isinstance (by decide +kernel) (pa_cons (pv 0) (pa_cons (pe_glob (v := .ref (ca 8)) (by rfl) T.c_NoHaps rfl) pa_nil))) (pa_cons (pe_callB (isE (K := K) rfl List.mem_cons_self T.e_NoSpeed hz hf) (by rfl) T.m_isinstance (by decide +kernel) (pa_cons (pv 0) (pa_cons (pe_glob (v := .ref (ca 16)) (by rfl) T.c_NoName rfl) pa_nil))) (pa_cons (pe_callB (isE (K := K) rfl List.mem_cons_self T.e_NoSpeed hz hf) (by rfl) T.m_isinstance (by decide +kernel) (pa_cons (pv 0) (pa_cons (pe_glob (v := .ref (ca 11)) (by rfl) T.c_NoNumber rfl) pa_nil))) pa_nil)))))) (pss_cons (ps_set (i := 1) sc__law_kind_of.nd rfl (Or.inl rfl) (pe_op (catK (K := K) rfl) (pv 1) (pe_lst (pa_cons (pe_callB (isE (K := K) rfl List.mem_cons_self T.e_NoSpeed hz hf) (by rfl) T.m_isinstance (by decide +kernel) (pa_cons (pv 0) (pa_cons (pe_glob (v := .ref (ca 9)) (by rfl) T.c_NoOrder rfl) pa_nil))) (pa_cons (pe_callB (isE (K := K) rfl List.mem_cons_self T.e_NoSpeed hz hf) (by rfl) T.m_isinstance (by decide +kernel) (pa_cons (pv 0) (pa_cons (pe_glob (v := .ref (ca 13)) (by rfl) T.c_NoRod rfl) pa_nil))) (pa_cons (pe_callB (isE (K := K) rfl List.mem_cons_self T.e_NoSpeed hz hf) (by rfl) T.m_isinstance (by decide +kernel) (pa_cons (pv 0) (pa_cons (pe_glob (v := .ref (ca 18)) (by rfl) T.c_NoRow rfl) pa_nil))) (pa_cons (pe_callB (isE (K := K) rfl List.mem_cons_self T.e_NoSpeed hz hf) (by rfl) T.m_isinstance (by decide +kernel) (pa_cons (pv 0) (pa_cons (pe_glob (v := .ref (ca 12)) (by rfl) T.c_NoSeat rfl) pa_nil))) pa_nil))))))) (pss_cons (ps_set (i := 1) sc__law_kind_of.nd rfl (Or.inl rfl) (pe_op (catK (K := K) rfl) (pv 1) (pe_lst (pa_cons (pe_callB (isE (K := K) rfl List.mem_cons_self T.e_NoSpeed hz hf) (by rfl) T.m_isinstance (by decide +kernel) (pa_cons (pv 0) (pa_cons (pe_glob (v := .ref (ca 4)) (by rfl) T.c_NoSpeed rfl) pa_nil))) (pa_cons (pe_callB (isE (K := K) rfl List.mem_cons_self T.e_NoSpeed hz hf) (by rfl) T.m_isinstance (by decide +kernel) (pa_cons (pv 0) (pa_cons (pe_glob (v := .ref (ca 10)) (by rfl) T.c_NoStep rfl) pa_nil))) (pa_cons (pe_callB (isE (K := K) rfl List.mem_cons_self T.e_NoSpeed hz hf) (by rfl) T.m_isinstance (by decide +kernel) (pa_cons (pv 0) (pa_cons (pe_glob (v := .ref (ca 7)) (by rfl) T.c_NoStretch rfl) pa_nil))) pa_nil)))))) (pss_cons (ps_set (i := 1) sc__law_kind_of.nd rfl (Or.inl rfl) (pe_op (catK (K := K) rfl) (pv 1) (pe_lst (pa_cons (pe_callB (isE (K := K) rfl List.mem_cons_self T.e_NoSpeed hz hf) (by rfl) T.m_isinstance (by decide +kernel) (pa_cons (pv 0) (pa_cons (pe_glob (v := .ref (ca 3)) (by rfl) T.c_NoText rfl) pa_nil))) (pa_cons (pe_callB (isE (K := K) rfl List.mem_cons_self T.e_NoSpeed hz hf) (by rfl) T.m_isinstance (by decide +kernel) (pa_cons (pv 0) (pa_cons (pe_glob (v := .ref (ca 6)) (by rfl) T.c_NotPlain rfl) pa_nil))) (pa_cons (pe_callB (isE (K := K) rfl List.mem_cons_self T.e_NoSpeed hz hf) (by rfl) T.m_isinstance (by decide +kernel) (pa_cons (pv 0) (pa_cons (pe_glob (v := .ref (ca 14)) (by rfl) T.c_NoWay rfl) pa_nil))) (pa_cons (pe_callB (isE (K := K) rfl List.mem_cons_self T.e_NoSpeed hz hf) (by rfl) T.m_isinstance (by decide +kernel) (pa_cons (pv 0) (pa_cons (pe_glob (v := .ref (ca 5)) (by rfl) T.c_TooMany rfl) pa_nil))) pa_nil))))))) (pss_cons (ps_if (PW.pt (pw_or (pt_cmpR (neK (K := K) rfl (unH hr)) (bmK (K := K) rfl (pe_bm PySem.F.plainAttrs_list PySem.F.slot_list_count PySem.F.type_list_count (cntK (K := K) rfl (unH hr)) (pv 1) (pa_cons pe_bl pa_nil))) pe_int (nomark _)) (pw_or1 (pt_not (pt_val (pe_callB (isE (K := K) rfl List.mem_cons_self T.e_NoSpeed hz hf) (by rfl) T.m_isinstance (by decide +kernel) (pa_cons (pv 0) (pa_cons (pe_bltn (v := .ty "ValueError") (by rfl) T.m_ValueError (by decide +kernel) rfl) pa_nil)))))))) (pss_one (ps_ret pe_str)) pss_nil) (pss_cons (ps_set (i := 2) sc__law_kind_of.nd rfl (Or.inl rfl) (pe_lst (pa_cons pe_str (pa_cons pe_str (pa_cons pe_str (pa_cons pe_str (pa_cons pe_str (pa_cons pe_str (pa_cons pe_str (pa_cons pe_str (pa_cons pe_str (pa_cons pe_str (pa_cons pe_str (pa_cons pe_str pa_nil)))))))))))))) (pss_one (ps_ret (pe_ix (ixK (K := K) rfl) (pe_op (catK (K := K) rfl) (pv 2) (pe_lst (pa_cons pe_str (pa_cons pe_str (pa_cons pe_str (pa_cons pe_str (pa_cons pe_str (pa_cons pe_str pa_nil)))))))) (bmK (K := K) rfl (pe_bm PySem.F.plainAttrs_list PySem.F.slot_list_index PySem.F.type_list_index (idxK (K := K) rfl) (pv 1) (pa_cons pe_bl pa_nil))) (fun _ _ => rfl)))))))))))) fun a => ?_
    refine (rt_seq (nt_asg (ev_lst (ea_cons (ev_isE rfl (fun _ r => r) T.k_NoSpeed_NoDeed) (ea_cons (ev_isE rfl (fun _ r => r) T.k_NoSpeed_NoFlash) (ea_cons (ev_isE rfl (fun _ r => r) T.k_NoSpeed_NoFraction) (ea_cons (ev_isE rfl (fun _ r => r) T.k_NoSpeed_NoHap) ea_nil)))))) (rt_seq (nt_asg (ev_op (ev_var rfl) (ev_lst (ea_cons (ev_isE rfl (fun _ r => r) T.k_NoSpeed_NoHaps) (ea_cons (ev_isE rfl (fun _ r => r) T.k_NoSpeed_NoName) (ea_cons (ev_isE rfl (fun _ r => r) T.k_NoSpeed_NoNumber) ea_nil)))) (r2_cat (by exact Nat.le_of_ble_eq_true rfl)))) (rt_seq (nt_asg (ev_op (ev_var rfl) (ev_lst (ea_cons (ev_isE rfl (fun _ r => r) T.k_NoSpeed_NoOrder) (ea_cons (ev_isE rfl (fun _ r => r) T.k_NoSpeed_NoRod) (ea_cons (ev_isE rfl (fun _ r => r) T.k_NoSpeed_NoRow) (ea_cons (ev_isE rfl (fun _ r => r) T.k_NoSpeed_NoSeat) ea_nil))))) (r2_cat (by exact Nat.le_of_ble_eq_true rfl)))) (rt_seq (nt_asg (ev_op (ev_var rfl) (ev_lst (ea_cons (ev_isE rfl (fun _ r => r) T.k_NoSpeed_NoSpeed) (ea_cons (ev_isE rfl (fun _ r => r) T.k_NoSpeed_NoStep) (ea_cons (ev_isE rfl (fun _ r => r) T.k_NoSpeed_NoStretch) ea_nil)))) (r2_cat (by exact Nat.le_of_ble_eq_true rfl)))) (rt_seq (nt_asg (ev_op (ev_var rfl) (ev_lst (ea_cons (ev_isE rfl (fun _ r => r) T.k_NoSpeed_NoText) (ea_cons (ev_isE rfl (fun _ r => r) T.k_NoSpeed_NotPlain) (ea_cons (ev_isE rfl (fun _ r => r) T.k_NoSpeed_NoWay) (ea_cons (ev_isE rfl (fun _ r => r) T.k_NoSpeed_TooMany) ea_nil))))) (r2_cat (by exact Nat.le_of_ble_eq_true rfl)))) ?_)))))
    refine rt_cond (b := false) (et_is (et_or (et_test (ev_op (ev_count (bs := [false, false, false, false, false, false, false, false, false, false, false, true, false, false, false, false, false, false]) (ev_var rfl)) ev_int r2_neI)) (fun _ => et_not (et_B (ev_isE rfl (fun _ r => r) T.v_NoSpeed)))) rfl) (fun h => by cases h) (fun _ => ?_)
    refine rt_seq (nt_asg (ev_lst (ea_cons ev_str (ea_cons ev_str (ea_cons ev_str (ea_cons ev_str (ea_cons ev_str (ea_cons ev_str (ea_cons ev_str (ea_cons ev_str (ea_cons ev_str (ea_cons ev_str (ea_cons ev_str (ea_cons ev_str ea_nil)))))))))))))) ?_
    refine rt_ret (ev_op (ev_op (ev_var rfl) (ev_lst (ea_cons ev_str (ea_cons ev_str (ea_cons ev_str (ea_cons ev_str (ea_cons ev_str (ea_cons ev_str ea_nil))))))) (r2_cat (by exact Nat.le_of_ble_eq_true rfl))) (ev_index (bs := [false, false, false, false, false, false, false, false, false, false, false, true, false, false, false, false, false, false]) (j := 11) (ev_var rfl) rfl ?_) (r2_ixL rfl))
    intro m hm
    match m, hm with
    | 0, _ => rfl
    | 1, _ => rfl
    | 2, _ => rfl
    | 3, _ => rfl
    | 4, _ => rfl
    | 5, _ => rfl
    | 6, _ => rfl
    | 7, _ => rfl
    | 8, _ => rfl
    | 9, _ => rfl
    | 10, _ => rfl
    | m + 11, h => exact absurd h (by omega)
  · refine fnE_of F sc__law_kind_of (fun cdv A outer s H a oe hr hz hf => (pss_cons (ps_set (i := 1) sc__law_kind_of.nd rfl (Or.inl rfl) (pe_lst (pa_cons (pe_callB (isE (K := K) rfl List.mem_cons_self T.e_NotPlain hz hf) (by rfl) T.m_isinstance (by decide +kernel) (pa_cons (pv 0) (pa_cons (pe_glob (v := .ref (ca 17)) (by rfl) T.c_NoDeed rfl) pa_nil))) (pa_cons (pe_callB (isE (K := K) rfl List.mem_cons_self T.e_NotPlain hz hf) (by rfl) T.m_isinstance (by decide +kernel) (pa_cons (pv 0) (pa_cons (pe_glob (v := .ref (ca 15)) (by rfl) T.c_NoFlash rfl) pa_nil))) (pa_cons (pe_callB (isE (K := K) rfl List.mem_cons_self T.e_NotPlain hz hf) (by rfl) T.m_isinstance (by decide +kernel) (pa_cons (pv 0) (pa_cons (pe_glob (v := .ref (ca 1)) (by rfl) T.c_NoFraction rfl) pa_nil))) (pa_cons (pe_callB (isE (K := K) rfl List.mem_cons_self T.e_NotPlain hz hf) (by rfl) T.m_isinstance (by decide +kernel) (pa_cons (pv 0) (pa_cons (pe_glob (v := .ref (ca 2)) (by rfl) T.c_NoHap rfl) pa_nil))) pa_nil)))))) (pss_cons (ps_set (i := 1) sc__law_kind_of.nd rfl (Or.inl rfl) (pe_op (catK (K := K) rfl) (pv 1) (pe_lst (pa_cons (pe_callB (isE (K := K) rfl List.mem_cons_self T.e_NotPlain hz hf) (by rfl) T.m_isinstance (by decide +kernel) (pa_cons (pv 0) (pa_cons (pe_glob (v := .ref (ca 8)) (by rfl) T.c_NoHaps rfl) pa_nil))) (pa_cons (pe_callB (isE (K := K) rfl List.mem_cons_self T.e_NotPlain hz hf) (by rfl) T.m_isinstance (by decide +kernel) (pa_cons (pv 0) (pa_cons (pe_glob (v := .ref (ca 16)) (by rfl) T.c_NoName rfl) pa_nil))) (pa_cons (pe_callB (isE (K := K) rfl List.mem_cons_self T.e_NotPlain hz hf) (by rfl) T.m_isinstance (by decide +kernel) (pa_cons (pv 0) (pa_cons (pe_glob (v := .ref (ca 11)) (by rfl) T.c_NoNumber rfl) pa_nil))) pa_nil)))))) (pss_cons (ps_set (i := 1) sc__law_kind_of.nd rfl (Or.inl rfl) (pe_op (catK (K := K) rfl) (pv 1) (pe_lst (pa_cons (pe_callB (isE (K := K) rfl List.mem_cons_self T.e_NotPlain hz hf) (by rfl) T.m_isinstance (by decide +kernel) (pa_cons (pv 0) (pa_cons (pe_glob (v := .ref (ca 9)) (by rfl) T.c_NoOrder rfl) pa_nil))) (pa_cons (pe_callB (isE (K := K) rfl List.mem_cons_self T.e_NotPlain hz hf) (by rfl) T.m_isinstance (by decide +kernel) (pa_cons (pv 0) (pa_cons (pe_glob (v := .ref (ca 13)) (by rfl) T.c_NoRod rfl) pa_nil))) (pa_cons (pe_callB (isE (K := K) rfl List.mem_cons_self T.e_NotPlain hz hf) (by rfl) T.m_isinstance (by decide +kernel) (pa_cons (pv 0) (pa_cons (pe_glob (v := .ref (ca 18)) (by rfl) T.c_NoRow rfl) pa_nil))) (pa_cons (pe_callB (isE (K := K) rfl List.mem_cons_self T.e_NotPlain hz hf) (by rfl) T.m_isinstance (by decide +kernel) (pa_cons (pv 0) (pa_cons (pe_glob (v := .ref (ca 12)) (by rfl) T.c_NoSeat rfl) pa_nil))) pa_nil))))))) (pss_cons (ps_set (i := 1) sc__law_kind_of.nd rfl (Or.inl rfl) (pe_op (catK (K := K) rfl) (pv 1) (pe_lst (pa_cons (pe_callB (isE (K := K) rfl List.mem_cons_self T.e_NotPlain hz hf) (by rfl) T.m_isinstance (by decide +kernel) (pa_cons (pv 0) (pa_cons (pe_glob (v := .ref (ca 4)) (by rfl) T.c_NoSpeed rfl) pa_nil))) (pa_cons (pe_callB (isE (K := K) rfl List.mem_cons_self T.e_NotPlain hz hf) (by rfl) T.m_isinstance (by decide +kernel) (pa_cons (pv 0) (pa_cons (pe_glob (v := .ref (ca 10)) (by rfl) T.c_NoStep rfl) pa_nil))) (pa_cons (pe_callB (isE (K := K) rfl List.mem_cons_self T.e_NotPlain hz hf) (by rfl) T.m_isinstance (by decide +kernel) (pa_cons (pv 0) (pa_cons (pe_glob (v := .ref (ca 7)) (by rfl) T.c_NoStretch rfl) pa_nil))) pa_nil)))))) (pss_cons (ps_set (i := 1) sc__law_kind_of.nd rfl (Or.inl rfl) (pe_op (catK (K := K) rfl) (pv 1) (pe_lst (pa_cons (pe_callB (isE (K := K) rfl List.mem_cons_self T.e_NotPlain hz hf) (by rfl) T.m_isinstance (by decide +kernel) (pa_cons (pv 0) (pa_cons (pe_glob (v := .ref (ca 3)) (by rfl) T.c_NoText rfl) pa_nil))) (pa_cons (pe_callB (isE (K := K) rfl List.mem_cons_self T.e_NotPlain hz hf) (by rfl) T.m_isinstance (by decide +kernel) (pa_cons (pv 0) (pa_cons (pe_glob (v := .ref (ca 6)) (by rfl) T.c_NotPlain rfl) pa_nil))) (pa_cons (pe_callB (isE (K := K) rfl List.mem_cons_self T.e_NotPlain hz hf) (by rfl) T.m_isinstance (by decide +kernel) (pa_cons (pv 0) (pa_cons (pe_glob (v := .ref (ca 14)) (by rfl) T.c_NoWay rfl) pa_nil))) (pa_cons (pe_callB (isE (K := K) rfl List.mem_cons_self T.e_NotPlain hz hf) (by rfl) T.m_isinstance (by decide +kernel) (pa_cons (pv 0) (pa_cons (pe_glob (v := .ref (ca 5)) (by rfl) T.c_TooMany rfl) pa_nil))) pa_nil))))))) (pss_cons (ps_if (PW.pt (pw_or (pt_cmpR (neK (K := K) rfl (unH hr)) (bmK (K := K) rfl (pe_bm PySem.F.plainAttrs_list PySem.F.slot_list_count PySem.F.type_list_count (cntK (K := K) rfl (unH hr)) (pv 1) (pa_cons pe_bl pa_nil))) pe_int (nomark _)) (pw_or1 (pt_not (pt_val (pe_callB (isE (K := K) rfl List.mem_cons_self T.e_NotPlain hz hf) (by rfl) T.m_isinstance (by decide +kernel) (pa_cons (pv 0) (pa_cons (pe_bltn (v := .ty "ValueError") (by rfl) T.m_ValueError (by decide +kernel) rfl) pa_nil)))))))) (pss_one (ps_ret pe_str)) pss_nil) (pss_cons (ps_set (i := 2) sc__law_kind_of.nd rfl (Or.inl rfl) (pe_lst (pa_cons pe_str (pa_cons pe_str (pa_cons pe_str (pa_cons pe_str (pa_cons pe_str (pa_cons pe_str (pa_cons pe_str (pa_cons pe_str (pa_cons pe_str (pa_cons pe_str (pa_cons pe_str (pa_cons pe_str pa_nil)))))))))))))) (pss_one (ps_ret (pe_ix (ixK (K := K) rfl) (pe_op (catK (K := K) rfl) (pv 2) (pe_lst (pa_cons pe_str (pa_cons pe_str (pa_cons pe_str (pa_cons pe_str (pa_cons pe_str (pa_cons pe_str pa_nil)))))))) (bmK (K := K) rfl (pe_bm PySem.F.plainAttrs_list PySem.F.slot_list_index PySem.F.type_list_index (idxK (K := K) rfl) (pv 1) (pa_cons pe_bl pa_nil))) (fun _ _ => rfl)))))))))))) fun a => ?_
    refine (rt_seq (nt_asg (ev_lst (ea_cons (ev_isE rfl (fun _ r => r) T.k_NotPlain_NoDeed) (ea_cons (ev_isE rfl (fun _ r => r) T.k_NotPlain_NoFlash) (ea_cons (ev_isE rfl (fun _ r => r) T.k_NotPlain_NoFraction) (ea_cons (ev_isE rfl (fun _ r => r) T.k_NotPlain_NoHap) ea_nil)))))) (rt_seq (nt_asg (ev_op (ev_var rfl) (ev_lst (ea_cons (ev_isE rfl (fun _ r => r) T.k_NotPlain_NoHaps) (ea_cons (ev_isE rfl (fun _ r => r) T.k_NotPlain_NoName) (ea_cons (ev_isE rfl (fun _ r => r) T.k_NotPlain_NoNumber) ea_nil)))) (r2_cat (by exact Nat.le_of_ble_eq_true rfl)))) (rt_seq (nt_asg (ev_op (ev_var rfl) (ev_lst (ea_cons (ev_isE rfl (fun _ r => r) T.k_NotPlain_NoOrder) (ea_cons (ev_isE rfl (fun _ r => r) T.k_NotPlain_NoRod) (ea_cons (ev_isE rfl (fun _ r => r) T.k_NotPlain_NoRow) (ea_cons (ev_isE rfl (fun _ r => r) T.k_NotPlain_NoSeat) ea_nil))))) (r2_cat (by exact Nat.le_of_ble_eq_true rfl)))) (rt_seq (nt_asg (ev_op (ev_var rfl) (ev_lst (ea_cons (ev_isE rfl (fun _ r => r) T.k_NotPlain_NoSpeed) (ea_cons (ev_isE rfl (fun _ r => r) T.k_NotPlain_NoStep) (ea_cons (ev_isE rfl (fun _ r => r) T.k_NotPlain_NoStretch) ea_nil)))) (r2_cat (by exact Nat.le_of_ble_eq_true rfl)))) (rt_seq (nt_asg (ev_op (ev_var rfl) (ev_lst (ea_cons (ev_isE rfl (fun _ r => r) T.k_NotPlain_NoText) (ea_cons (ev_isE rfl (fun _ r => r) T.k_NotPlain_NotPlain) (ea_cons (ev_isE rfl (fun _ r => r) T.k_NotPlain_NoWay) (ea_cons (ev_isE rfl (fun _ r => r) T.k_NotPlain_TooMany) ea_nil))))) (r2_cat (by exact Nat.le_of_ble_eq_true rfl)))) ?_)))))
    refine rt_cond (b := false) (et_is (et_or (et_test (ev_op (ev_count (bs := [false, false, false, false, false, false, false, false, false, false, false, false, false, false, false, true, false, false]) (ev_var rfl)) ev_int r2_neI)) (fun _ => et_not (et_B (ev_isE rfl (fun _ r => r) T.v_NotPlain)))) rfl) (fun h => by cases h) (fun _ => ?_)
    refine rt_seq (nt_asg (ev_lst (ea_cons ev_str (ea_cons ev_str (ea_cons ev_str (ea_cons ev_str (ea_cons ev_str (ea_cons ev_str (ea_cons ev_str (ea_cons ev_str (ea_cons ev_str (ea_cons ev_str (ea_cons ev_str (ea_cons ev_str ea_nil)))))))))))))) ?_
    refine rt_ret (ev_op (ev_op (ev_var rfl) (ev_lst (ea_cons ev_str (ea_cons ev_str (ea_cons ev_str (ea_cons ev_str (ea_cons ev_str (ea_cons ev_str ea_nil))))))) (r2_cat (by exact Nat.le_of_ble_eq_true rfl))) (ev_index (bs := [false, false, false, false, false, false, false, false, false, false, false, false, false, false, false, true, false, false]) (j := 15) (ev_var rfl) rfl ?_) (r2_ixL rfl))
    intro m hm
    match m, hm with
    | 0, _ => rfl
    | 1, _ => rfl
    | 2, _ => rfl
    | 3, _ => rfl
    | 4, _ => rfl
    | 5, _ => rfl
    | 6, _ => rfl
    | 7, _ => rfl
    | 8, _ => rfl
    | 9, _ => rfl
    | 10, _ => rfl
    | 11, _ => rfl
    | 12, _ => rfl
    | 13, _ => rfl
    | 14, _ => rfl
    | m + 15, h => exact absurd h (by omega)
  · refine fnE_of F sc__law_kind_of (fun cdv A outer s H a oe hr hz hf => (pss_cons (ps_set (i := 1) sc__law_kind_of.nd rfl (Or.inl rfl) (pe_lst (pa_cons (pe_callB (isE (K := K) rfl List.mem_cons_self T.e_NoDeed hz hf) (by rfl) T.m_isinstance (by decide +kernel) (pa_cons (pv 0) (pa_cons (pe_glob (v := .ref (ca 17)) (by rfl) T.c_NoDeed rfl) pa_nil))) (pa_cons (pe_callB (isE (K := K) rfl List.mem_cons_self T.e_NoDeed hz hf) (by rfl) T.m_isinstance (by decide +kernel) (pa_cons (pv 0) (pa_cons (pe_glob (v := .ref (ca 15)) (by rfl) T.c_NoFlash rfl) pa_nil))) (pa_cons (pe_callB (isE (K := K) rfl List.mem_cons_self T.e_NoDeed hz hf) (by rfl) T.m_isinstance (by decide +kernel) (pa_cons (pv 0) (pa_cons (pe_glob (v := .ref (ca 1)) (by rfl) T.c_NoFraction rfl) pa_nil))) (pa_cons (pe_callB (isE (K := K) rfl List.mem_cons_self T.e_NoDeed hz hf) (by rfl) T.m_isinstance (by decide +kernel) (pa_cons (pv 0) (pa_cons (pe_glob (v := .ref (ca 2)) (by rfl) T.c_NoHap rfl) pa_nil))) pa_nil)))))) (pss_cons (ps_set (i := 1) sc__law_kind_of.nd rfl (Or.inl rfl) (pe_op (catK (K := K) rfl) (pv 1) (pe_lst (pa_cons (pe_callB (isE (K := K) rfl List.mem_cons_self T.e_NoDeed hz hf) (by rfl) T.m_isinstance (by decide +kernel) (pa_cons (pv 0) (pa_cons (pe_glob (v := .ref (ca 8)) (by rfl) T.c_NoHaps rfl) pa_nil))) (pa_cons (pe_callB (isE (K := K) rfl List.mem_cons_self T.e_NoDeed hz hf) (by rfl) T.m_isinstance (by decide +kernel) (pa_cons (pv 0) (pa_cons (pe_glob (v := .ref (ca 16)) (by rfl) T.c_NoName rfl) pa_nil))) (pa_cons (pe_callB (isE (K := K) rfl List.mem_cons_self T.e_NoDeed hz hf) (by rfl) T.m_isinstance (by decide +kernel) (pa_cons (pv 0) (pa_cons (pe_glob (v := .ref (ca 11)) (by rfl) T.c_NoNumber rfl) pa_nil))) pa_nil)))))) (pss_cons (ps_set (i := 1) sc__law_kind_of.nd rfl (Or.inl rfl) (pe_op (catK (K := K) rfl) (pv 1) (pe_lst (pa_cons (pe_callB (isE (K := K) rfl List.mem_cons_self T.e_NoDeed hz hf) (by rfl) T.m_isinstance (by decide +kernel) (pa_cons (pv 0) (pa_cons (pe_glob (v := .ref (ca 9)) (by rfl) T.c_NoOrder rfl) pa_nil))) (pa_cons (pe_callB (isE (K := K) rfl List.mem_cons_self T.e_NoDeed hz hf) (by rfl) T.m_isinstance (by decide +kernel) (pa_cons (pv 0) (pa_cons (pe_glob (v := .ref (ca 13)) (by rfl) T.c_NoRod rfl) pa_nil))) (pa_cons (pe_callB (isE (K := K) rfl List.mem_cons_self T.e_NoDeed hz hf) (by rfl) T.m_isinstance (by decide +kernel) (pa_cons (pv 0) (pa_cons (pe_glob (v := .ref (ca 18)) (by rfl) T.c_NoRow rfl) pa_nil))) (pa_cons (pe_callB (isE (K := K) rfl List.mem_cons_self T.e_NoDeed hz hf) (by rfl) T.m_isinstance (by decide +kernel) (pa_cons (pv 0) (pa_cons (pe_glob (v := .ref (ca 12)) (by rfl) T.c_NoSeat rfl) pa_nil))) pa_nil))))))) (pss_cons (ps_set (i := 1) sc__law_kind_of.nd rfl (Or.inl rfl) (pe_op (catK (K := K) rfl) (pv 1) (pe_lst (pa_cons (pe_callB (isE (K := K) rfl List.mem_cons_self T.e_NoDeed hz hf) (by rfl) T.m_isinstance (by decide +kernel) (pa_cons (pv 0) (pa_cons (pe_glob (v := .ref (ca 4)) (by rfl) T.c_NoSpeed rfl) pa_nil))) (pa_cons (pe_callB (isE (K := K) rfl List.mem_cons_self T.e_NoDeed hz hf) (by rfl) T.m_isinstance (by decide +kernel) (pa_cons (pv 0) (pa_cons (pe_glob (v := .ref (ca 10)) (by rfl) T.c_NoStep rfl) pa_nil))) (pa_cons (pe_callB (isE (K := K) rfl List.mem_cons_self T.e_NoDeed hz hf) (by rfl) T.m_isinstance (by decide +kernel) (pa_cons (pv 0) (pa_cons (pe_glob (v := .ref (ca 7)) (by rfl) T.c_NoStretch rfl) pa_nil))) pa_nil)))))) (pss_cons (ps_set (i := 1) sc__law_kind_of.nd rfl (Or.inl rfl) (pe_op (catK (K := K) rfl) (pv 1) (pe_lst (pa_cons (pe_callB (isE (K := K) rfl List.mem_cons_self T.e_NoDeed hz hf) (by rfl) T.m_isinstance (by decide +kernel) (pa_cons (pv 0) (pa_cons (pe_glob (v := .ref (ca 3)) (by rfl) T.c_NoText rfl) pa_nil))) (pa_cons (pe_callB (isE (K := K) rfl List.mem_cons_self T.e_NoDeed hz hf) (by rfl) T.m_isinstance (by decide +kernel) (pa_cons (pv 0) (pa_cons (pe_glob (v := .ref (ca 6)) (by rfl) T.c_NotPlain rfl) pa_nil))) (pa_cons (pe_callB (isE (K := K) rfl List.mem_cons_self T.e_NoDeed hz hf) (by rfl) T.m_isinstance (by decide +kernel) (pa_cons (pv 0) (pa_cons (pe_glob (v := .ref (ca 14)) (by rfl) T.c_NoWay rfl) pa_nil))) (pa_cons (pe_callB (isE (K := K) rfl List.mem_cons_self T.e_NoDeed hz hf) (by rfl) T.m_isinstance (by decide +kernel) (pa_cons (pv 0) (pa_cons (pe_glob (v := .ref (ca 5)) (by rfl) T.c_TooMany rfl) pa_nil))) pa_nil))))))) (pss_cons (ps_if (PW.pt (pw_or (pt_cmpR (neK (K := K) rfl (unH hr)) (bmK (K := K) rfl (pe_bm PySem.F.plainAttrs_list PySem.F.slot_list_count PySem.F.type_list_count (cntK (K := K) rfl (unH hr)) (pv 1) (pa_cons pe_bl pa_nil))) pe_int (nomark _)) (pw_or1 (pt_not (pt_val (pe_callB (isE (K := K) rfl List.mem_cons_self T.e_NoDeed hz hf) (by rfl) T.m_isinstance (by decide +kernel) (pa_cons (pv 0) (pa_cons (pe_bltn (v := .ty "ValueError") (by rfl) T.m_ValueError (by decide +kernel) rfl) pa_nil)))))))) (pss_one (ps_ret pe_str)) pss_nil) (pss_cons (ps_set (i := 2) sc__law_kind_of.nd rfl (Or.inl rfl) (pe_lst (pa_cons pe_str (pa_cons pe_str (pa_cons pe_str (pa_cons pe_str (pa_cons pe_str (pa_cons pe_str (pa_cons pe_str (pa_cons pe_str (pa_cons pe_str (pa_cons pe_str (pa_cons pe_str (pa_cons pe_str pa_nil)))))))))))))) (pss_one (ps_ret (pe_ix (ixK (K := K) rfl) (pe_op (catK (K := K) rfl) (pv 2) (pe_lst (pa_cons pe_str (pa_cons pe_str (pa_cons pe_str (pa_cons pe_str (pa_cons pe_str (pa_cons pe_str pa_nil)))))))) (bmK (K := K) rfl (pe_bm PySem.F.plainAttrs_list PySem.F.slot_list_index PySem.F.type_list_index (idxK (K := K) rfl) (pv 1) (pa_cons pe_bl pa_nil))) (fun _ _ => rfl)))))))))))) fun a => ?_
    refine (rt_seq (nt_asg (ev_lst (ea_cons (ev_isE rfl (fun _ r => r) T.k_NoDeed_NoDeed) (ea_cons (ev_isE rfl (fun _ r => r) T.k_NoDeed_NoFlash) (ea_cons (ev_isE rfl (fun _ r => r) T.k_NoDeed_NoFraction) (ea_cons (ev_isE rfl (fun _ r => r) T.k_NoDeed_NoHap) ea_nil)))))) (rt_seq (nt_asg (ev_op (ev_var rfl) (ev_lst (ea_cons (ev_isE rfl (fun _ r => r) T.k_NoDeed_NoHaps) (ea_cons (ev_isE rfl (fun _ r => r) T.k_NoDeed_NoName) (ea_cons (ev_isE rfl (fun _ r => r) T.k_NoDeed_NoNumber) ea_nil)))) (r2_cat (by exact Nat.le_of_ble_eq_true rfl)))) (rt_seq (nt_asg (ev_op (ev_var rfl) (ev_lst (ea_cons (ev_isE rfl (fun _ r => r) T.k_NoDeed_NoOrder) (ea_cons (ev_isE rfl (fun _ r => r) T.k_NoDeed_NoRod) (ea_cons (ev_isE rfl (fun _ r => r) T.k_NoDeed_NoRow) (ea_cons (ev_isE rfl (fun _ r => r) T.k_NoDeed_NoSeat) ea_nil))))) (r2_cat (by exact Nat.le_of_ble_eq_true rfl)))) (rt_seq (nt_asg (ev_op (ev_var rfl) (ev_lst (ea_cons (ev_isE rfl (fun _ r => r) T.k_NoDeed_NoSpeed) (ea_cons (ev_isE rfl (fun _ r => r) T.k_NoDeed_NoStep) (ea_cons (ev_isE rfl (fun _ r => r) T.k_NoDeed_NoStretch) ea_nil)))) (r2_cat (by exact Nat.le_of_ble_eq_true rfl)))) (rt_seq (nt_asg (ev_op (ev_var rfl) (ev_lst (ea_cons (ev_isE rfl (fun _ r => r) T.k_NoDeed_NoText) (ea_cons (ev_isE rfl (fun _ r => r) T.k_NoDeed_NotPlain) (ea_cons (ev_isE rfl (fun _ r => r) T.k_NoDeed_NoWay) (ea_cons (ev_isE rfl (fun _ r => r) T.k_NoDeed_TooMany) ea_nil))))) (r2_cat (by exact Nat.le_of_ble_eq_true rfl)))) ?_)))))
    refine rt_cond (b := false) (et_is (et_or (et_test (ev_op (ev_count (bs := [true, false, false, false, false, false, false, false, false, false, false, false, false, false, false, false, false, false]) (ev_var rfl)) ev_int r2_neI)) (fun _ => et_not (et_B (ev_isE rfl (fun _ r => r) T.v_NoDeed)))) rfl) (fun h => by cases h) (fun _ => ?_)
    refine rt_seq (nt_asg (ev_lst (ea_cons ev_str (ea_cons ev_str (ea_cons ev_str (ea_cons ev_str (ea_cons ev_str (ea_cons ev_str (ea_cons ev_str (ea_cons ev_str (ea_cons ev_str (ea_cons ev_str (ea_cons ev_str (ea_cons ev_str ea_nil)))))))))))))) ?_
    refine rt_ret (ev_op (ev_op (ev_var rfl) (ev_lst (ea_cons ev_str (ea_cons ev_str (ea_cons ev_str (ea_cons ev_str (ea_cons ev_str (ea_cons ev_str ea_nil))))))) (r2_cat (by exact Nat.le_of_ble_eq_true rfl))) (ev_index (bs := [true, false, false, false, false, false, false, false, false, false, false, false, false, false, false, false, false, false]) (j := 0) (ev_var rfl) rfl ?_) (r2_ixL rfl))
    intro m hm
    match m, hm with
    | m + 0, h => exact absurd h (by omega)
  · refine fnE_of F sc__law_kind_of (fun cdv A outer s H a oe hr hz hf => (pss_cons (ps_set (i := 1) sc__law_kind_of.nd rfl (Or.inl rfl) (pe_lst (pa_cons (pe_callB (isE (K := K) rfl List.mem_cons_self T.e_TooMany hz hf) (by rfl) T.m_isinstance (by decide +kernel) (pa_cons (pv 0) (pa_cons (pe_glob (v := .ref (ca 17)) (by rfl) T.c_NoDeed rfl) pa_nil))) (pa_cons (pe_callB (isE (K := K) rfl List.mem_cons_self T.e_TooMany hz hf) (by rfl) T.m_isinstance (by decide +kernel) (pa_cons (pv 0) (pa_cons (pe_glob (v := .ref (ca 15)) (by rfl) T.c_NoFlash rfl) pa_nil))) (pa_cons (pe_callB (isE (K := K) rfl List.mem_cons_self T.e_TooMany hz hf) (by rfl) T.m_isinstance (by decide +kernel) (pa_cons (pv 0) (pa_cons (pe_glob (v := .ref (ca 1)) (by rfl) T.c_NoFraction rfl) pa_nil))) (pa_cons (pe_callB (isE (K := K) rfl List.mem_cons_self T.e_TooMany hz hf) (by rfl) T.m_isinstance (by decide +kernel) (pa_cons (pv 0) (pa_cons (pe_glob (v := .ref (ca 2)) (by rfl) T.c_NoHap rfl) pa_nil))) pa_nil)))))) (pss_cons (ps_set (i := 1) sc__law_kind_of.nd rfl (Or.inl rfl) (pe_op (catK (K := K) rfl) (pv 1) (pe_lst (pa_cons (pe_callB (isE (K := K) rfl List.mem_cons_self T.e_TooMany hz hf) (by rfl) T.m_isinstance (by decide +kernel) (pa_cons (pv 0) (pa_cons (pe_glob (v := .ref (ca 8)) (by rfl) T.c_NoHaps rfl) pa_nil))) (pa_cons (pe_callB (isE (K := K) rfl List.mem_cons_self T.e_TooMany hz hf) (by rfl) T.m_isinstance (by decide +kernel) (pa_cons (pv 0) (pa_cons (pe_glob (v := .ref (ca 16)) (by rfl) T.c_NoName rfl) pa_nil))) (pa_cons (pe_callB (isE (K := K) rfl List.mem_cons_self T.e_TooMany hz hf) (by rfl) T.m_isinstance (by decide +kernel) (pa_cons (pv 0) (pa_cons (pe_glob (v := .ref (ca 11)) (by rfl) T.c_NoNumber rfl) pa_nil))) pa_nil)))))) (pss_cons (ps_set (i := 1) sc__law_kind_of.nd rfl (Or.inl rfl) (pe_op (catK (K := K) rfl) (pv 1) (pe_lst (pa_cons (pe_callB (isE (K := K) rfl List.mem_cons_self T.e_TooMany hz hf) (by rfl) T.m_isinstance (by decide +kernel) (pa_cons (pv 0) (pa_cons (pe_glob (v := .ref (ca 9)) (by rfl) T.c_NoOrder rfl) pa_nil))) (pa_cons (pe_callB (isE (K := K) rfl List.mem_cons_self T.e_TooMany hz hf) (by rfl) T.m_isinstance (by decide +kernel) (pa_cons (pv 0) (pa_cons (pe_glob (v := .ref (ca 13)) (by rfl) T.c_NoRod rfl) pa_nil))) (pa_cons (pe_callB (isE (K := K) rfl List.mem_cons_self T.e_TooMany hz hf) (by rfl) T.m_isinstance (by decide +kernel) (pa_cons (pv 0) (pa_cons (pe_glob (v := .ref (ca 18)) (by rfl) T.c_NoRow rfl) pa_nil))) (pa_cons (pe_callB (isE (K := K) rfl List.mem_cons_self T.e_TooMany hz hf) (by rfl) T.m_isinstance (by decide +kernel) (pa_cons (pv 0) (pa_cons (pe_glob (v := .ref (ca 12)) (by rfl) T.c_NoSeat rfl) pa_nil))) pa_nil))))))) (pss_cons (ps_set (i := 1) sc__law_kind_of.nd rfl (Or.inl rfl) (pe_op (catK (K := K) rfl) (pv 1) (pe_lst (pa_cons (pe_callB (isE (K := K) rfl List.mem_cons_self T.e_TooMany hz hf) (by rfl) T.m_isinstance (by decide +kernel) (pa_cons (pv 0) (pa_cons (pe_glob (v := .ref (ca 4)) (by rfl) T.c_NoSpeed rfl) pa_nil))) (pa_cons (pe_callB (isE (K := K) rfl List.mem_cons_self T.e_TooMany hz hf) (by rfl) T.m_isinstance (by decide +kernel) (pa_cons (pv 0) (pa_cons (pe_glob (v := .ref (ca 10)) (by rfl) T.c_NoStep rfl) pa_nil))) (pa_cons (pe_callB (isE (K := K) rfl List.mem_cons_self T.e_TooMany hz hf) (by rfl) T.m_isinstance (by decide +kernel) (pa_cons (pv 0) (pa_cons (pe_glob (v := .ref (ca 7)) (by rfl) T.c_NoStretch rfl) pa_nil))) pa_nil)))))) (pss_cons (ps_set (i := 1) sc__law_kind_of.nd rfl (Or.inl rfl) (pe_op (catK (K := K) rfl) (pv 1) (pe_lst (pa_cons (pe_callB (isE (K := K) rfl List.mem_cons_self T.e_TooMany hz hf) (by rfl) T.m_isinstance (by decide +kernel) (pa_cons (pv 0) (pa_cons (pe_glob (v := .ref (ca 3)) (by rfl) T.c_NoText rfl) pa_nil))) (pa_cons (pe_callB (isE (K := K) rfl List.mem_cons_self T.e_TooMany hz hf) (by rfl) T.m_isinstance (by decide +kernel) (pa_cons (pv 0) (pa_cons (pe_glob (v := .ref (ca 6)) (by rfl) T.c_NotPlain rfl) pa_nil))) (pa_cons (pe_callB (isE (K := K) rfl List.mem_cons_self T.e_TooMany hz hf) (by rfl) T.m_isinstance (by decide +kernel) (pa_cons (pv 0) (pa_cons (pe_glob (v := .ref (ca 14)) (by rfl) T.c_NoWay rfl) pa_nil))) (pa_cons (pe_callB (isE (K := K) rfl List.mem_cons_self T.e_TooMany hz hf) (by rfl) T.m_isinstance (by decide +kernel) (pa_cons (pv 0) (pa_cons (pe_glob (v := .ref (ca 5)) (by rfl) T.c_TooMany rfl) pa_nil))) pa_nil))))))) (pss_cons (ps_if (PW.pt (pw_or (pt_cmpR (neK (K := K) rfl (unH hr)) (bmK (K := K) rfl (pe_bm PySem.F.plainAttrs_list PySem.F.slot_list_count PySem.F.type_list_count (cntK (K := K) rfl (unH hr)) (pv 1) (pa_cons pe_bl pa_nil))) pe_int (nomark _)) (pw_or1 (pt_not (pt_val (pe_callB (isE (K := K) rfl List.mem_cons_self T.e_TooMany hz hf) (by rfl) T.m_isinstance (by decide +kernel) (pa_cons (pv 0) (pa_cons (pe_bltn (v := .ty "ValueError") (by rfl) T.m_ValueError (by decide +kernel) rfl) pa_nil)))))))) (pss_one (ps_ret pe_str)) pss_nil) (pss_cons (ps_set (i := 2) sc__law_kind_of.nd rfl (Or.inl rfl) (pe_lst (pa_cons pe_str (pa_cons pe_str (pa_cons pe_str (pa_cons pe_str (pa_cons pe_str (pa_cons pe_str (pa_cons pe_str (pa_cons pe_str (pa_cons pe_str (pa_cons pe_str (pa_cons pe_str (pa_cons pe_str pa_nil)))))))))))))) (pss_one (ps_ret (pe_ix (ixK (K := K) rfl) (pe_op (catK (K := K) rfl) (pv 2) (pe_lst (pa_cons pe_str (pa_cons pe_str (pa_cons pe_str (pa_cons pe_str (pa_cons pe_str (pa_cons pe_str pa_nil)))))))) (bmK (K := K) rfl (pe_bm PySem.F.plainAttrs_list PySem.F.slot_list_index PySem.F.type_list_index (idxK (K := K) rfl) (pv 1) (pa_cons pe_bl pa_nil))) (fun _ _ => rfl)))))))))))) fun a => ?_
    refine (rt_seq (nt_asg (ev_lst (ea_cons (ev_isE rfl (fun _ r => r) T.k_TooMany_NoDeed) (ea_cons (ev_isE rfl (fun _ r => r) T.k_TooMany_NoFlash) (ea_cons (ev_isE rfl (fun _ r => r) T.k_TooMany_NoFraction) (ea_cons (ev_isE rfl (fun _ r => r) T.k_TooMany_NoHap) ea_nil)))))) (rt_seq (nt_asg (ev_op (ev_var rfl) (ev_lst (ea_cons (ev_isE rfl (fun _ r => r) T.k_TooMany_NoHaps) (ea_cons (ev_isE rfl (fun _ r => r) T.k_TooMany_NoName) (ea_cons (ev_isE rfl (fun _ r => r) T.k_TooMany_NoNumber) ea_nil)))) (r2_cat (by exact Nat.le_of_ble_eq_true rfl)))) (rt_seq (nt_asg (ev_op (ev_var rfl) (ev_lst (ea_cons (ev_isE rfl (fun _ r => r) T.k_TooMany_NoOrder) (ea_cons (ev_isE rfl (fun _ r => r) T.k_TooMany_NoRod) (ea_cons (ev_isE rfl (fun _ r => r) T.k_TooMany_NoRow) (ea_cons (ev_isE rfl (fun _ r => r) T.k_TooMany_NoSeat) ea_nil))))) (r2_cat (by exact Nat.le_of_ble_eq_true rfl)))) (rt_seq (nt_asg (ev_op (ev_var rfl) (ev_lst (ea_cons (ev_isE rfl (fun _ r => r) T.k_TooMany_NoSpeed) (ea_cons (ev_isE rfl (fun _ r => r) T.k_TooMany_NoStep) (ea_cons (ev_isE rfl (fun _ r => r) T.k_TooMany_NoStretch) ea_nil)))) (r2_cat (by exact Nat.le_of_ble_eq_true rfl)))) (rt_seq (nt_asg (ev_op (ev_var rfl) (ev_lst (ea_cons (ev_isE rfl (fun _ r => r) T.k_TooMany_NoText) (ea_cons (ev_isE rfl (fun _ r => r) T.k_TooMany_NotPlain) (ea_cons (ev_isE rfl (fun _ r => r) T.k_TooMany_NoWay) (ea_cons (ev_isE rfl (fun _ r => r) T.k_TooMany_TooMany) ea_nil))))) (r2_cat (by exact Nat.le_of_ble_eq_true rfl)))) ?_)))))
    refine rt_cond (b := false) (et_is (et_or (et_test (ev_op (ev_count (bs := [false, false, false, false, false, false, false, false, false, false, false, false, false, false, false, false, false, true]) (ev_var rfl)) ev_int r2_neI)) (fun _ => et_not (et_B (ev_isE rfl (fun _ r => r) T.v_TooMany)))) rfl) (fun h => by cases h) (fun _ => ?_)
    refine rt_seq (nt_asg (ev_lst (ea_cons ev_str (ea_cons ev_str (ea_cons ev_str (ea_cons ev_str (ea_cons ev_str (ea_cons ev_str (ea_cons ev_str (ea_cons ev_str (ea_cons ev_str (ea_cons ev_str (ea_cons ev_str (ea_cons ev_str ea_nil)))))))))))))) ?_
    refine rt_ret (ev_op (ev_op (ev_var rfl) (ev_lst (ea_cons ev_str (ea_cons ev_str (ea_cons ev_str (ea_cons ev_str (ea_cons ev_str (ea_cons ev_str ea_nil))))))) (r2_cat (by exact Nat.le_of_ble_eq_true rfl))) (ev_index (bs := [false, false, false, false, false, false, false, false, false, false, false, false, false, false, false, false, false, true]) (j := 17) (ev_var rfl) rfl ?_) (r2_ixL rfl))
    intro m hm
    match m, hm with
    | 0, _ => rfl
    | 1, _ => rfl
    | 2, _ => rfl
    | 3, _ => rfl
    | 4, _ => rfl
    | 5, _ => rfl
    | 6, _ => rfl
    | 7, _ => rfl
    | 8, _ => rfl
    | 9, _ => rfl
    | 10, _ => rfl
    | 11, _ => rfl
    | 12, _ => rfl
    | 13, _ => rfl
    | 14, _ => rfl
    | 15, _ => rfl
    | 16, _ => rfl
    | m + 17, h => exact absurd h (by omega)
def R_dn (b : Bst) (ds : List Dt) (d : Dt) (b' : Bst) : Prop := ∃ de : Deed, ds = [.str de.w, .lst de.t] ∧ DeedOk de ∧ SpB b ∧ b.haps.length ≤ 12 ∧ DoneR b de d b'
theorem h__law_done (T : Txt K mg ca fa ka) : Has P w K mg base CX0 8 "_law_done" ["_law_bench", "_law_word_here", "_law_told_here"] (spBnD K (ca 19) R_dn) := by
  refine T.d__law_done.deedB sc__law_done (fun b ds d b' h => by obtain ⟨_, rfl, _⟩ := h; rfl) (fun f cdv A outer s H E hr => (pss_cons (tryT (K := K) rfl (ps_try_as (i := 4) (Wout := fun _ _ _ _ => False) rfl rfl sc__law_done.nd rfl rfl ⟨rfl, by decide, Or.inl T.c_MotionError⟩ takes0 (fun W pn xe tk po => (pss_one (ps_if (pt_cmpR (eqK (K := K) rfl hr.units) (pv 1) pe_str (nomark _)) (pss_one (ps_set (i := 3) sc__law_done.nd rfl (Or.inl rfl) (by exact (pe_mhS (h_Bench_put T) T.cl_Bench hr (by decide) (fun σ => passAt tk σ) (pv 0) (pa_cons (pe_ix (ixK (K := K) rfl) (pv 2) pe_int (fun _ _ => rfl)) (pa_cons (pe_ix (ixK (K := K) rfl) (pv 2) pe_int (fun _ _ => rfl)) pa_nil)))))) (pss_one (ps_if (pt_cmpR (eqK (K := K) rfl hr.units) (pv 1) pe_str (nomark _)) (pss_one (ps_set (i := 3) sc__law_done.nd rfl (Or.inl rfl) (by exact (pe_mhS (h_Bench_drop T) T.cl_Bench hr (by decide) (fun σ => passAt tk σ) (pv 0) (pa_cons (pe_ix (ixK (K := K) rfl) (pv 2) pe_int (fun _ _ => rfl)) pa_nil))))) (pss_one (ps_if (pt_cmpR (eqK (K := K) rfl hr.units) (pv 1) pe_str (nomark _)) (pss_one (ps_set (i := 3) sc__law_done.nd rfl (Or.inl rfl) (by exact (pe_mhS (h_Bench_turn T) T.cl_Bench hr (by decide) (fun σ => passAt tk σ) (pv 0) (pa_cons (pe_ix (ixK (K := K) rfl) (pv 2) pe_int (fun _ _ => rfl)) pa_nil))))) (pss_one (ps_if (pt_cmpR (eqK (K := K) rfl hr.units) (pv 1) pe_str (nomark _)) (pss_one (ps_set (i := 3) sc__law_done.nd rfl (Or.inl rfl) (by exact (pe_mhS (h_Bench_push T) T.cl_Bench hr (by decide) (fun σ => passAt tk σ) (pv 0) (pa_cons (pe_ix (ixK (K := K) rfl) (pv 2) pe_int (fun _ _ => rfl)) pa_nil))))) (pss_one (ps_set (i := 3) sc__law_done.nd rfl (Or.inl rfl) (by exact (pe_mhS0 (h_Bench_undo T) T.cl_Bench hr (by decide) (fun σ => passAt tk σ) (pv 0) ))))))))))))) (fun a oe cls d pn hz hf => (pss_one (ps_ret (pe_kind (i := 4) (h__law_kind_of T) (roomS hr) (by decide) List.mem_cons_self hz hf rfl (Or.inl rfl))))))) (pss_one (ps_ret (pe_ifExp (pt_cmpR op_isN1 (pv 3) pe_non (nomark _)) pe_non pe_str))))) ?_
  rintro y p b ds d b' ⟨de, rfl, ok, ⟨l1, l2, ss, bs⟩, l12, h⟩
  have hw : ∀ {sl : List Sl} {s z : Str} {c : Bool}, sl[1]? = some (.d (.str s)) → SeqAt.shaped (.str s) = true → SeqAt.shaped (.str z) = true → (s == z) = c → EvT K (tTest (tOp (rEqD K) (tVar 1) (tC (.str z)))) sl c := fun h1 h2 h3 h4 => et_is (et_test (ev_op (ev_var h1) ev_str (r2_eqS h2 h3))) h4
  have x0 : ∀ {sl : List Sl} {a : Dt} {l : List Dt}, sl[2]? = some (.d (.lst (a :: l))) → Ev K (tOp (rIx K) (tVar 2) (tC (.int 0))) sl a := fun {sl a l} h => ev_op (ev_var h) ev_int (r2_ixL ((atI_k (k := 0) (a :: l) (Nat.succ_pos _)).trans rfl))
  have x1 : ∀ {sl : List Sl} {a c : Dt} {l : List Dt}, sl[2]? = some (.d (.lst (a :: c :: l))) → Ev K (tOp (rIx K) (tVar 2) (tC (.int 1))) sl c := fun {sl a c l} h => ev_op (ev_var h) ev_int (r2_ixL ((atI_k (k := 1) (a :: c :: l) (Nat.succ_lt_succ (Nat.succ_pos _))).trans rfl))
  have fin : ∀ {b2 : Bst} (s : List Sl), s = (List.set [Sl.raw (.ref y), .d (.str de.w), .d (.lst de.t), .no, .no] 3 (.d .non)) → Br K [y, p] (fun G H => BnAt K (ca 19) y p G H b2) (fun G H => BnAt K (ca 19) y p G H b2) (tRet (tIf (tTest (tOp rIsN (tVar 3) (tC .non))) (tC .non) (tC (.str "told")))) s .non := fun {b2} s e => by
    subst e
    exact br_ret stb_bn (eb_if stb_bn (b := true) (ebt_ev (et_is (et_test (ev_op (ev_var rfl) ev_non r2_isN)) rfl)) (fun _ => eb_ev ev_non) (fun z => by cases z))
  cases de with
  | undo =>
    rcases h with ⟨w, hr2, rfl, rfl⟩ | ⟨hr2, rfl, ha⟩
    · have hr2 : (if b'.past.isEmpty = true then some ("deed" : Str) else none) = some w := hr2
      have e : b'.past = [] := by
        cases hp : b'.past with
        | nil => rfl
        | cons l r => rw [hp] at hr2; cases hr2
      have ew : w = "deed" := by rw [e] at hr2; cases hr2; rfl
      subst ew
      exact br_try_out (N := fun _ => True) stb_bn (tw_if stb_bn (b := false) (ebt_ev (hw (s := "undo") rfl (by decide +kernel) (by decide +kernel) (by decide +kernel))) (fun z => by cases z) (fun _ => tw_if stb_bn (b := false) (ebt_ev (hw (s := "undo") rfl (by decide +kernel) (by decide +kernel) (by decide +kernel))) (fun z => by cases z) (fun _ => tw_if stb_bn (b := false) (ebt_ev (hw (s := "undo") rfl (by decide +kernel) (by decide +kernel) (by decide +kernel))) (fun z => by cases z) (fun _ => tw_if stb_bn (b := false) (ebt_ev (hw (s := "undo") rfl (by decide +kernel) (by decide +kernel) (by decide +kernel))) (fun z => by cases z) (fun _ => tw_deedX rfl (by decide +kernel) (by decide +kernel) (by decide +kernel) ea_nil (by exact ⟨rfl, e, rfl⟩)))))) (by show 4 < 5; decide) ⟨_, "deed", rfl, T.r_NoDeed, .inr (.inr (.inr (.inr (.inl ⟨rfl, rfl⟩)))), rfl⟩
    · obtain ⟨h0, s0, pt, hp, rfl⟩ := ha
      exact br_try_go (tw_if stb_bn (b := false) (ebt_ev (hw (s := "undo") rfl (by decide +kernel) (by decide +kernel) (by decide +kernel))) (fun z => by cases z) (fun _ => tw_if stb_bn (b := false) (ebt_ev (hw (s := "undo") rfl (by decide +kernel) (by decide +kernel) (by decide +kernel))) (fun z => by cases z) (fun _ => tw_if stb_bn (b := false) (ebt_ev (hw (s := "undo") rfl (by decide +kernel) (by decide +kernel) (by decide +kernel))) (fun z => by cases z) (fun _ => tw_if stb_bn (b := false) (ebt_ev (hw (s := "undo") rfl (by decide +kernel) (by decide +kernel) (by decide +kernel))) (fun z => by cases z) (fun _ => tw_deed rfl (by decide +kernel) (by decide +kernel) (by decide +kernel) ea_nil (by exact ⟨rfl, h0, s0, pt, hp, rfl⟩)))))) fin
  | put x z =>
    obtain ⟨⟨o1, _⟩, o2, o3⟩ := ok
    rcases h with ⟨w, hr2, rfl, rfl⟩ | ⟨hr2, rfl, ha⟩
    · rcases ref_put hr2 with ⟨h1, rfl⟩ | ⟨h1, h2, rfl⟩ | ⟨n, rfl, h1, h2, h3, h4, rfl⟩
      · exact br_try_out (N := fun _ => True) stb_bn (tw_if stb_bn (b := true) (ebt_ev (hw (s := "put") rfl (by decide +kernel) (by decide +kernel) (by decide +kernel))) (fun _ => tw_deedX rfl (by decide +kernel) (by decide +kernel) (by decide +kernel) (ea_cons (x0 rfl) (ea_cons (x1 rfl) ea_nil)) (by exact ⟨x, z, rfl, o1, .inl ⟨h1, rfl⟩⟩)) (fun z => by cases z)) (by show 4 < 5; decide) ⟨_, "name", rfl, T.r_NoName, .inl ⟨rfl, rfl⟩, rfl⟩
      · exact br_try_out (N := fun _ => True) stb_bn (tw_if stb_bn (b := true) (ebt_ev (hw (s := "put") rfl (by decide +kernel) (by decide +kernel) (by decide +kernel))) (fun _ => tw_deedX rfl (by decide +kernel) (by decide +kernel) (by decide +kernel) (ea_cons (x0 rfl) (ea_cons (x1 rfl) ea_nil)) (by exact ⟨x, z, rfl, o1, .inr (.inl ⟨h1, h2, rfl⟩)⟩)) (fun z => by cases z)) (by show 4 < 5; decide) ⟨_, "hap", rfl, T.r_NoHap, .inr (.inl ⟨rfl, rfl⟩), rfl⟩
      · exact br_try_out (N := fun _ => True) stb_bn (tw_if stb_bn (b := true) (ebt_ev (hw (s := "put") rfl (by decide +kernel) (by decide +kernel) (by decide +kernel))) (fun _ => tw_deedX rfl (by decide +kernel) (by decide +kernel) (by decide +kernel) (ea_cons (x0 rfl) (ea_cons (x1 rfl) ea_nil)) (by exact ⟨_, z, rfl, o1, .inr (.inr ⟨n, rfl, h1, h2, h3, by omega, rfl⟩)⟩)) (fun z => by cases z)) (by show 4 < 5; decide) ⟨_, "many", rfl, T.r_TooMany, .inr (.inr (.inr (.inr (.inr (⟨rfl, rfl⟩))))), rfl⟩
    · obtain ⟨n, q, rfl, rfl, rfl⟩ := ha
      obtain ⟨h1, h2⟩ := ref_put0 hr2
      exact br_try_go (tw_if stb_bn (b := true) (ebt_ev (hw (s := "put") rfl (by decide +kernel) (by decide +kernel) (by decide +kernel))) (fun _ => tw_deed rfl (by decide +kernel) (by decide +kernel) (by decide +kernel) (ea_cons (x0 rfl) (ea_cons (x1 rfl) ea_nil)) (by exact ⟨n, q, rfl, o1 _ rfl, h1, h2.imp id (by omega), l1, l2, rfl⟩)) (fun z => by cases z)) fin
  | drop x =>
    have ok' : TxtB x := ok
    rcases h with ⟨w, hr2, rfl, rfl⟩ | ⟨hr2, rfl, ha⟩
    · obtain ⟨h1, rfl⟩ := ref_drop ok' hr2
      exact br_try_out (N := fun _ => True) stb_bn (tw_if stb_bn (b := false) (ebt_ev (hw (s := "drop") rfl (by decide +kernel) (by decide +kernel) (by decide +kernel))) (fun z => by cases z) (fun _ => tw_if stb_bn (b := true) (ebt_ev (hw (s := "drop") rfl (by decide +kernel) (by decide +kernel) (by decide +kernel))) (fun _ => tw_deedX rfl (by decide +kernel) (by decide +kernel) (by decide +kernel) (ea_cons (x0 rfl) ea_nil) (by exact ⟨x, rfl, h1, rfl⟩)) (fun z => by cases z))) (by show 4 < 5; decide) ⟨_, "name", rfl, T.r_NoName, .inl ⟨rfl, rfl⟩, rfl⟩
    · obtain ⟨n, rfl, hg, rfl⟩ := ha
      exact br_try_go (tw_if stb_bn (b := false) (ebt_ev (hw (s := "drop") rfl (by decide +kernel) (by decide +kernel) (by decide +kernel))) (fun z => by cases z) (fun _ => tw_if stb_bn (b := true) (ebt_ev (hw (s := "drop") rfl (by decide +kernel) (by decide +kernel) (by decide +kernel))) (fun _ => tw_deed rfl (by decide +kernel) (by decide +kernel) (by decide +kernel) (ea_cons (x0 rfl) ea_nil) (by exact ⟨n, rfl, ok' _ rfl, ref_drop0 hr2, hg, l2, rfl⟩)) (fun z => by cases z))) fin
  | turn x =>
    have ok' : SpdB x := ok
    rcases h with ⟨w, hr2, rfl, rfl⟩ | ⟨hr2, rfl, ha⟩
    · rcases ref_spd ok' hr2 with ⟨h1, rfl⟩ | ⟨v, rfl, sv, bv, h1, rfl⟩
      · exact br_try_out (N := fun _ => True) stb_bn (tw_if stb_bn (b := false) (ebt_ev (hw (s := "turn") rfl (by decide +kernel) (by decide +kernel) (by decide +kernel))) (fun z => by cases z) (fun _ => tw_if stb_bn (b := false) (ebt_ev (hw (s := "turn") rfl (by decide +kernel) (by decide +kernel) (by decide +kernel))) (fun z => by cases z) (fun _ => tw_if stb_bn (b := true) (ebt_ev (hw (s := "turn") rfl (by decide +kernel) (by decide +kernel) (by decide +kernel))) (fun _ => tw_deedX rfl (by decide +kernel) (by decide +kernel) (by decide +kernel) (ea_cons (x0 rfl) ea_nil) (by exact ⟨_, rfl, .inl ⟨h1, rfl⟩⟩)) (fun z => by cases z)))) (by show 4 < 5; decide) ⟨_, "speed", rfl, T.r_NoSpeed, .inr (.inr (.inl ⟨rfl, rfl⟩)), rfl⟩
      · exact br_try_out (N := fun _ => True) stb_bn (tw_if stb_bn (b := false) (ebt_ev (hw (s := "turn") rfl (by decide +kernel) (by decide +kernel) (by decide +kernel))) (fun z => by cases z) (fun _ => tw_if stb_bn (b := false) (ebt_ev (hw (s := "turn") rfl (by decide +kernel) (by decide +kernel) (by decide +kernel))) (fun z => by cases z) (fun _ => tw_if stb_bn (b := true) (ebt_ev (hw (s := "turn") rfl (by decide +kernel) (by decide +kernel) (by decide +kernel))) (fun _ => tw_deedX rfl (by decide +kernel) (by decide +kernel) (by decide +kernel) (ea_cons (x0 rfl) ea_nil) (by exact ⟨_, rfl, .inr ⟨v, rfl, sv, bv.mono (by decide), h1, rfl⟩⟩)) (fun z => by cases z)))) (by show 4 < 5; decide) ⟨_, "plain", rfl, T.r_NotPlain, .inr (.inr (.inr (.inl ⟨rfl, rfl⟩))), rfl⟩
    · obtain ⟨v, u, rfl, hv, bv, rfl⟩ := ha
      exact br_try_go (tw_if stb_bn (b := false) (ebt_ev (hw (s := "turn") rfl (by decide +kernel) (by decide +kernel) (by decide +kernel))) (fun z => by cases z) (fun _ => tw_if stb_bn (b := false) (ebt_ev (hw (s := "turn") rfl (by decide +kernel) (by decide +kernel) (by decide +kernel))) (fun z => by cases z) (fun _ => tw_if stb_bn (b := true) (ebt_ev (hw (s := "turn") rfl (by decide +kernel) (by decide +kernel) (by decide +kernel))) (fun _ => tw_deed rfl (by decide +kernel) (by decide +kernel) (by decide +kernel) (ea_cons (x0 rfl) ea_nil) (by exact ⟨v, u, rfl, hv, bv.mono (by decide), l2, rfl⟩)) (fun z => by cases z)))) fin
  | push x =>
    have ok' : SpdB x := ok
    rcases h with ⟨w, hr2, rfl, rfl⟩ | ⟨hr2, rfl, ha⟩
    · rcases ref_spd ok' hr2 with ⟨h1, rfl⟩ | ⟨v, rfl, sv, bv, h1, rfl⟩
      · exact br_try_out (N := fun _ => True) stb_bn (tw_if stb_bn (b := false) (ebt_ev (hw (s := "push") rfl (by decide +kernel) (by decide +kernel) (by decide +kernel))) (fun z => by cases z) (fun _ => tw_if stb_bn (b := false) (ebt_ev (hw (s := "push") rfl (by decide +kernel) (by decide +kernel) (by decide +kernel))) (fun z => by cases z) (fun _ => tw_if stb_bn (b := false) (ebt_ev (hw (s := "push") rfl (by decide +kernel) (by decide +kernel) (by decide +kernel))) (fun z => by cases z) (fun _ => tw_if stb_bn (b := true) (ebt_ev (hw (s := "push") rfl (by decide +kernel) (by decide +kernel) (by decide +kernel))) (fun _ => tw_deedX rfl (by decide +kernel) (by decide +kernel) (by decide +kernel) (ea_cons (x0 rfl) ea_nil) (by exact ⟨_, rfl, .inl ⟨h1, rfl⟩⟩)) (fun z => by cases z))))) (by show 4 < 5; decide) ⟨_, "speed", rfl, T.r_NoSpeed, .inr (.inr (.inl ⟨rfl, rfl⟩)), rfl⟩
      · exact br_try_out (N := fun _ => True) stb_bn (tw_if stb_bn (b := false) (ebt_ev (hw (s := "push") rfl (by decide +kernel) (by decide +kernel) (by decide +kernel))) (fun z => by cases z) (fun _ => tw_if stb_bn (b := false) (ebt_ev (hw (s := "push") rfl (by decide +kernel) (by decide +kernel) (by decide +kernel))) (fun z => by cases z) (fun _ => tw_if stb_bn (b := false) (ebt_ev (hw (s := "push") rfl (by decide +kernel) (by decide +kernel) (by decide +kernel))) (fun z => by cases z) (fun _ => tw_if stb_bn (b := true) (ebt_ev (hw (s := "push") rfl (by decide +kernel) (by decide +kernel) (by decide +kernel))) (fun _ => tw_deedX rfl (by decide +kernel) (by decide +kernel) (by decide +kernel) (ea_cons (x0 rfl) ea_nil) (by exact ⟨_, rfl, .inr ⟨v, rfl, sv, bv.mono (by decide), h1, rfl⟩⟩)) (fun z => by cases z))))) (by show 4 < 5; decide) ⟨_, "plain", rfl, T.r_NotPlain, .inr (.inr (.inr (.inl ⟨rfl, rfl⟩))), rfl⟩
    · obtain ⟨v, u, rfl, hv, bv, rfl⟩ := ha
      exact br_try_go (tw_if stb_bn (b := false) (ebt_ev (hw (s := "push") rfl (by decide +kernel) (by decide +kernel) (by decide +kernel))) (fun z => by cases z) (fun _ => tw_if stb_bn (b := false) (ebt_ev (hw (s := "push") rfl (by decide +kernel) (by decide +kernel) (by decide +kernel))) (fun z => by cases z) (fun _ => tw_if stb_bn (b := false) (ebt_ev (hw (s := "push") rfl (by decide +kernel) (by decide +kernel) (by decide +kernel))) (fun z => by cases z) (fun _ => tw_if stb_bn (b := true) (ebt_ev (hw (s := "push") rfl (by decide +kernel) (by decide +kernel) (by decide +kernel))) (fun _ => tw_deed rfl (by decide +kernel) (by decide +kernel) (by decide +kernel) (ea_cons (x0 rfl) ea_nil) (by exact ⟨v, u, rfl, hv, bv.mono (by decide), ss, ⟨4000, 67, bs, bv, by decide⟩, l2, rfl⟩)) (fun z => by cases z))))) fin
theorem h__law_apart (T : Txt K mg ca fa ka) : Has P w K mg base CX0 3 "_law_apart" ["_law_one", "_law_other"] (spP K R_lag) := by
  have j0 : ∀ {t p : Rat}, R2D K (rIx K) (hapD t p) (.int 0) (fq t) := ix0
  have j1 : ∀ {t p : Rat}, R2D K (rIx K) (hapD t p) (.int 1) (fq p) := ix1
  refine T.d__law_apart.pure sc__law_apart (fun ds d h => by obtain ⟨_, _, _, _, rfl, _⟩ := h; rfl) (fun f cdv A outer s H E hr => (pss_one (ps_ret (pe_tup (pa_cons (pe_h (h__law_gap T) hr (by decide) pass0 (pa_cons (pe_ix (ixK (K := K) rfl) (pv 1) pe_int (fun _ _ => rfl)) (pa_cons (pe_ix (ixK (K := K) rfl) (pv 0) pe_int (fun _ _ => rfl)) pa_nil))) (pa_cons (pe_h (h__law_gap T) hr (by decide) pass0 (pa_cons (pe_ix (ixK (K := K) rfl) (pv 1) pe_int (fun _ _ => rfl)) (pa_cons (pe_ix (ixK (K := K) rfl) (pv 0) pe_int (fun _ _ => rfl)) pa_nil))) pa_nil)))))) ?_
  rintro ds d ⟨a, b, c, e, rfl, ba, bb, bc, be, rfl⟩
  exact rt_ret (ev_tup (ea_cons (ev_call (ea_cons (ev_op (ev_var rfl) ev_int j0) (ea_cons (ev_op (ev_var rfl) ev_int j0) ea_nil)) (by exact gap_ok (bc.mono (by decide)) (ba.mono (by decide)))) (ea_cons (ev_call (ea_cons (ev_op (ev_var rfl) ev_int j1) (ea_cons (ev_op (ev_var rfl) ev_int j1) ea_nil)) (by exact gap_ok (be.mono (by decide)) (bb.mono (by decide)))) ea_nil)) (by exact Nat.le_of_ble_eq_true rfl))
theorem h__law_word (T : Txt K mg ca fa ka) : Has P w K mg base CX0 4 "_law_word" ["_law_one", "_law_other"] (spP K R_kind) := by
  refine T.d__law_word.pure sc__law_word (fun ds d h => by obtain ⟨_, _, _, _, rfl, _⟩ := h; rfl) (fun f cdv A outer s H E hr => (pss_cons (ps_asg (pe_h (h__law_apart T) hr (by decide) pass0 (pa_cons (pv 0) (pa_cons (pv 1) pa_nil))) (tupK (K := K) (n := 2) rfl rfl (pgs_cons (pg_name (i := 2) sc__law_word.nd rfl (Or.inl rfl)) (pgs_cons (pg_name (i := 3) sc__law_word.nd rfl (Or.inl rfl)) pgs_nil)))) (pss_cons (ps_set (i := 4) sc__law_word.nd rfl (Or.inl rfl) (pe_op op_mulA (pe_ix (ixK (K := K) rfl) (pv 2) pe_int (fun _ _ => rfl)) (pe_ix (ixK (K := K) rfl) (pv 3) pe_int (fun _ _ => rfl)))) (pss_cons (ps_set (i := 5) sc__law_word.nd rfl (Or.inl rfl) (pe_callB cr_abs (by rfl) T.m_abs (by decide +kernel) (pa_cons (pe_op op_mulA (pe_ix (ixK (K := K) rfl) (pv 3) pe_int (fun _ _ => rfl)) (pe_ix (ixK (K := K) rfl) (pv 2) pe_int (fun _ _ => rfl))) pa_nil))) (pss_cons (ps_if (pt_cmpR (eqK (K := K) rfl hr.units) (pv 0) (pv 1) (nomark _)) (pss_one (ps_ret pe_str)) pss_nil) (pss_cons (ps_if (pt_cmpR op_lt (pe_callB cr_abs (by rfl) T.m_abs (by decide +kernel) (pa_cons (pv 4) pa_nil)) (pv 5) (nomark _)) (pss_one (ps_ret pe_str)) pss_nil) (pss_one (ps_ret (pe_ix (ixK (K := K) rfl) (pe_lst (pa_cons pe_str (pa_cons pe_str pa_nil))) (pe_callTy cr_int (by rfl) T.m_int (by decide +kernel) (pa_cons (pe_cmpR op_gt (pv 4) pe_int (nomark _)) pa_nil)) (fun _ _ => rfl)))))))))) ?_
  rintro ds d ⟨a, b, c, e, rfl, ba, bb, bc, be, rfl⟩
  have q1 : Bq 2001 (c - a) := bq_sub bc ba
  have q2 : Bq 2001 (e - b) := bq_sub be bb
  have lg : R_lag [hapD a b, hapD c e] (hapD (c - a) (e - b)) := ⟨a, b, c, e, rfl, ba, bb, bc, be, rfl⟩
  refine rt_seq (nt_unp (ev_call (by walk_at "ea") lg)) ?_
  have same : (c - a = 0 ∧ e - b = 0) ↔ (a = c ∧ b = e) := ⟨fun h => ⟨by grind, by grind⟩, fun h => ⟨by grind, by grind⟩⟩
  generalize c - a = l at *
  generalize e - b = g at *
  refine rt_seq (nt_asg (ev_op (ev_op (ev_var rfl) ev_int (by exact fx0)) (ev_op (ev_var rfl) ev_int (by exact fx1)) (r2_mul (mulok q1.1 q2.2 (by decide))))) ?_
  refine rt_seq (nt_asg (ev_cb (ea_cons (ev_op (ev_op (ev_var rfl) ev_int (by exact fx0)) (ev_op (ev_var rfl) ev_int (by exact fx1)) (r2_mul (mulok q2.1 q1.2 (by decide)))) ea_nil) rc_abs)) ?_
  refine rt_cond (et_test (ev_op (ev_var rfl) (ev_var rfl) (by exact r2_eqH))) (fun h => ?_) (fun h => ?_)
  · exact rt_is (rt_ret ev_str) (by unfold wordS; rw [if_pos (same.mpr (of_decide_eq_true h))])
  have h0 := fun z => of_decide_eq_false h (same.mp z)
  refine rt_cond (et_test (ev_op (ev_cb (ea_cons (ev_var rfl) ea_nil) rc_abs) (ev_var rfl) r2_lt)) (fun h => ?_) (fun h => ?_)
  · rw [word_cross] at h
    have hb : (wordS l g == "beside") = true := by rw [beside_iff, h]
    exact rt_is (rt_ret ev_str) (by rw [eq_of_beq hb])
  rw [word_cross] at h
  rw [word_else h0 (of_decide_eq_false h)]
  have pos : (0 < l.num * (g.den : Int)) ↔ 0 < l := by
    rw [← numpos]
    have := den_pos g
    constructor
    · intro z
      exact Int.pos_of_mul_pos_left z (by omega)
    · intro z
      exact Int.mul_pos z this
  by_cases z : 0 < l
  · rw [if_pos z]
    exact rt_ret (ev_op (by walk_at "ev") (ev_is (ev_cb (ea_cons (ev_op (ev_var rfl) ev_int r2_gt) ea_nil) rc_intB) (by rw [decide_eq_true (pos.mpr z)])) (r2_ixL rfl))
  · rw [if_neg z]
    exact rt_ret (ev_op (by walk_at "ev") (ev_is (ev_cb (ea_cons (ev_op (ev_var rfl) ev_int r2_gt) ea_nil) rc_intB) (by rw [decide_eq_false (fun y => z (pos.mp y))])) (r2_ixL rfl))
def R_tld (b : Bst) (ds : List Dt) (d : Dt) : Prop := (∃ x : Dt, ds = [.lst [x]] ∧ NoNm b x ∧ d = .tup [.str "refused", .str "name"]) ∨ ∃ x y : Dt, ds = [.lst [x, y]] ∧ ((∃ w : Dt, R_knd b [x, y] w ∧ d = .tup [.str "word", w]) ∨ ((NoNm b x ∨ ((∃ (n : Str) (q : Rat × Rat), x = .str n ∧ n.length ≤ 90000 ∧ isNm x = true ∧ getH b.haps n = some q) ∧ NoNm b y)) ∧ d = .tup [.str "refused", .str "name"]))
theorem h__law_told (T : Txt K mg ca fa ka) : Has P w K mg base CX0 11 "_law_told" ["_law_bench", "_law_names"] (spBnQ K (ca 19) R_tld) := by
  refine T.d__law_told.askB sc__law_told (fun b ds d h => by rcases h with ⟨_, rfl, _⟩ | ⟨_, _, rfl, _⟩ <;> rfl) (fun f cdv A outer s H E hr => (pss_one (tryT (K := K) rfl (ps_try_as (i := 2) (Wout := fun _ _ _ _ => False) rfl rfl sc__law_told.nd rfl rfl ⟨rfl, by decide, Or.inl T.c_MotionError⟩ takes0 (fun W pn xe tk po => (pss_cons (ps_if (pt_cmpR (eqK (K := K) rfl hr.units) (pe_callB (lenK (K := K) rfl) (by rfl) T.m_len (by decide +kernel) (pa_cons (pv 1) pa_nil)) pe_int (nomark _)) (pss_one (ps_ret (pe_tup (pa_cons pe_str (pa_cons (by exact (pe_mhS (h_Bench_tell T) T.cl_Bench hr (by decide) (fun σ => passAt tk σ) (pv 0) (pa_cons (pe_ix (ixK (K := K) rfl) (pv 1) pe_int (fun _ _ => rfl)) pa_nil))) pa_nil))))) pss_nil) (pss_one (ps_ret (pe_tup (pa_cons pe_str (pa_cons (by exact (pe_mhS (h_Bench_kind T) T.cl_Bench hr (by decide) (fun σ => passAt tk σ) (pv 0) (pa_cons (pe_ix (ixK (K := K) rfl) (pv 1) pe_int (fun _ _ => rfl)) (pa_cons (pe_ix (ixK (K := K) rfl) (pv 1) pe_int (fun _ _ => rfl)) pa_nil)))) pa_nil))))))) (fun a oe cls d pn hz hf => (pss_one (ps_ret (pe_tup (pa_cons pe_str (pa_cons (pe_kind (i := 2) (h__law_kind_of T) (roomS hr) (by decide) List.mem_cons_self hz hf rfl (Or.inl rfl)) pa_nil)))))))))) ?_
  rintro y b ds d h
  have x0 : ∀ {sl : List Sl} {a : Dt} {l : List Dt}, sl[1]? = some (.d (.lst (a :: l))) → Ev K (tOp (rIx K) (tVar 1) (tC (.int 0))) sl a := fun {sl a l} h => ev_op (ev_var h) ev_int (r2_ixL ((atI_k (k := 0) (a :: l) (Nat.succ_pos _)).trans rfl))
  have x1 : ∀ {sl : List Sl} {a c : Dt} {l : List Dt}, sl[1]? = some (.d (.lst (a :: c :: l))) → Ev K (tOp (rIx K) (tVar 1) (tC (.int 1))) sl c := fun {sl a c l} h => ev_op (ev_var h) ev_int (r2_ixL ((atI_k (k := 1) (a :: c :: l) (Nat.succ_lt_succ (Nat.succ_pos _))).trans rfl))
  rcases h with ⟨x, rfl, h, rfl⟩ | ⟨x, z, rfl, h⟩
  · exact br_tryO (N := fun _ => True) stb_br (tw_yes stb_br (ebt_ev (et_is (et_test (ev_op (ev_cb (ea_cons (ev_var rfl) ea_nil) rc_lenL) ev_int r2_eqI)) rfl)) (fun z => by cases z) (tw_retX (ebxw_tup stb_br (fun _ _ h => h) rfl (by decide +kernel) (by decide +kernel) (by decide +kernel) (eba_ev (ea_cons (x0 rfl) ea_nil)) (by exact ⟨x, rfl, h, rfl⟩)))) (by show 2 < 3; decide) ⟨_, "name", rfl, T.r_NoName, .inl ⟨rfl, rfl⟩, rfl⟩
  · rcases h with ⟨w, h, rfl⟩ | ⟨h, rfl⟩
    · exact br_tryR (N := fun _ => True) (tw_no stb_br (ebt_ev (et_is (et_test (ev_op (ev_cb (ea_cons (ev_var rfl) ea_nil) rc_lenL) ev_int r2_eqI)) rfl)) (tw_ret stb_br fun W => eb_tup (eba_cons stb_br (eb_ev ev_str) (eba_cons stb_br (eb_mqE stb_br (fun _ _ h => h) rfl (by decide +kernel) (by decide +kernel) (by decide +kernel) (eba_ev (ea_cons (x0 rfl) (ea_cons (x1 rfl) ea_nil))) (by exact h)) (eba_ev ea_nil)))))
    · exact br_tryO (N := fun _ => True) stb_br (tw_no stb_br (ebt_ev (et_is (et_test (ev_op (ev_cb (ea_cons (ev_var rfl) ea_nil) rc_lenL) ev_int r2_eqI)) rfl)) (tw_retX (ebxw_tup stb_br (fun _ _ h => h) rfl (by decide +kernel) (by decide +kernel) (by decide +kernel) (eba_ev (ea_cons (x0 rfl) (ea_cons (x1 rfl) ea_nil))) (by exact ⟨x, z, rfl, h, rfl⟩)))) (by show 2 < 3; decide) ⟨_, "name", rfl, T.r_NoName, .inl ⟨rfl, rfl⟩, rfl⟩
theorem sh_ref : SeqAt.shaped (.tuple [.str "refused", .str "name"]) = true := by decide +kernel
theorem h__law_words_right (T : Txt K mg ca fa ka) : Has P w K mg base CX0 12 "_law_words_right" ["_law_pot_here", "_law_bench", "_law_state"] (spWr K (ca 19)) := by
  refine T.d__law_words_right.wr sc__law_words_right rfl (fun f cdv A outer s H E hr => (pss_cons (ps_set (i := 3) sc__law_words_right.nd rfl (Or.inl rfl) (pe_dget (lt64 hr.units) (pv 2) pe_str (fun _ _ => rfl))) (pss_cons (ps_lock (ps_for PassesOwn.never rfl (pi_keys (pv 3)) (pg_name (i := 4) sc__law_words_right.nd rfl (Or.inl rfl)) (pss_one (ps_for PassesOwn.never rfl (pi_keys (pv 3)) (pg_name (i := 5) sc__law_words_right.nd rfl (Or.inl rfl)) (pss_one (ps_if (pt_cmpR (neK (K := K) rfl hr.units) (pe_h (h__law_told T) hr (by decide) pass0 (pa_cons (pv 1) (pa_cons (pe_lst (pa_cons (pv 4) (pa_cons (pv 5) pa_nil))) pa_nil))) (pe_tup (pa_cons pe_str (pa_cons (pe_h (h__law_word T) hr (by decide) pass0 (pa_cons (pe_dget (lt64 hr.units) (pv 3) (pv 4) (fun _ _ => rfl)) (pa_cons (pe_dget (lt64 hr.units) (pv 3) (pv 5) (fun _ _ => rfl)) pa_nil))) pa_nil))) (nomark _)) (pss_one (ps_ret pe_bl)) pss_nil)))))) (pss_cons (ps_set (i := 6) sc__law_words_right.nd rfl (Or.inl rfl) (pe_ix (ixK (K := K) rfl) (pe_lst (pa_cons pe_str (pa_cons pe_str (pa_cons pe_non (pa_cons pe_int (pa_cons (pe_lst (pa_cons pe_str pa_nil)) (pa_cons (pe_tup (pa_cons pe_str pa_nil)) (pa_cons pe_str (pa_cons pe_str (pa_cons pe_dct (pa_cons pe_bl (pa_cons pe_str (pa_cons pe_str pa_nil))))))))))))) (pe_h (h__law_take T) hr (by decide) pass0 (pa_cons (pv 0) (pa_cons pe_int pa_nil))) (fun _ _ => rfl))) (pss_cons (ps_set (i := 7) sc__law_words_right.nd rfl (Or.inl rfl) (pe_op (catK (K := K) rfl) (pe_lst (pa_cons (pv 6) pa_nil)) (pe_callB (sortH rfl) (by rfl) T.m_sorted (by decide +kernel) (pa_cons (pv 3) pa_nil)))) (pss_cons (ps_for PassesOwn.never rfl (lstK (K := K) rfl (pe_lst (pa_cons (pe_lst (pa_cons (pv 6) pa_nil)) (pa_cons (pe_lst (pa_cons (pv 6) (pa_cons (pe_ix (ixK (K := K) rfl) (pv 7) (pe_un un_neg pe_int) (fun _ _ => rfl)) pa_nil))) (pa_cons (pe_lst (pa_cons (pe_ix (ixK (K := K) rfl) (pv 7) (pe_un un_neg pe_int) (fun _ _ => rfl)) (pa_cons (pv 6) pa_nil))) pa_nil))))) (pg_name (i := 8) sc__law_words_right.nd rfl (Or.inl rfl)) (pss_one (ps_if (pt_cmpR (neK (K := K) rfl hr.units) (pe_h (h__law_told T) hr (by decide) pass0 (pa_cons (pv 1) (pa_cons (pv 8) pa_nil))) (pe_tup (pa_cons pe_str (pa_cons pe_str pa_nil))) (nomark _)) (pss_one (ps_ret pe_bl)) pss_nil))) (pss_one (ps_ret pe_bl)))))))) ?_
  rintro pot x y p b ⟨np1, np2, np3⟩ hI h12
  have mem : pot ∈ [pot] := by simp
  refine br_dict (fun _ _ h => h.1.2) rfl fun a => ?_
  refine br_w (S1 := fun G H => ((BnR K (ca 19) x G H b ∧ SoAt K y p G H b) ∧ DicAt K G a b.haps) ∧ Pots [pot] G H) ?_ (fun G H ⟨⟨h1, h2⟩, h3⟩ => ⟨⟨h1, h3⟩, h2⟩)
  have sW : Stb fun G H => ((BnR K (ca 19) x G H b ∧ SoAt K y p G H b) ∧ DicAt K G a b.haps) ∧ Pots [pot] G H := fun G H G2 H2 ⟨⟨⟨h1, h2⟩, h3⟩, h4⟩ n => ⟨⟨⟨h1.nx n, h2.nx n⟩, h3.mono n.g⟩, h4.nx n⟩
  have sI : ∀ {od : Obj} {kvs : List (Key × V)}, Stb fun G H => (BnR K (ca 19) x G H b ∧ DicR K G a b.haps) ∧ Frz a od kvs G := fun {od kvs} G H G2 H2 ⟨⟨h1, h2⟩, h3⟩ n => ⟨⟨h1.nx n, h2.mono n.g⟩, n.g _ _ h3⟩
  have key : ∀ {n : Str}, n ∈ b.haps.map (·.1) → ∃ q, getH b.haps n = some q ∧ isNm (.str n) = true ∧ n.length ≤ 90000 ∧ Bq 1000 q.1 ∧ Bq 1000 q.2 := fun {n} h => by
    obtain ⟨q, hq⟩ := getH_mem h
    obtain ⟨g1, g2, _, g3, g4⟩ := hI _ (getH_in hq)
    exact ⟨q, hq, g1, g2, g3.mono (by decide), g4.mono (by decide)⟩
  refine br_seq (N := fun s => s = [.raw (.ref pot), .raw (.ref x), .raw (.ref y), .raw (.ref a), .no, .no, .no, .no, .no]) (bn_us (us := []) (bn_lock (Pk := fun kvs => kvs.map (·.1) = (b.haps.map (·.1)).map Sum.inr) (Si := fun G H => BnR K (ca 19) x G H b ∧ DicR K G a b.haps) sW (a := a) (fun G H ⟨⟨_, kvs, h, hp⟩, _⟩ => ?_) (fun G H od kvs ⟨⟨⟨h1, _⟩, h3⟩, _⟩ k ga => ⟨h1.lock ga, dic_lock ga h3.r⟩) (fun z hz => ?_) (fun s e z hz => ?_) (fun G H kvs ⟨⟨_, kv, h, hp⟩, _⟩ ga => ?_) fun od kvs hk => ?_) (fun a ha => by cases ha)) ?_
  · exact ⟨kvs, h⟩
  · simp only [List.mem_cons, List.not_mem_nil, or_false, List.set, List.replicate, List.length] at hz
    rcases hz with rfl | rfl | rfl | rfl | rfl | rfl | rfl | rfl | rfl <;> rfl
  · subst e
    simp only [List.mem_cons, List.not_mem_nil, or_false] at hz
    rcases hz with rfl | rfl | rfl | rfl | rfl | rfl | rfl | rfl | rfl <;> rfl
  · rw [h] at ga
    cases ga
    exact dic_keys hp
  · refine bn_forF (a := a) sI (fun G H h => h.2) hk rfl (fun n => by walk_at "wk") fun n1 m1 => ?_
    obtain ⟨q1, g1, i1, l1, b1, c1⟩ := key m1
    refine bn_imp (bn_forF (a := a) sI (fun G H h => h.2) hk rfl (fun n => by walk_at "wk") fun n2 m2 => ?_) (fun s e => by subst e; walk_at "wk")
    obtain ⟨q2, g2, i2, l2, b2, c2⟩ := key m2
    have kd : R_kind [hpD q1, hpD q2] (.str (wordS (q2.1 - q1.1) (q2.2 - q1.2))) := ⟨_, _, _, _, rfl, b1, c1, b2, c2, rfl⟩
    refine bn_no sI (ebt_test (eb_op sI (eb_bq sI (fun G H h => h.1.1) rfl (eba_ev (ea_cons (ev_lst (ea_cons (ev_var rfl) (ea_cons (ev_var rfl) ea_nil))) ea_nil)) (by exact .inr ⟨.str n1, .str n2, rfl, .inl ⟨_, ⟨n1, n2, q1, q2, rfl, ⟨l1, i1⟩, ⟨l2, i2⟩, g1, g2, ⟨b1, c1⟩, ⟨b2, c2⟩, rfl⟩, rfl⟩⟩)) (eb_tup (eba_cons sI (eb_ev ev_str) (eba_cons sI (eb_call (eba_cons sI (eb_hget sI (fun G H h => h.1.2) rfl (eb_ev (ev_var rfl)) g1) (eba_cons sI (eb_hget sI (fun G H h => h.1.2) rfl (eb_ev (ev_var rfl)) g2) (eba_ev ea_nil))) (by exact kd)) (eba_ev ea_nil)))) (r2_neSelf rfl rfl (sh_wordT _ _)))) (by walk_at "wk")
  rintro s rfl
  refine br_seq (N := fun s => ∃ bad : Dt, NoNm b bad ∧ s = [.raw (.ref pot), .raw (.ref x), .raw (.ref y), .raw (.ref a), .no, .no, .d bad, .no, .no]) (bn_ofIp (S := fun G H => (BnR K (ca 19) x G H b ∧ SoAt K y p G H b) ∧ DicAt K G a b.haps) (fun G H G2 H2 ⟨⟨h1, h2⟩, h3⟩ n => ⟨⟨h1.nxP n (by simpa using Ne.symm np1), h2.nxP n (by simpa using Ne.symm np2) (by simpa using Ne.symm np3)⟩, h3.mono n.g⟩) (ip_asg1 (ep_op (ep_ev (by walk_at "ev") (ep_take rfl mem (ep_ev ev_int ⟨12, rfl, by decide, by decide, fun m m0 m1 => ?_⟩)))))) ?_
  · have no : ∀ {s : Str}, s.length ≤ 90000 → isNm (.str s) = false → NoNm b (.str s) := fun h1 h2 => ⟨fun s e => by cases e; exact h1, .inl h2⟩
    have nn : ∀ {d : Dt}, (∀ s, d ≠ .str s) → isNm d = false → NoNm b d := fun h1 h2 => ⟨fun s e => absurd e (h1 s), .inl h2⟩
    obtain ⟨z, hat, hz⟩ := hit (P := NoNm b) (xs := [.str "A", .str "", .non, .int 5, .lst [.str "a"], .tup [.str "a"], .str "abcdefghi", .str "q", .dct, .bl true, .str "a ", .str "a\n"]) m0 m1 rfl ⟨no (by decide +kernel) (by decide +kernel), no (by decide +kernel) (by decide +kernel), nn (fun _ e => by cases e) rfl, nn (fun _ e => by cases e) rfl, nn (fun _ e => by cases e) rfl, nn (fun _ e => by cases e) rfl, no (by decide +kernel) (by decide +kernel), ⟨fun s e => by cases e; decide +kernel, .inr ⟨_, rfl, by decide +kernel, getH_q hI⟩⟩, nn (fun _ e => by cases e) rfl, nn (fun _ e => by cases e) rfl, no (by decide +kernel) (by decide +kernel), no (by decide +kernel) (by decide +kernel), trivial⟩
    exact ⟨_, r2_ixL hat, z, hz, rfl⟩
  rintro s ⟨bad, hbad, rfl⟩
  obtain ⟨gh, hgh⟩ : ∃ gh, gh = bad :: (srtN (b.haps.map (·.1))).map Dt.str := ⟨_, rfl⟩
  have lgh : gh.length = b.haps.length + 1 := by rw [hgh, List.length_cons, List.length_map, srtN_len, List.length_map]
  refine br_seq (bn_us (us := []) (bn_asg (N := fun s => s = [.raw (.ref pot), .raw (.ref x), .raw (.ref y), .raw (.ref a), .no, .no, .d bad, .d (.lst gh), .no]) (x := .lst gh) sW (eb_is (eb_op sW (eb_ev (ev_lst (xs := [bad]) (ea_cons (ev_var rfl) ea_nil))) (eb_hsort (fun G H h => h.1.2.r) rfl (by omega)) (r2_cat (by rw [List.length_map, srtN_len, List.length_map]; show 1 + _ ≤ _; omega))) (by rw [hgh]; rfl)) rfl) (fun a ha => by cases ha)) ?_
  rintro s rfl
  obtain ⟨last, hlast, hL⟩ : ∃ last : Dt, atI gh (-1) = some last ∧ (NoNm b last ∨ ∃ (n : Str) (q : Rat × Rat), last = .str n ∧ n.length ≤ 90000 ∧ isNm last = true ∧ getH b.haps n = some q) := by
    have hg : gh[gh.length - 1]? = some gh[gh.length - 1] := List.getElem?_eq_getElem (by omega)
    refine ⟨_, (atI_end (by omega)).trans hg, ?_⟩
    have hm : gh[gh.length - 1] ∈ gh := List.getElem_mem _
    generalize gh[gh.length - 1] = l at hm
    rw [hgh] at hm
    rcases List.mem_cons.mp hm with rfl | hm
    · exact .inl hbad
    · obtain ⟨n, hn, rfl⟩ := List.mem_map.mp hm
      obtain ⟨q, g1, g2, g3, _⟩ := key (srtN_mem.mp hn)
      exact .inr ⟨n, q, rfl, g3, g2, g1⟩
  have el : ∀ {sl : List Sl}, sl[7]? = some (.d (.lst gh)) → Ev K (tOp (rIx K) (tVar 7) (tUn _ (tC (.int 1)))) sl last := fun h => ev_op (ev_var h) (ev_un ev_int r1_neg) (r2_ixL hlast)
  refine br_seq (bn_us (us := []) (bn_imp (bn_forL (ds := [.lst [bad], .lst [bad, last], .lst [last, bad]]) sW (ev_lst (ea_cons (ev_lst (ea_cons (ev_var rfl) ea_nil)) (ea_cons (ev_lst (ea_cons (ev_var rfl) (ea_cons (el rfl) ea_nil))) (ea_cons (ev_lst (ea_cons (el rfl) (ea_cons (ev_var rfl) ea_nil))) ea_nil)))) (fun d => by walk_at "wk") fun d hd => ?_) (N2 := fun _ => True) (fun _ _ => trivial)) (fun a ha => by cases ha)) fun s _ => br_w (br_ret (fun _ _ _ _ h n => h.nx n) (eb_ev ev_bl)) (fun G H h => h.2)
  have ask : R_tld b [d] (.tup [.str "refused", .str "name"]) := by
    simp only [List.mem_cons, List.not_mem_nil, or_false] at hd
    rcases hd with rfl | rfl | rfl
    · exact .inl ⟨bad, rfl, hbad, rfl⟩
    · exact .inr ⟨bad, last, rfl, .inr ⟨.inl hbad, rfl⟩⟩
    · rcases hL with h | h
      · exact .inr ⟨last, bad, rfl, .inr ⟨.inl h, rfl⟩⟩
      · exact .inr ⟨last, bad, rfl, .inr ⟨.inr ⟨h, hbad⟩, rfl⟩⟩
  exact bn_no sW (ebt_test (eb_op sW (eb_bq sW (fun G H h => h.1.1.1) rfl (eba_ev (by walk_at "ea")) (by exact ask)) (eb_ev (ev_tup (ea_cons ev_str (ea_cons ev_str ea_nil)))) (r2_neSelf rfl rfl sh_ref))) (by walk_at "wk")
theorem h__law_full_right (T : Txt K mg ca fa ka) : Has P w K mg base CX0 11 "_law_full_right" ["_law_pot_here"] (spM K (fun ds => ds = []) fun _ d => d = .bl true) := by
  refine T.d__law_full_right.draws sc__law_full_right (fun ds h => by subst h; rfl) (fun f cdv A outer s H E hr => (pss_cons (ps_set (i := 1) sc__law_full_right.nd rfl (Or.inr rfl) (pe_mkB (h_Bench___init__ T) T.c_Bench hr (by decide))) (pss_cons (ps_for PassesOwn.never rfl (pi_str pe_str) (pg_name (i := 2) sc__law_full_right.nd rfl (Or.inl rfl)) (pss_one (ps_expr (pe_mh (h_Bench_put T) T.cl_Bench hr (by decide) passL (pv 1) (pa_cons (pv 2) (pa_cons (pe_h (h__law_hap T) hr (by decide) pass0 (pa_cons (pv 0) pa_nil)) pa_nil)))))) (pss_cons (ps_setLc (i := 3) (own := [("_law_name", 2)]) (g := gName 2) (tt := tYes) rfl sc__law_full_right.nd rfl rfl (by rfl) (lstK (K := K) rfl (pe_mh0 (h_Bench_names T) T.cl_Bench hr (by decide) pass0 (pv 1) )) (blkOk_by (own := [("_law_name", 2)]) (N := ["_law_pot_here", "_law_bench", "_law_name", "_law_before", "_law_hap_here"]) (sc := defScope s__law_full_right) (by decide +kernel)) (fun _ _ _ _ _ => pg_name (i := 2) sc__law_full_right.nd rfl (Or.inl rfl)) (fun _ _ _ _ _ => pts_nil) (fun _ _ _ _ _ => (pe_mh (h_Bench_tell T) T.cl_Bench hr (by decide) passL (pv 1) (pa_cons (pv 2) pa_nil)))) (pss_cons (ps_set (i := 4) sc__law_full_right.nd rfl (Or.inl rfl) (pe_h (h__law_hap T) hr (by decide) pass0 (pa_cons (pv 0) pa_nil))) (pss_cons (ps_if (pt_cmpR (neK (K := K) rfl hr.units) (pe_h (h__law_done T) hr (by decide) pass0 (pa_cons (pv 1) (pa_cons pe_str (pa_cons (pe_lst (pa_cons pe_str (pa_cons (pv 4) pa_nil))) pa_nil)))) pe_str (nomark _)) (pss_one (ps_ret pe_bl)) pss_nil) (pss_cons (ps_if (pt_cmpR (neK (K := K) rfl hr.units) (pe_h (h__law_done T) hr (by decide) pass0 (pa_cons (pv 1) (pa_cons pe_str (pa_cons (pe_lst (pa_cons pe_str (pa_cons pe_non pa_nil))) pa_nil)))) pe_str (nomark _)) (pss_one (ps_ret pe_bl)) pss_nil) (pss_cons (ps_if (pt_cmpR (neK (K := K) rfl hr.units) (pe_lc (own := [("_law_name", 2)]) (g := gName 2) (tt := tYes) rfl sc__law_full_right.nd (lstK (K := K) rfl (pe_mh0 (h_Bench_names T) T.cl_Bench hr (by decide) pass0 (pv 1) )) (blkOk_by (own := [("_law_name", 2)]) (N := ["_law_pot_here", "_law_bench", "_law_name", "_law_before", "_law_hap_here"]) (sc := defScope s__law_full_right) (by decide +kernel)) (fun _ _ _ _ _ => pg_name (i := 2) sc__law_full_right.nd rfl (Or.inl rfl)) (fun _ _ _ _ _ => pts_nil) (fun _ _ _ _ _ => (pe_mh (h_Bench_tell T) T.cl_Bench hr (by decide) passL (pv 1) (pa_cons (pv 2) pa_nil)))) (pv 3) (nomark _)) (pss_one (ps_ret pe_bl)) pss_nil) (pss_cons (ps_if (pt_cmpR op_notN1 (pe_h (h__law_done T) hr (by decide) pass0 (pa_cons (pv 1) (pa_cons pe_str (pa_cons (pe_lst (pa_cons pe_str (pa_cons (pv 4) pa_nil))) pa_nil)))) pe_non (nomark _)) (pss_one (ps_ret pe_bl)) pss_nil) (pss_one (ps_ret (pe_and (pe_cmpR (eqK (K := K) rfl hr.units) (pe_mh (h_Bench_tell T) T.cl_Bench hr (by decide) passL (pv 1) (pa_cons pe_str pa_nil)) (pv 4) (nomark _)) (pe_one (pe_cmpR (eqK (K := K) rfl hr.units) (pe_callB (lenK (K := K) rfl) (by rfl) T.m_len (by decide +kernel) (pa_cons (pe_mh0 (h_Bench_names T) T.cl_Bench hr (by decide) pass0 (pv 1) ) pa_nil)) pe_int (nomark _))))))))))))))) ?_
  rintro ds rfl pot
  have mem : pot ∈ [pot] := by simp
  refine ir_make (d := .bl true) rfl fun x p npx npp => ?_
  have nin : pot ∉ [x, p] := by simp [npx, npp]
  refine br_w (S1 := fun G H => (∃ b, PK 0 b ∧ BnAt K (ca 19) x p G H b) ∧ Pots [pot] G H) ?_ (fun G H ⟨h1, h2⟩ => ⟨⟨_, ⟨rfl, (fun e he => by cases he), rfl, rfl⟩, h1⟩, h2⟩)
  refine br_seq (N := fun s => s = [.raw (.ref pot), .raw (.ref x), .no, .no, .no]) (bn_forS (z := "bcdefghijklm") (S := fun k G H => (∃ b, PK k b ∧ BnAt K (ca 19) x p G H b) ∧ Pots [pot] G H) ev_str (fun G H G2 H2 ⟨⟨b, h1, h2⟩, h3⟩ n => ⟨⟨b, h1, h2.nx n⟩, h3.nx n⟩) (fun s => by walk_at "wk") fun k hk => ?_) ?_
  · have hk : k < 12 := hk
    refine bn_some fun b hb => ?_
    have hl := hb.len
    have hp := hb.pa
    obtain ⟨l1, _, _, _⟩ := let_ok k hk
    refine bn_deedP ⟨npx, npp⟩ rfl (by decide +kernel) (by decide +kernel) (by decide +kernel) (epa_cons (ep_ev (ev_var rfl) (epa_cons (ep_callM rfl mem (epa_nil ⟨rfl, ?_⟩))))) (by walk_at "wk")
    rintro _ ⟨t, r, rfl, bt, br, _⟩
    exact epa_nil ⟨_, ⟨letK k, (t, r), rfl, (by show 1 ≤ 90000; decide), l1, .inr (by omega), by omega, by omega, rfl⟩, hb.put hk bt br⟩
  rintro s rfl
  refine br_some fun b hb => ?_
  have hb : PK 12 b := hb
  have hl := hb.len
  have hp := hb.pa
  have sW : ∀ {b2 : Bst}, Stb fun G H => BnAt K (ca 19) x p G H b2 ∧ Pots [pot] G H := fun {b2} G H G2 H2 ⟨h1, h2⟩ n => ⟨h1.nx n, h2.nx n⟩
  have key : ∀ {b2 : Bst} {n : Str}, HapsI b2.haps → n ∈ b2.haps.map (·.1) → ∃ q, getH b2.haps n = some q ∧ isNm (.str n) = true ∧ n.length ≤ 90000 ∧ Bq 400 q.1 ∧ Bq 400 q.2 := fun {b2 n} hI h => by
    obtain ⟨q, hq⟩ := getH_mem h
    obtain ⟨g1, g2, _, g3, g4⟩ := hI _ (getH_in hq)
    exact ⟨q, hq, g1, g2, g3.mono (by decide), g4.mono (by decide)⟩
  have tel : ∀ {b2 : Bst} {n : Str} {q : Rat × Rat}, b2.speed = 0 → getH b2.haps n = some q → isNm (.str n) = true → n.length ≤ 90000 → Bq 400 q.1 → Bq 400 q.2 → R_tel b2 [.str n] (hpD q) := fun {b2 n q} h0 h1 h2 h3 h4 h5 => ⟨n, q, 1, rfl, h3, h2, h1, by rw [h0]; exact pl01, by rw [h0]; exact bq_zero.mono (by decide), h4, h5, by rw [h0, tell0]⟩
  obtain ⟨pt, hpt, hst⟩ := py_hapsD (tsB b)
  have lN : (srtN (b.haps.map (·.1))).length = 12 := by rw [srtN_len, List.length_map, hl]
  have el : ∀ {k : Nat} {d e : Dt}, ((srtN (b.haps.map (·.1))).map Dt.str)[k]? = some d → ((tsB b).map fun p => hapD p.1 p.2)[k]? = some e → ∃ (n : Str) (q : Rat × Rat), d = .str n ∧ e = hpD q ∧ R_tel b [.str n] (hpD q) := fun {k d e} hd he => by
    unfold tsB at he
    rw [List.getElem?_map] at hd
    rw [List.getElem?_map, List.getElem?_map] at he
    obtain ⟨n, hn, rfl⟩ := Option.map_eq_some_iff.mp hd
    rw [hn] at he
    cases he
    obtain ⟨q, h1, h2, h3, h4, h5⟩ := key hb.hi (srtN_mem.mp (List.mem_of_getElem? hn))
    refine ⟨n, q, rfl, ?_, tel hb.sp h1 h2 h3 h4 h5⟩
    show hapD ((getH b.haps n).getD (0, 0)).1 ((getH b.haps n).getD (0, 0)).2 = hpD q
    rw [h1]
    rfl
  refine br_seq (bn_us (us := []) (bn_asg (N := fun s => s = [.raw (.ref pot), .raw (.ref x), .no, .d (hapsD (tsB b)), .no]) (x := hapsD (tsB b)) sW (eb_lcP (ds := (srtN (b.haps.map (·.1))).map Dt.str) (by rw [List.length_map, List.length_map]; unfold tsB; rw [List.length_map]) sW (eb_mq sW (fun G H h => h.1.r) rfl (by decide +kernel) (by decide +kernel) (by decide +kernel) (eba_ev ea_nil) (by exact ⟨rfl, by omega, rfl⟩)) (by rw [List.length_map]; omega) (fun k d e hd he => ?_)) rfl) (fun a ha => by cases ha)) ?_
  · obtain ⟨n, q, rfl, rfl, ht⟩ := el hd he
    exact eb_mq sW (fun G H h => h.1.r) rfl (by decide +kernel) (by decide +kernel) (by decide +kernel) (eba_ev (by walk_at "ea")) (by exact ht)
  rintro s rfl
  refine br_seq (N := fun s => ∃ q : Rat × Rat, Bq 90 q.1 ∧ Bq 4 q.2 ∧ s = [.raw (.ref pot), .raw (.ref x), .no, .d (hapsD (tsB b)), .d (hpD q)]) (bn_us (us := [pot]) (bn_ofIp (S := fun G H => BnAt K (ca 19) x p G H b) (fun G H G2 H2 h n => h.nxP n (by simpa using Ne.symm npx) (by simpa using Ne.symm npp)) (ip_asg1 (ep_callM rfl mem (epa_nil ⟨rfl, ?_⟩)))) (fun a ha => by simp at ha; simp [ha])) ?_
  · rintro _ ⟨t, r, rfl, bt, br, _⟩
    exact ⟨(t, r), bt, br, rfl⟩
  rintro s ⟨q, bq1, bq2, rfl⟩
  have na : ("a" : Str) ∉ b.haps.map (·.1) := fun z => by
    rw [hb.keys] at z
    obtain ⟨j, hj, e⟩ := List.mem_map.mp z
    exact (let_ok j (List.mem_range.mp hj)).2.2.1 e
  have mc : ("c" : Str) ∈ b.haps.map (·.1) := by
    rw [hb.keys, ← let_c]
    exact List.mem_map.mpr ⟨1, List.mem_range.mpr (by decide), rfl⟩
  have sb : SpB b := ⟨by omega, by omega, by rw [hb.sp]; exact sp_zero, by rw [hb.sp]; exact bq_zero.mono (by decide)⟩
  have tx : ∀ {s : Str}, s.length ≤ 90000 → s ≠ "q" → NmT (.str s) := fun h1 h2 => ⟨fun s e => by cases e; exact h1, fun e => h2 (by injection e)⟩
  have hq := hap_or bq1 bq2
  have ia : isNm (.str "a") = true := by decide +kernel
  have ic : isNm (.str "c") = true := by decide +kernel
  have ga : getX b.haps (.str "a") = none := getH_none na
  have r1 : refw b (.put (.str "a") (hpD q)) = some "many" := by
    show (if isNm (.str "a") = false then some ("name" : Str) else if isHp (hpD q) = false then some "hap" else if (!(getX b.haps (.str "a")).isSome && decide (b.haps.length = 12)) = true then some "many" else none) = some "many"
    rw [if_neg (by rw [ia]; intro z; cases z), if_neg (by rw [show isHp (hpD q) = true from isHp_hap _ _]; intro z; cases z), ga, hl]
    rfl
  have r2 : refw b (.put (.str "a") .non) = some "hap" := by
    show (if isNm (.str "a") = false then some ("name" : Str) else if isHp .non = false then some "hap" else if (!(getX b.haps (.str "a")).isSome && decide (b.haps.length = 12)) = true then some "many" else none) = some "hap"
    rw [if_neg (by rw [ia]; intro z; cases z)]
    rfl
  have r3 : refw b (.put (.str "c") (hpD q)) = none := by
    obtain ⟨qc, hc⟩ := getH_mem mc
    show (if isNm (.str "c") = false then some ("name" : Str) else if isHp (hpD q) = false then some "hap" else if (!(getX b.haps (.str "c")).isSome && decide (b.haps.length = 12)) = true then some "many" else none) = none
    rw [if_neg (by rw [ic]; intro z; cases z), if_neg (by rw [show isHp (hpD q) = true from isHp_hap _ _]; intro z; cases z), show getX b.haps (.str "c") = some qc from hc]
    rfl
  have keep : ∀ {b2 : Bst} (G H G2 H2 : Hp), BnAt K (ca 19) x p G H b ∧ Pots [pot] G H → NxP [x, p] G H G2 H2 → BnAt K (ca 19) x p G2 H2 b2 → BnAt K (ca 19) x p G2 H2 b2 ∧ Pots [pot] G2 H2 := fun G H G2 H2 h n h2 => ⟨h2, pots_keep h.2 n nin⟩
  have inu : x ∈ [pot, x, p] ∧ p ∈ [pot, x, p] := by simp
  refine br_opD (ed_bnD (b' := b) sW (fun G H h => h.1) rfl (ea_cons ev_str (ea_cons (ev_lst (ea_cons ev_str (ea_cons (ev_var rfl) ea_nil))) ea_nil)) (by exact ⟨.put (.str "a") (hpD q), rfl, ⟨tx (by decide +kernel) (by decide +kernel), hq.1, hq.2⟩, sb, by omega, .inl ⟨_, r1, rfl, rfl⟩⟩) inu keep) (ed_eb sW (eb_ev ev_str)) sW (r2_neSelf rfl rfl (by decide +kernel)) ?_
  refine br_opD (ed_bnD (b' := b) sW (fun G H h => h.1) rfl (ea_cons ev_str (ea_cons (ev_lst (ea_cons ev_str (ea_cons ev_non ea_nil))) ea_nil)) (by exact ⟨.put (.str "a") .non, rfl, ⟨tx (by decide +kernel) (by decide +kernel), ⟨fun a b e => (by cases e), fun a b e => (by cases e)⟩, fun z => (by cases z)⟩, sb, by omega, .inl ⟨_, r2, rfl, rfl⟩⟩) inu keep) (ed_eb sW (eb_ev ev_str)) sW (r2_neSelf rfl rfl (by decide +kernel)) ?_
  refine br_no sW (ebt_test (eb_op sW (eb_lcP (ds := (srtN (b.haps.map (·.1))).map Dt.str) (es := (tsB b).map fun o : Rat × Rat => hapD o.1 o.2) (by rw [List.length_map, List.length_map]; unfold tsB; rw [List.length_map]) sW (eb_mq sW (fun G H h => h.1.r) rfl (by decide +kernel) (by decide +kernel) (by decide +kernel) (eba_ev ea_nil) (by exact ⟨rfl, by omega, rfl⟩)) (by rw [List.length_map]; omega) (fun k d e hd he => ?_)) (eb_ev (ev_var rfl)) (r2_neSelf rfl hpt hst))) ?_
  · obtain ⟨n, q, rfl, rfl, ht⟩ := el hd he
    exact eb_mq sW (fun G H h => h.1.r) rfl (by decide +kernel) (by decide +kernel) (by decide +kernel) (eba_ev (by walk_at "ea")) (by exact ht)
  obtain ⟨b2, hb2⟩ : ∃ b2 : Bst, b2 = ⟨putH b.haps "c" q, b.speed, b.past ++ [(b.haps, b.speed)]⟩ := ⟨_, rfl⟩
  refine br_opD (S2 := fun G H => BnAt K (ca 19) x p G H b2 ∧ Pots [pot] G H) (ed_bnD (b' := b2) sW (fun G H h => h.1) rfl (ea_cons ev_str (ea_cons (ev_lst (ea_cons ev_str (ea_cons (ev_var rfl) ea_nil))) ea_nil)) (by exact ⟨.put (.str "c") (hpD q), rfl, ⟨tx (by decide +kernel) (by decide +kernel), hq.1, hq.2⟩, sb, by omega, .inr ⟨r3, rfl, "c", q, rfl, rfl, hb2⟩⟩) inu keep) (ed_eb sW (eb_ev ev_non)) sW (by exact r2_notN) ?_
  have k2 : b2.haps.map (·.1) = b.haps.map (·.1) := by rw [hb2]; exact keys_put mc
  have l2 : b2.haps.length = 12 := by
    have := congrArg List.length k2
    rwa [List.length_map, List.length_map, hl] at this
  have g2 : getH b2.haps "c" = some q := by rw [hb2]; exact getH_put _ _ _
  have s2 : b2.speed = 0 := by rw [hb2]; exact hb.sp
  have hq4 : Bq 400 q.1 ∧ Bq 400 q.2 := ⟨bq1.mono (by decide), bq2.mono (by decide)⟩
  refine br_retW (fun G H G2 H2 h n => h.2.nx n) (eb_is (eb_andV (a := true) (b := true) sW (eb_is (eb_op sW (eb_mq sW (fun G H h => h.1.r) rfl (by decide +kernel) (by decide +kernel) (by decide +kernel) (eba_ev (ea_cons ev_str ea_nil)) (by exact tel s2 g2 ic (by decide +kernel) hq4.1 hq4.2)) (eb_ev (ev_var rfl)) (by exact r2_eqH)) (by rw [decide_eq_true (show q.1 = q.1 ∧ q.2 = q.2 from ⟨rfl, rfl⟩)])) (fun _ => eb_is (eb_op sW (eb_cb (eba_cons sW (eb_mq sW (fun G H h => h.1.r) rfl (by decide +kernel) (by decide +kernel) (by decide +kernel) (eba_ev ea_nil) (by exact ⟨rfl, by omega, rfl⟩)) (eba_ev ea_nil)) rc_lenL) (eb_ev ev_int) r2_eqI) ?_)) rfl)
  rw [List.length_map, srtN_len, List.length_map, l2]
  rfl
def R_law (ds : List Dt) (d : Dt) : Prop := ∃ ns : List Int, ds = [.lst (ns.map Dt.int)] ∧ ns.length ≤ 63 ∧ d = .bl true
theorem law_sp {K : PySem.W.Frag} {H : Hp} {a : Addr} {ns : List Int} {E : XK} (hl : ns.length ≤ 63) (hS : SqL K H a (ns.map V.int)) : spP K R_law [.ref a] H (fun v _ => v = .bl true) E :=
  ⟨_, _, H, Ex.refl H, .cons (.lst hS (rps_ints ns)) .nil, ⟨ns, rfl, hl, rfl⟩, fun v G2 H2 _ r => by
    cases r
    rfl⟩
theorem h_law (T : Txt K mg ca fa ka) {f : Addr} {fd : FuncData} (F : Fun K "law" "law" s_law f fd) : FnOk P w K mg base CX0 13 f fd ["_law_script"] (spP K R_law) := by
  refine fn_pure F sc_law (fun ds d h => by obtain ⟨x, rfl, _⟩ := h; rfl) (fun f cdv A outer s H E hr => (pss_cons (ps_set (i := 1) sc_law.nd rfl (Or.inl rfl) (pe_mkB (h_Bench___init__ T) T.c_Bench hr (by decide))) (pss_cons (ps_set (i := 2) sc_law.nd rfl (Or.inl rfl) (pe_h0 (h__law_fresh T) hr (by decide) pass0)) (pss_cons (ps_for PassesOwn.never rfl (pi_range1 rfl T.m_range (pa_cons (pe_callB (cr_max rfl) (by rfl) T.m_max (by decide +kernel) (pa_cons pe_int (pa_cons (pe_callB (cr_min rfl) (by rfl) T.m_min (by decide +kernel) (pa_cons (pe_callB (lenK (K := K) rfl) (by rfl) T.m_len (by decide +kernel) (pa_cons (pv 0) pa_nil)) (pa_cons pe_int pa_nil))) pa_nil))) pa_nil)) (pg_name (i := 3) sc_law.nd rfl (Or.inl rfl)) (pss_cons (ps_set (i := 4) sc_law.nd rfl (Or.inl rfl) (pe_h (h__law_pot T) hr (by decide) pass0 (pa_cons (pe_h (h__law_cell_at T) hr (by decide) pass0 (pa_cons (pv 0) (pa_cons (pv 3) pa_nil))) pa_nil))) (pss_cons (ps_asg (pe_h (h__law_deed T) hr (by decide) pass0 (pa_cons (pv 4) pa_nil)) (tupK (K := K) (n := 2) rfl rfl (pgs_cons (pg_name (i := 5) sc_law.nd rfl (Or.inl rfl)) (pgs_cons (pg_name (i := 6) sc_law.nd rfl (Or.inl rfl)) pgs_nil)))) (pss_cons (ps_if (pt_cmpR (neK (K := K) rfl hr.units) (pe_h (h__law_done T) hr (by decide) pass0 (pa_cons (pv 1) (pa_cons (pv 5) (pa_cons (pv 6) pa_nil)))) (pe_h (h__law_kept T) hr (by decide) pass0 (pa_cons (pv 2) (pa_cons (pv 5) (pa_cons (pv 6) pa_nil)))) (nomark _)) (pss_one (ps_ret pe_bl)) pss_nil) (pss_one (ps_if (pt_not (pt_val (pe_h (h__law_words_right T) hr (by decide) pass0 (pa_cons (pv 4) (pa_cons (pv 1) (pa_cons (pv 2) pa_nil)))))) (pss_one (ps_ret pe_bl)) pss_nil)))))) (pss_one (ps_ret (pe_h (h__law_full_right T) hr (by decide) pass0 (pa_cons (pe_h (h__law_pot T) hr (by decide) pass0 (pa_cons (pe_h (h__law_cell_at T) hr (by decide) pass0 (pa_cons (pv 0) (pa_cons pe_int pa_nil))) pa_nil)) pa_nil)))))))) ?_
  rintro ds d ⟨ns, rfl, hns, rfl⟩

  refine rt_makeB fun x p nxp => ?_
  refine br_fresh (us := [x, p]) stb_bn (fun G H h a ha => ?_) fun y p2 hy hp2 nyp => ?_
  · obtain ⟨dx, a0, s, pv, h1, _, _, h4, _⟩ := h.ex
    simp only [List.mem_cons, List.not_mem_nil, or_false] at ha
    rcases ha with rfl | rfl
    · rw [h1]; intro z; cases z
    · rw [h4]; intro z; cases z
  have ny : y ≠ x ∧ y ≠ p := by simpa using hy
  have np2 : p2 ≠ x ∧ p2 ≠ p := by simpa using hp2
  obtain ⟨W, hW⟩ : ∃ W : Nat → Hp → Hp → Prop, W = fun k G H => (∃ b, PI k b ∧ (BnAt K (ca 19) x p G H b ∧ SoAt K y p2 G H b)) ∧ True := ⟨_, rfl⟩
  have sWk : ∀ k, Stb (W k) := fun k G H G2 H2 h n => by
    rw [hW] at h ⊢
    obtain ⟨⟨b, h1, h2, h3⟩, _⟩ := h
    exact ⟨⟨b, h1, h2.nx n, h3.nx n⟩, trivial⟩
  refine br_w (S1 := W 0) ?_ (fun G H h => by rw [hW]; exact ⟨⟨_, pi_zero, h⟩, trivial⟩)
  refine br_seq (N := fun s => s = [.d (.lst (ns.map Dt.int)), .raw (.ref x), .raw (.ref y), .no, .no, .no, .no]) (bn_forR (S := W) (n := max 1 (min (ns.length : Int) 25)) (ea_cons (ev_is (ev_cb (ea_cons ev_int (ea_cons (ev_cb (ea_cons (ev_cb (ea_cons (ev_var rfl) ea_nil) rc_lenL) (ea_cons ev_int ea_nil)) rc_min) ea_nil)) rc_max) (by rw [List.length_map])) ea_nil) (by omega) (sWk 0) fun k hk => ?_) ?_
  · have hk : k < 25 := by omega
    refine br_bn (S1 := fun G H => (∃ b, PI k b ∧ (BnAt K (ca 19) x p G H b ∧ SoAt K y p2 G H b)) ∧ True) (fun G H h => by rw [hW] at h; exact h) ?_
    refine bn_some (S := fun b G H => BnAt K (ca 19) x p G H b ∧ SoAt K y p2 G H b) (T := fun _ _ => True) fun b hb => ?_
    have sS : ∀ {b1 b2 : Bst}, Stb fun G H => (BnAt K (ca 19) x p G H b1 ∧ SoAt K y p2 G H b2) ∧ True := fun {b1 b2} G H G2 H2 h n => ⟨⟨h.1.1.nx n, h.1.2.nx n⟩, trivial⟩
    refine bn_pot sS (fun G H h a ha => ?_) (by walk_at "ea") (by exact ⟨_, rfl⟩) fun pot hpot => ?_
    · obtain ⟨dx, a0, s, pv, h1, _, _, h4, _⟩ := h.1.1.ex
      obtain ⟨a1, s1, pv1, h5, _, _, h6, _⟩ := h.1.2.ex
      simp only [List.mem_cons, List.not_mem_nil, or_false] at ha
      rcases ha with rfl | rfl | rfl | rfl
      · rw [h5]; intro z; cases z
      · rw [h6]; intro z; cases z
      · rw [h1]; intro z; cases z
      · rw [h4]; intro z; cases z
    have hpt : pot ≠ y ∧ pot ≠ p2 ∧ pot ≠ x ∧ pot ≠ p := by simpa using hpot
    obtain ⟨q1, q2, q3, q4⟩ := hpt
    have mem : pot ∈ [pot] := by simp
    have sP : ∀ {b1 b2 : Bst}, Stb fun G H => ((BnAt K (ca 19) x p G H b1 ∧ SoAt K y p2 G H b2) ∧ True) ∧ Pots [pot] G H := fun {b1 b2} => stb_pot sS
    refine bn_seq (M := fun s => ∃ de : Deed, DeedOk de ∧ s = [.d (.lst (ns.map Dt.int)), .raw (.ref x), .raw (.ref y), .d (.int k), .raw (.ref pot), .d (.str de.w), .d (.lst de.t)]) (bn_us (us := [pot]) (bn_ofIp (S := fun G H => (BnAt K (ca 19) x p G H b ∧ SoAt K y p2 G H b) ∧ True) (fun G H G2 H2 h n => ⟨⟨h.1.1.nxP n (by simpa using Ne.symm q3) (by simpa using Ne.symm q4), h.1.2.nxP n (by simpa using Ne.symm q1) (by simpa using Ne.symm q2)⟩, trivial⟩) (ip_unp1 (ep_callM rfl mem (epa_nil ⟨rfl, ?_⟩)))) (fun a ha => by simp at ha; simp [ha])) ?_
    · rintro _ ⟨de, rfl, ok⟩
      exact ⟨_, _, rfl, de, ok, rfl⟩
    rintro s ⟨de, ok, rfl⟩
    obtain ⟨d, b', hd⟩ := done_ex (b := b) ok
    obtain ⟨pd, hpd, hsd⟩ := done_sh ok hd
    have hb' := pi_step hb ok hd
    have sb := hb.sb (by omega)
    refine bn_seq (M := fun s => s = [.d (.lst (ns.map Dt.int)), .raw (.ref x), .raw (.ref y), .d (.int k), .raw (.ref pot), .d (.str de.w), .d (.lst de.t)]) (bn_opD (S1 := fun G H => ((BnAt K (ca 19) x p G H b' ∧ SoAt K y p2 G H b) ∧ True) ∧ Pots [pot] G H) (S2 := fun G H => ((BnAt K (ca 19) x p G H b' ∧ SoAt K y p2 G H b') ∧ True) ∧ Pots [pot] G H)
      (ed_bnD (b' := b') sP (fun G H h => h.1.1.1) rfl (by walk_at "ea") (by exact ⟨de, rfl, ok, sb, hb.now.le, hd⟩) (by simp) (fun G H G2 H2 h n h2 => ⟨⟨⟨h2, h.1.1.2.nxP n (by simpa using ny) (by simpa using np2)⟩, trivial⟩, pots_keep h.2 n (by simp [q3, q4])⟩))
      (ed_stD (b' := b') sP (fun G H h => h.1.1.2) rfl (by walk_at "ea") (by exact ⟨de, rfl, ok, sb, hd⟩) (by simp) (fun G H G2 H2 h n h2 => ⟨⟨⟨h.1.1.1.nxP n (by simp [Ne.symm ny.1, Ne.symm np2.1]) (by simp [Ne.symm ny.2, Ne.symm np2.2]), h2⟩, trivial⟩, pots_keep h.2 n (by simp [q1, q2])⟩)) sP (r2_neSelf rfl hpd hsd) rfl) ?_
    rintro s rfl
    exact bn_notD (ed_wr (b := b') (fun G H h => h.2) (fun G H h => h.1.1.1.r) (fun G H h => h.1.1.2) rfl rfl rfl ⟨q3, q1, q2⟩ hb'.now.hi hb'.now.le (by simp) (fun G H G2 H2 h n => by
      rw [hW]
      exact ⟨⟨b', hb', h.1.1.1.nxP n (by simpa using Ne.symm q3) (by simpa using Ne.symm q4), h.1.1.2.nxP n (by simpa using Ne.symm q1) (by simpa using Ne.symm q2)⟩, trivial⟩)) (by walk_at "wk")
  rintro s rfl
  exact br_retW (fun _ _ _ _ _ _ => trivial) (eb_lastpot (by walk_at "ea") (by exact ⟨_, rfl⟩) rfl (fun x h => h))
end
/-- the law over what the top has left -/
theorem all_mk {l : PySem.W.OpenLaw} {w : World} {K : PySem.W.Frag} {h : Heap} {mg : Str → Option Value} {fa : Addr} (X : K.In h) (G : h.Ns mainGlobals mg) (hfa : mg "law" = some (.ref fa))
    {C19 : Addr}
    {f0 : Addr} {od0 an0 : Option Addr} {sl0 : Array (Option Value)} {oc0 kV0 dc0 pm0 cd0 ct0 : Value}
    (a0 : PySem.W.nsIn K mainGlobals "is_whole" = some (some (.ref f0))) (l0 : K.lookup f0 = some ⟨oc0, od0, .func (PySem.W.fnOf "is_whole" "is_whole" (defArgs s_is_whole) (defBody s_is_whole) (defScope s_is_whole) .none kV0 dc0 pm0 an0 cd0 ct0), sl0⟩) (c0 : PySem.W.codeIn K cd0 "is_whole" = true) (k0 : PySem.W.keepIn K (.ref f0) = true)
    {f1 : Addr} {od1 an1 : Option Addr} {sl1 : Array (Option Value)} {oc1 kV1 dc1 pm1 cd1 ct1 : Value}
    (a1 : PySem.W.nsIn K mainGlobals "is_fraction" = some (some (.ref f1))) (l1 : K.lookup f1 = some ⟨oc1, od1, .func (PySem.W.fnOf "is_fraction" "is_fraction" (defArgs s_is_fraction) (defBody s_is_fraction) (defScope s_is_fraction) .none kV1 dc1 pm1 an1 cd1 ct1), sl1⟩) (c1 : PySem.W.codeIn K cd1 "is_fraction" = true) (k1 : PySem.W.keepIn K (.ref f1) = true)
    {f2 : Addr} {od2 an2 : Option Addr} {sl2 : Array (Option Value)} {oc2 kV2 dc2 pm2 cd2 ct2 : Value}
    (a2 : PySem.W.nsIn K mainGlobals "fraction" = some (some (.ref f2))) (l2 : K.lookup f2 = some ⟨oc2, od2, .func (PySem.W.fnOf "fraction" "fraction" (defArgs s_fraction) (defBody s_fraction) (defScope s_fraction) .none kV2 dc2 pm2 an2 cd2 ct2), sl2⟩) (c2 : PySem.W.codeIn K cd2 "fraction" = true) (k2 : PySem.W.keepIn K (.ref f2) = true)
    {f3 : Addr} {od3 an3 : Option Addr} {sl3 : Array (Option Value)} {oc3 kV3 dc3 pm3 cd3 ct3 : Value}
    (a3 : PySem.W.nsIn K mainGlobals "plus" = some (some (.ref f3))) (l3 : K.lookup f3 = some ⟨oc3, od3, .func (PySem.W.fnOf "plus" "plus" (defArgs s_plus) (defBody s_plus) (defScope s_plus) .none kV3 dc3 pm3 an3 cd3 ct3), sl3⟩) (c3 : PySem.W.codeIn K cd3 "plus" = true) (k3 : PySem.W.keepIn K (.ref f3) = true)
    {f4 : Addr} {od4 an4 : Option Addr} {sl4 : Array (Option Value)} {oc4 kV4 dc4 pm4 cd4 ct4 : Value}
    (a4 : PySem.W.nsIn K mainGlobals "less" = some (some (.ref f4))) (l4 : K.lookup f4 = some ⟨oc4, od4, .func (PySem.W.fnOf "less" "less" (defArgs s_less) (defBody s_less) (defScope s_less) .none kV4 dc4 pm4 an4 cd4 ct4), sl4⟩) (c4 : PySem.W.codeIn K cd4 "less" = true) (k4 : PySem.W.keepIn K (.ref f4) = true)
    {f5 : Addr} {od5 an5 : Option Addr} {sl5 : Array (Option Value)} {oc5 kV5 dc5 pm5 cd5 ct5 : Value}
    (a5 : PySem.W.nsIn K mainGlobals "times" = some (some (.ref f5))) (l5 : K.lookup f5 = some ⟨oc5, od5, .func (PySem.W.fnOf "times" "times" (defArgs s_times) (defBody s_times) (defScope s_times) .none kV5 dc5 pm5 an5 cd5 ct5), sl5⟩) (c5 : PySem.W.codeIn K cd5 "times" = true) (k5 : PySem.W.keepIn K (.ref f5) = true)
    {f6 : Addr} {od6 an6 : Option Addr} {sl6 : Array (Option Value)} {oc6 kV6 dc6 pm6 cd6 ct6 : Value}
    (a6 : PySem.W.nsIn K mainGlobals "by" = some (some (.ref f6))) (l6 : K.lookup f6 = some ⟨oc6, od6, .func (PySem.W.fnOf "by" "by" (defArgs s_by) (defBody s_by) (defScope s_by) .none kV6 dc6 pm6 an6 cd6 ct6), sl6⟩) (c6 : PySem.W.codeIn K cd6 "by" = true) (k6 : PySem.W.keepIn K (.ref f6) = true)
    {f7 : Addr} {od7 an7 : Option Addr} {sl7 : Array (Option Value)} {oc7 kV7 dc7 pm7 cd7 ct7 : Value}
    (a7 : PySem.W.nsIn K mainGlobals "is_less" = some (some (.ref f7))) (l7 : K.lookup f7 = some ⟨oc7, od7, .func (PySem.W.fnOf "is_less" "is_less" (defArgs s_is_less) (defBody s_is_less) (defScope s_is_less) .none kV7 dc7 pm7 an7 cd7 ct7), sl7⟩) (c7 : PySem.W.codeIn K cd7 "is_less" = true) (k7 : PySem.W.keepIn K (.ref f7) = true)
    {f8 : Addr} {od8 an8 : Option Addr} {sl8 : Array (Option Value)} {oc8 kV8 dc8 pm8 cd8 ct8 : Value}
    (a8 : PySem.W.nsIn K mainGlobals "rising" = some (some (.ref f8))) (l8 : K.lookup f8 = some ⟨oc8, od8, .func (PySem.W.fnOf "rising" "rising" (defArgs s_rising) (defBody s_rising) (defScope s_rising) .none kV8 dc8 pm8 an8 cd8 ct8), sl8⟩) (c8 : PySem.W.codeIn K cd8 "rising" = true) (k8 : PySem.W.keepIn K (.ref f8) = true)
    {f9 : Addr} {od9 an9 : Option Addr} {sl9 : Array (Option Value)} {oc9 kV9 dc9 pm9 cd9 ct9 : Value}
    (a9 : PySem.W.nsIn K mainGlobals "root_of" = some (some (.ref f9))) (l9 : K.lookup f9 = some ⟨oc9, od9, .func (PySem.W.fnOf "root_of" "root_of" (defArgs s_root_of) (defBody s_root_of) (defScope s_root_of) .none kV9 dc9 pm9 an9 cd9 ct9), sl9⟩) (c9 : PySem.W.codeIn K cd9 "root_of" = true) (k9 : PySem.W.keepIn K (.ref f9) = true)
    {f10 : Addr} {od10 an10 : Option Addr} {sl10 : Array (Option Value)} {oc10 kV10 dc10 pm10 cd10 ct10 : Value}
    (a10 : PySem.W.nsIn K mainGlobals "is_hap" = some (some (.ref f10))) (l10 : K.lookup f10 = some ⟨oc10, od10, .func (PySem.W.fnOf "is_hap" "is_hap" (defArgs s_is_hap) (defBody s_is_hap) (defScope s_is_hap) .none kV10 dc10 pm10 an10 cd10 ct10), sl10⟩) (c10 : PySem.W.codeIn K cd10 "is_hap" = true) (k10 : PySem.W.keepIn K (.ref f10) = true)
    {f11 : Addr} {od11 an11 : Option Addr} {sl11 : Array (Option Value)} {oc11 kV11 dc11 pm11 cd11 ct11 : Value}
    (a11 : PySem.W.nsIn K mainGlobals "is_speed" = some (some (.ref f11))) (l11 : K.lookup f11 = some ⟨oc11, od11, .func (PySem.W.fnOf "is_speed" "is_speed" (defArgs s_is_speed) (defBody s_is_speed) (defScope s_is_speed) .none kV11 dc11 pm11 an11 cd11 ct11), sl11⟩) (c11 : PySem.W.codeIn K cd11 "is_speed" = true) (k11 : PySem.W.keepIn K (.ref f11) = true)
    {f12 : Addr} {od12 an12 : Option Addr} {sl12 : Array (Option Value)} {oc12 kV12 dc12 pm12 cd12 ct12 : Value}
    (a12 : PySem.W.nsIn K mainGlobals "check_speed" = some (some (.ref f12))) (l12 : K.lookup f12 = some ⟨oc12, od12, .func (PySem.W.fnOf "check_speed" "check_speed" (defArgs s_check_speed) (defBody s_check_speed) (defScope s_check_speed) .none kV12 dc12 pm12 an12 cd12 ct12), sl12⟩) (c12 : PySem.W.codeIn K cd12 "check_speed" = true) (k12 : PySem.W.keepIn K (.ref f12) = true)
    {f13 : Addr} {od13 an13 : Option Addr} {sl13 : Array (Option Value)} {oc13 kV13 dc13 pm13 cd13 ct13 : Value}
    (a13 : PySem.W.nsIn K mainGlobals "together" = some (some (.ref f13))) (l13 : K.lookup f13 = some ⟨oc13, od13, .func (PySem.W.fnOf "together" "together" (defArgs s_together) (defBody s_together) (defScope s_together) .none kV13 dc13 pm13 an13 cd13 ct13), sl13⟩) (c13 : PySem.W.codeIn K cd13 "together" = true) (k13 : PySem.W.keepIn K (.ref f13) = true)
    {f14 : Addr} {od14 an14 : Option Addr} {sl14 : Array (Option Value)} {oc14 kV14 dc14 pm14 cd14 ct14 : Value}
    (a14 : PySem.W.nsIn K mainGlobals "beat_or_none" = some (some (.ref f14))) (l14 : K.lookup f14 = some ⟨oc14, od14, .func (PySem.W.fnOf "beat_or_none" "beat_or_none" (defArgs s_beat_or_none) (defBody s_beat_or_none) (defScope s_beat_or_none) .none kV14 dc14 pm14 an14 cd14 ct14), sl14⟩) (c14 : PySem.W.codeIn K cd14 "beat_or_none" = true) (k14 : PySem.W.keepIn K (.ref f14) = true)
    {f15 : Addr} {od15 an15 : Option Addr} {sl15 : Array (Option Value)} {oc15 kV15 dc15 pm15 cd15 ct15 : Value}
    (a15 : PySem.W.nsIn K mainGlobals "is_plain" = some (some (.ref f15))) (l15 : K.lookup f15 = some ⟨oc15, od15, .func (PySem.W.fnOf "is_plain" "is_plain" (defArgs s_is_plain) (defBody s_is_plain) (defScope s_is_plain) .none kV15 dc15 pm15 an15 cd15 ct15), sl15⟩) (c15 : PySem.W.codeIn K cd15 "is_plain" = true) (k15 : PySem.W.keepIn K (.ref f15) = true)
    {f16 : Addr} {od16 an16 : Option Addr} {sl16 : Array (Option Value)} {oc16 kV16 dc16 pm16 cd16 ct16 : Value}
    (a16 : PySem.W.nsIn K mainGlobals "check_plain" = some (some (.ref f16))) (l16 : K.lookup f16 = some ⟨oc16, od16, .func (PySem.W.fnOf "check_plain" "check_plain" (defArgs s_check_plain) (defBody s_check_plain) (defScope s_check_plain) .none kV16 dc16 pm16 an16 cd16 ct16), sl16⟩) (c16 : PySem.W.codeIn K cd16 "check_plain" = true) (k16 : PySem.W.keepIn K (.ref f16) = true)
    {f17 : Addr} {od17 an17 : Option Addr} {sl17 : Array (Option Value)} {oc17 kV17 dc17 pm17 cd17 ct17 : Value}
    (a17 : PySem.W.nsIn K mainGlobals "beat_of" = some (some (.ref f17))) (l17 : K.lookup f17 = some ⟨oc17, od17, .func (PySem.W.fnOf "beat_of" "beat_of" (defArgs s_beat_of) (defBody s_beat_of) (defScope s_beat_of) .none kV17 dc17 pm17 an17 cd17 ct17), sl17⟩) (c17 : PySem.W.codeIn K cd17 "beat_of" = true) (k17 : PySem.W.keepIn K (.ref f17) = true)
    {f18 : Addr} {od18 an18 : Option Addr} {sl18 : Array (Option Value)} {oc18 kV18 dc18 pm18 cd18 ct18 : Value}
    (a18 : PySem.W.nsIn K mainGlobals "lapse_and_gap" = some (some (.ref f18))) (l18 : K.lookup f18 = some ⟨oc18, od18, .func (PySem.W.fnOf "lapse_and_gap" "lapse_and_gap" (defArgs s_lapse_and_gap) (defBody s_lapse_and_gap) (defScope s_lapse_and_gap) .none kV18 dc18 pm18 an18 cd18 ct18), sl18⟩) (c18 : PySem.W.codeIn K cd18 "lapse_and_gap" = true) (k18 : PySem.W.keepIn K (.ref f18) = true)
    {f19 : Addr} {od19 an19 : Option Addr} {sl19 : Array (Option Value)} {oc19 kV19 dc19 pm19 cd19 ct19 : Value}
    (a19 : PySem.W.nsIn K mainGlobals "kind_of" = some (some (.ref f19))) (l19 : K.lookup f19 = some ⟨oc19, od19, .func (PySem.W.fnOf "kind_of" "kind_of" (defArgs s_kind_of) (defBody s_kind_of) (defScope s_kind_of) .none kV19 dc19 pm19 an19 cd19 ct19), sl19⟩) (c19 : PySem.W.codeIn K cd19 "kind_of" = true) (k19 : PySem.W.keepIn K (.ref f19) = true)
    {f20 : Addr} {od20 an20 : Option Addr} {sl20 : Array (Option Value)} {oc20 kV20 dc20 pm20 cd20 ct20 : Value}
    (a20 : PySem.W.nsIn K mainGlobals "standing" = some (some (.ref f20))) (l20 : K.lookup f20 = some ⟨oc20, od20, .func (PySem.W.fnOf "standing" "standing" (defArgs s_standing) (defBody s_standing) (defScope s_standing) .none kV20 dc20 pm20 an20 cd20 ct20), sl20⟩) (c20 : PySem.W.codeIn K cd20 "standing" = true) (k20 : PySem.W.keepIn K (.ref f20) = true)
    {f21 : Addr} {od21 an21 : Option Addr} {sl21 : Array (Option Value)} {oc21 kV21 dc21 pm21 cd21 ct21 : Value}
    (a21 : PySem.W.nsIn K mainGlobals "is_seat" = some (some (.ref f21))) (l21 : K.lookup f21 = some ⟨oc21, od21, .func (PySem.W.fnOf "is_seat" "is_seat" (defArgs s_is_seat) (defBody s_is_seat) (defScope s_is_seat) .none kV21 dc21 pm21 an21 cd21 ct21), sl21⟩) (c21 : PySem.W.codeIn K cd21 "is_seat" = true) (k21 : PySem.W.keepIn K (.ref f21) = true)
    {f22 : Addr} {od22 an22 : Option Addr} {sl22 : Array (Option Value)} {oc22 kV22 dc22 pm22 cd22 ct22 : Value}
    (a22 : PySem.W.nsIn K mainGlobals "check_seat" = some (some (.ref f22))) (l22 : K.lookup f22 = some ⟨oc22, od22, .func (PySem.W.fnOf "check_seat" "check_seat" (defArgs s_check_seat) (defBody s_check_seat) (defScope s_check_seat) .none kV22 dc22 pm22 an22 cd22 ct22), sl22⟩) (c22 : PySem.W.codeIn K cd22 "check_seat" = true) (k22 : PySem.W.keepIn K (.ref f22) = true)
    {f23 : Addr} {od23 an23 : Option Addr} {sl23 : Array (Option Value)} {oc23 kV23 dc23 pm23 cd23 ct23 : Value}
    (a23 : PySem.W.nsIn K mainGlobals "check_hap" = some (some (.ref f23))) (l23 : K.lookup f23 = some ⟨oc23, od23, .func (PySem.W.fnOf "check_hap" "check_hap" (defArgs s_check_hap) (defBody s_check_hap) (defScope s_check_hap) .none kV23 dc23 pm23 an23 cd23 ct23), sl23⟩) (c23 : PySem.W.codeIn K cd23 "check_hap" = true) (k23 : PySem.W.keepIn K (.ref f23) = true)
    {f24 : Addr} {od24 an24 : Option Addr} {sl24 : Array (Option Value)} {oc24 kV24 dc24 pm24 cd24 ct24 : Value}
    (a24 : PySem.W.nsIn K mainGlobals "seen_from" = some (some (.ref f24))) (l24 : K.lookup f24 = some ⟨oc24, od24, .func (PySem.W.fnOf "seen_from" "seen_from" (defArgs s_seen_from) (defBody s_seen_from) (defScope s_seen_from) .none kV24 dc24 pm24 an24 cd24 ct24), sl24⟩) (c24 : PySem.W.codeIn K cd24 "seen_from" = true) (k24 : PySem.W.keepIn K (.ref f24) = true)
    {f25 : Addr} {od25 an25 : Option Addr} {sl25 : Array (Option Value)} {oc25 kV25 dc25 pm25 cd25 ct25 : Value}
    (a25 : PySem.W.nsIn K mainGlobals "told_from" = some (some (.ref f25))) (l25 : K.lookup f25 = some ⟨oc25, od25, .func (PySem.W.fnOf "told_from" "told_from" (defArgs s_told_from) (defBody s_told_from) (defScope s_told_from) .none kV25 dc25 pm25 an25 cd25 ct25), sl25⟩) (c25 : PySem.W.codeIn K cd25 "told_from" = true) (k25 : PySem.W.keepIn K (.ref f25) = true)
    {f26 : Addr} {od26 an26 : Option Addr} {sl26 : Array (Option Value)} {oc26 kV26 dc26 pm26 cd26 ct26 : Value}
    (a26 : PySem.W.nsIn K mainGlobals "is_name" = some (some (.ref f26))) (l26 : K.lookup f26 = some ⟨oc26, od26, .func (PySem.W.fnOf "is_name" "is_name" (defArgs s_is_name) (defBody s_is_name) (defScope s_is_name) .none kV26 dc26 pm26 an26 cd26 ct26), sl26⟩) (c26 : PySem.W.codeIn K cd26 "is_name" = true) (k26 : PySem.W.keepIn K (.ref f26) = true)
    {f27 : Addr} {od27 an27 : Option Addr} {sl27 : Array (Option Value)} {oc27 kV27 dc27 pm27 cd27 ct27 : Value}
    (a27 : PySem.W.findIn K (.ref C19) "__init__" = some (some (.ref f27))) (i27 : PySem.W.isFn K (.ref f27) = true) (l27 : K.lookup f27 = some ⟨oc27, od27, .func (PySem.W.fnOf "__init__" "Bench.__init__" (defArgs s_Bench___init__) (defBody s_Bench___init__) (defScope s_Bench___init__) .none kV27 dc27 pm27 an27 cd27 ct27), sl27⟩) (c27 : PySem.W.codeIn K cd27 "Bench.__init__" = true) (k27 : PySem.W.keepIn K (.ref f27) = true)
    {f28 : Addr} {od28 an28 : Option Addr} {sl28 : Array (Option Value)} {oc28 kV28 dc28 pm28 cd28 ct28 : Value}
    (a28 : PySem.W.findIn K (.ref C19) "_do" = some (some (.ref f28))) (i28 : PySem.W.isFn K (.ref f28) = true) (l28 : K.lookup f28 = some ⟨oc28, od28, .func (PySem.W.fnOf "_do" "Bench._do" (defArgs s_Bench__do) (defBody s_Bench__do) (defScope s_Bench__do) .none kV28 dc28 pm28 an28 cd28 ct28), sl28⟩) (c28 : PySem.W.codeIn K cd28 "Bench._do" = true) (k28 : PySem.W.keepIn K (.ref f28) = true)
    {f29 : Addr} {od29 an29 : Option Addr} {sl29 : Array (Option Value)} {oc29 kV29 dc29 pm29 cd29 ct29 : Value}
    (a29 : PySem.W.findIn K (.ref C19) "put" = some (some (.ref f29))) (i29 : PySem.W.isFn K (.ref f29) = true) (l29 : K.lookup f29 = some ⟨oc29, od29, .func (PySem.W.fnOf "put" "Bench.put" (defArgs s_Bench_put) (defBody s_Bench_put) (defScope s_Bench_put) .none kV29 dc29 pm29 an29 cd29 ct29), sl29⟩) (c29 : PySem.W.codeIn K cd29 "Bench.put" = true) (k29 : PySem.W.keepIn K (.ref f29) = true)
    {f30 : Addr} {od30 an30 : Option Addr} {sl30 : Array (Option Value)} {oc30 kV30 dc30 pm30 cd30 ct30 : Value}
    (a30 : PySem.W.findIn K (.ref C19) "_hap_of" = some (some (.ref f30))) (i30 : PySem.W.isFn K (.ref f30) = true) (l30 : K.lookup f30 = some ⟨oc30, od30, .func (PySem.W.fnOf "_hap_of" "Bench._hap_of" (defArgs s_Bench__hap_of) (defBody s_Bench__hap_of) (defScope s_Bench__hap_of) .none kV30 dc30 pm30 an30 cd30 ct30), sl30⟩) (c30 : PySem.W.codeIn K cd30 "Bench._hap_of" = true) (k30 : PySem.W.keepIn K (.ref f30) = true)
    {f31 : Addr} {od31 an31 : Option Addr} {sl31 : Array (Option Value)} {oc31 kV31 dc31 pm31 cd31 ct31 : Value}
    (a31 : PySem.W.findIn K (.ref C19) "drop" = some (some (.ref f31))) (i31 : PySem.W.isFn K (.ref f31) = true) (l31 : K.lookup f31 = some ⟨oc31, od31, .func (PySem.W.fnOf "drop" "Bench.drop" (defArgs s_Bench_drop) (defBody s_Bench_drop) (defScope s_Bench_drop) .none kV31 dc31 pm31 an31 cd31 ct31), sl31⟩) (c31 : PySem.W.codeIn K cd31 "Bench.drop" = true) (k31 : PySem.W.keepIn K (.ref f31) = true)
    {f32 : Addr} {od32 an32 : Option Addr} {sl32 : Array (Option Value)} {oc32 kV32 dc32 pm32 cd32 ct32 : Value}
    (a32 : PySem.W.findIn K (.ref C19) "turn" = some (some (.ref f32))) (i32 : PySem.W.isFn K (.ref f32) = true) (l32 : K.lookup f32 = some ⟨oc32, od32, .func (PySem.W.fnOf "turn" "Bench.turn" (defArgs s_Bench_turn) (defBody s_Bench_turn) (defScope s_Bench_turn) .none kV32 dc32 pm32 an32 cd32 ct32), sl32⟩) (c32 : PySem.W.codeIn K cd32 "Bench.turn" = true) (k32 : PySem.W.keepIn K (.ref f32) = true)
    {f33 : Addr} {od33 an33 : Option Addr} {sl33 : Array (Option Value)} {oc33 kV33 dc33 pm33 cd33 ct33 : Value}
    (a33 : PySem.W.findIn K (.ref C19) "push" = some (some (.ref f33))) (i33 : PySem.W.isFn K (.ref f33) = true) (l33 : K.lookup f33 = some ⟨oc33, od33, .func (PySem.W.fnOf "push" "Bench.push" (defArgs s_Bench_push) (defBody s_Bench_push) (defScope s_Bench_push) .none kV33 dc33 pm33 an33 cd33 ct33), sl33⟩) (c33 : PySem.W.codeIn K cd33 "Bench.push" = true) (k33 : PySem.W.keepIn K (.ref f33) = true)
    {f34 : Addr} {od34 an34 : Option Addr} {sl34 : Array (Option Value)} {oc34 kV34 dc34 pm34 cd34 ct34 : Value}
    (a34 : PySem.W.findIn K (.ref C19) "undo" = some (some (.ref f34))) (i34 : PySem.W.isFn K (.ref f34) = true) (l34 : K.lookup f34 = some ⟨oc34, od34, .func (PySem.W.fnOf "undo" "Bench.undo" (defArgs s_Bench_undo) (defBody s_Bench_undo) (defScope s_Bench_undo) .none kV34 dc34 pm34 an34 cd34 ct34), sl34⟩) (c34 : PySem.W.codeIn K cd34 "Bench.undo" = true) (k34 : PySem.W.keepIn K (.ref f34) = true)
    {f35 : Addr} {od35 an35 : Option Addr} {sl35 : Array (Option Value)} {oc35 kV35 dc35 pm35 cd35 ct35 : Value}
    (a35 : PySem.W.findIn K (.ref C19) "names" = some (some (.ref f35))) (i35 : PySem.W.isFn K (.ref f35) = true) (l35 : K.lookup f35 = some ⟨oc35, od35, .func (PySem.W.fnOf "names" "Bench.names" (defArgs s_Bench_names) (defBody s_Bench_names) (defScope s_Bench_names) .none kV35 dc35 pm35 an35 cd35 ct35), sl35⟩) (c35 : PySem.W.codeIn K cd35 "Bench.names" = true) (k35 : PySem.W.keepIn K (.ref f35) = true)
    {f36 : Addr} {od36 an36 : Option Addr} {sl36 : Array (Option Value)} {oc36 kV36 dc36 pm36 cd36 ct36 : Value}
    (a36 : PySem.W.findIn K (.ref C19) "speed" = some (some (.ref f36))) (i36 : PySem.W.isFn K (.ref f36) = true) (l36 : K.lookup f36 = some ⟨oc36, od36, .func (PySem.W.fnOf "speed" "Bench.speed" (defArgs s_Bench_speed) (defBody s_Bench_speed) (defScope s_Bench_speed) .none kV36 dc36 pm36 an36 cd36 ct36), sl36⟩) (c36 : PySem.W.codeIn K cd36 "Bench.speed" = true) (k36 : PySem.W.keepIn K (.ref f36) = true)
    {f37 : Addr} {od37 an37 : Option Addr} {sl37 : Array (Option Value)} {oc37 kV37 dc37 pm37 cd37 ct37 : Value}
    (a37 : PySem.W.findIn K (.ref C19) "tell" = some (some (.ref f37))) (i37 : PySem.W.isFn K (.ref f37) = true) (l37 : K.lookup f37 = some ⟨oc37, od37, .func (PySem.W.fnOf "tell" "Bench.tell" (defArgs s_Bench_tell) (defBody s_Bench_tell) (defScope s_Bench_tell) .none kV37 dc37 pm37 an37 cd37 ct37), sl37⟩) (c37 : PySem.W.codeIn K cd37 "Bench.tell" = true) (k37 : PySem.W.keepIn K (.ref f37) = true)
    {f38 : Addr} {od38 an38 : Option Addr} {sl38 : Array (Option Value)} {oc38 kV38 dc38 pm38 cd38 ct38 : Value}
    (a38 : PySem.W.findIn K (.ref C19) "order" = some (some (.ref f38))) (i38 : PySem.W.isFn K (.ref f38) = true) (l38 : K.lookup f38 = some ⟨oc38, od38, .func (PySem.W.fnOf "order" "Bench.order" (defArgs s_Bench_order) (defBody s_Bench_order) (defScope s_Bench_order) .none kV38 dc38 pm38 an38 cd38 ct38), sl38⟩) (c38 : PySem.W.codeIn K cd38 "Bench.order" = true) (k38 : PySem.W.keepIn K (.ref f38) = true)
    {f39 : Addr} {od39 an39 : Option Addr} {sl39 : Array (Option Value)} {oc39 kV39 dc39 pm39 cd39 ct39 : Value}
    (a39 : PySem.W.findIn K (.ref C19) "kind" = some (some (.ref f39))) (i39 : PySem.W.isFn K (.ref f39) = true) (l39 : K.lookup f39 = some ⟨oc39, od39, .func (PySem.W.fnOf "kind" "Bench.kind" (defArgs s_Bench_kind) (defBody s_Bench_kind) (defScope s_Bench_kind) .none kV39 dc39 pm39 an39 cd39 ct39), sl39⟩) (c39 : PySem.W.codeIn K cd39 "Bench.kind" = true) (k39 : PySem.W.keepIn K (.ref f39) = true)
    {f40 : Addr} {od40 an40 : Option Addr} {sl40 : Array (Option Value)} {oc40 kV40 dc40 pm40 cd40 ct40 : Value}
    (a40 : PySem.W.nsIn K mainGlobals "_law_cell_at" = some (some (.ref f40))) (l40 : K.lookup f40 = some ⟨oc40, od40, .func (PySem.W.fnOf "_law_cell_at" "_law_cell_at" (defArgs s__law_cell_at) (defBody s__law_cell_at) (defScope s__law_cell_at) .none kV40 dc40 pm40 an40 cd40 ct40), sl40⟩) (c40 : PySem.W.codeIn K cd40 "_law_cell_at" = true) (k40 : PySem.W.keepIn K (.ref f40) = true)
    {f41 : Addr} {od41 an41 : Option Addr} {sl41 : Array (Option Value)} {oc41 kV41 dc41 pm41 cd41 ct41 : Value}
    (a41 : PySem.W.nsIn K mainGlobals "_law_pot" = some (some (.ref f41))) (l41 : K.lookup f41 = some ⟨oc41, od41, .func (PySem.W.fnOf "_law_pot" "_law_pot" (defArgs s__law_pot) (defBody s__law_pot) (defScope s__law_pot) .none kV41 dc41 pm41 an41 cd41 ct41), sl41⟩) (c41 : PySem.W.codeIn K cd41 "_law_pot" = true) (k41 : PySem.W.keepIn K (.ref f41) = true)
    {f42 : Addr} {od42 an42 : Option Addr} {sl42 : Array (Option Value)} {oc42 kV42 dc42 pm42 cd42 ct42 : Value}
    (a42 : PySem.W.nsIn K mainGlobals "_law_take" = some (some (.ref f42))) (l42 : K.lookup f42 = some ⟨oc42, od42, .func (PySem.W.fnOf "_law_take" "_law_take" (defArgs s__law_take) (defBody s__law_take) (defScope s__law_take) .none kV42 dc42 pm42 an42 cd42 ct42), sl42⟩) (c42 : PySem.W.codeIn K cd42 "_law_take" = true) (k42 : PySem.W.keepIn K (.ref f42) = true)
    {f43 : Addr} {od43 an43 : Option Addr} {sl43 : Array (Option Value)} {oc43 kV43 dc43 pm43 cd43 ct43 : Value}
    (a43 : PySem.W.nsIn K mainGlobals "_law_fresh" = some (some (.ref f43))) (l43 : K.lookup f43 = some ⟨oc43, od43, .func (PySem.W.fnOf "_law_fresh" "_law_fresh" (defArgs s__law_fresh) (defBody s__law_fresh) (defScope s__law_fresh) .none kV43 dc43 pm43 an43 cd43 ct43), sl43⟩) (c43 : PySem.W.codeIn K cd43 "_law_fresh" = true) (k43 : PySem.W.keepIn K (.ref f43) = true)
    {f44 : Addr} {od44 an44 : Option Addr} {sl44 : Array (Option Value)} {oc44 kV44 dc44 pm44 cd44 ct44 : Value}
    (a44 : PySem.W.nsIn K mainGlobals "_law_named" = some (some (.ref f44))) (l44 : K.lookup f44 = some ⟨oc44, od44, .func (PySem.W.fnOf "_law_named" "_law_named" (defArgs s__law_named) (defBody s__law_named) (defScope s__law_named) .none kV44 dc44 pm44 an44 cd44 ct44), sl44⟩) (c44 : PySem.W.codeIn K cd44 "_law_named" = true) (k44 : PySem.W.keepIn K (.ref f44) = true)
    {f45 : Addr} {od45 an45 : Option Addr} {sl45 : Array (Option Value)} {oc45 kV45 dc45 pm45 cd45 ct45 : Value}
    (a45 : PySem.W.nsIn K mainGlobals "_law_low" = some (some (.ref f45))) (l45 : K.lookup f45 = some ⟨oc45, od45, .func (PySem.W.fnOf "_law_low" "_law_low" (defArgs s__law_low) (defBody s__law_low) (defScope s__law_low) .none kV45 dc45 pm45 an45 cd45 ct45), sl45⟩) (c45 : PySem.W.codeIn K cd45 "_law_low" = true) (k45 : PySem.W.keepIn K (.ref f45) = true)
    {f46 : Addr} {od46 an46 : Option Addr} {sl46 : Array (Option Value)} {oc46 kV46 dc46 pm46 cd46 ct46 : Value}
    (a46 : PySem.W.nsIn K mainGlobals "_law_hap" = some (some (.ref f46))) (l46 : K.lookup f46 = some ⟨oc46, od46, .func (PySem.W.fnOf "_law_hap" "_law_hap" (defArgs s__law_hap) (defBody s__law_hap) (defScope s__law_hap) .none kV46 dc46 pm46 an46 cd46 ct46), sl46⟩) (c46 : PySem.W.codeIn K cd46 "_law_hap" = true) (k46 : PySem.W.keepIn K (.ref f46) = true)
    {f47 : Addr} {od47 an47 : Option Addr} {sl47 : Array (Option Value)} {oc47 kV47 dc47 pm47 cd47 ct47 : Value}
    (a47 : PySem.W.nsIn K mainGlobals "_law_stretch" = some (some (.ref f47))) (l47 : K.lookup f47 = some ⟨oc47, od47, .func (PySem.W.fnOf "_law_stretch" "_law_stretch" (defArgs s__law_stretch) (defBody s__law_stretch) (defScope s__law_stretch) .none kV47 dc47 pm47 an47 cd47 ct47), sl47⟩) (c47 : PySem.W.codeIn K cd47 "_law_stretch" = true) (k47 : PySem.W.keepIn K (.ref f47) = true)
    {f48 : Addr} {od48 an48 : Option Addr} {sl48 : Array (Option Value)} {oc48 kV48 dc48 pm48 cd48 ct48 : Value}
    (a48 : PySem.W.nsIn K mainGlobals "_law_fast" = some (some (.ref f48))) (l48 : K.lookup f48 = some ⟨oc48, od48, .func (PySem.W.fnOf "_law_fast" "_law_fast" (defArgs s__law_fast) (defBody s__law_fast) (defScope s__law_fast) .none kV48 dc48 pm48 an48 cd48 ct48), sl48⟩) (c48 : PySem.W.codeIn K cd48 "_law_fast" = true) (k48 : PySem.W.keepIn K (.ref f48) = true)
    {f49 : Addr} {od49 an49 : Option Addr} {sl49 : Array (Option Value)} {oc49 kV49 dc49 pm49 cd49 ct49 : Value}
    (a49 : PySem.W.nsIn K mainGlobals "_law_speed" = some (some (.ref f49))) (l49 : K.lookup f49 = some ⟨oc49, od49, .func (PySem.W.fnOf "_law_speed" "_law_speed" (defArgs s__law_speed) (defBody s__law_speed) (defScope s__law_speed) .none kV49 dc49 pm49 an49 cd49 ct49), sl49⟩) (c49 : PySem.W.codeIn K cd49 "_law_speed" = true) (k49 : PySem.W.keepIn K (.ref f49) = true)
    {f50 : Addr} {od50 an50 : Option Addr} {sl50 : Array (Option Value)} {oc50 kV50 dc50 pm50 cd50 ct50 : Value}
    (a50 : PySem.W.nsIn K mainGlobals "_law_deed" = some (some (.ref f50))) (l50 : K.lookup f50 = some ⟨oc50, od50, .func (PySem.W.fnOf "_law_deed" "_law_deed" (defArgs s__law_deed) (defBody s__law_deed) (defScope s__law_deed) .none kV50 dc50 pm50 an50 cd50 ct50), sl50⟩) (c50 : PySem.W.codeIn K cd50 "_law_deed" = true) (k50 : PySem.W.keepIn K (.ref f50) = true)
    {f51 : Addr} {od51 an51 : Option Addr} {sl51 : Array (Option Value)} {oc51 kV51 dc51 pm51 cd51 ct51 : Value}
    (a51 : PySem.W.nsIn K mainGlobals "_law_whole" = some (some (.ref f51))) (l51 : K.lookup f51 = some ⟨oc51, od51, .func (PySem.W.fnOf "_law_whole" "_law_whole" (defArgs s__law_whole) (defBody s__law_whole) (defScope s__law_whole) .none kV51 dc51 pm51 an51 cd51 ct51), sl51⟩) (c51 : PySem.W.codeIn K cd51 "_law_whole" = true) (k51 : PySem.W.keepIn K (.ref f51) = true)
    {f52 : Addr} {od52 an52 : Option Addr} {sl52 : Array (Option Value)} {oc52 kV52 dc52 pm52 cd52 ct52 : Value}
    (a52 : PySem.W.nsIn K mainGlobals "_law_good" = some (some (.ref f52))) (l52 : K.lookup f52 = some ⟨oc52, od52, .func (PySem.W.fnOf "_law_good" "_law_good" (defArgs s__law_good) (defBody s__law_good) (defScope s__law_good) .none kV52 dc52 pm52 an52 cd52 ct52), sl52⟩) (c52 : PySem.W.codeIn K cd52 "_law_good" = true) (k52 : PySem.W.keepIn K (.ref f52) = true)
    {f53 : Addr} {od53 an53 : Option Addr} {sl53 : Array (Option Value)} {oc53 kV53 dc53 pm53 cd53 ct53 : Value}
    (a53 : PySem.W.nsIn K mainGlobals "_law_is_it" = some (some (.ref f53))) (l53 : K.lookup f53 = some ⟨oc53, od53, .func (PySem.W.fnOf "_law_is_it" "_law_is_it" (defArgs s__law_is_it) (defBody s__law_is_it) (defScope s__law_is_it) .none kV53 dc53 pm53 an53 cd53 ct53), sl53⟩) (c53 : PySem.W.codeIn K cd53 "_law_is_it" = true) (k53 : PySem.W.keepIn K (.ref f53) = true)
    {f54 : Addr} {od54 an54 : Option Addr} {sl54 : Array (Option Value)} {oc54 kV54 dc54 pm54 cd54 ct54 : Value}
    (a54 : PySem.W.nsIn K mainGlobals "_law_named_well" = some (some (.ref f54))) (l54 : K.lookup f54 = some ⟨oc54, od54, .func (PySem.W.fnOf "_law_named_well" "_law_named_well" (defArgs s__law_named_well) (defBody s__law_named_well) (defScope s__law_named_well) .none kV54 dc54 pm54 an54 cd54 ct54), sl54⟩) (c54 : PySem.W.codeIn K cd54 "_law_named_well" = true) (k54 : PySem.W.keepIn K (.ref f54) = true)
    {f55 : Addr} {od55 an55 : Option Addr} {sl55 : Array (Option Value)} {oc55 kV55 dc55 pm55 cd55 ct55 : Value}
    (a55 : PySem.W.nsIn K mainGlobals "_law_is_fast" = some (some (.ref f55))) (l55 : K.lookup f55 = some ⟨oc55, od55, .func (PySem.W.fnOf "_law_is_fast" "_law_is_fast" (defArgs s__law_is_fast) (defBody s__law_is_fast) (defScope s__law_is_fast) .none kV55 dc55 pm55 an55 cd55 ct55), sl55⟩) (c55 : PySem.W.codeIn K cd55 "_law_is_fast" = true) (k55 : PySem.W.keepIn K (.ref f55) = true)
    {f56 : Addr} {od56 an56 : Option Addr} {sl56 : Array (Option Value)} {oc56 kV56 dc56 pm56 cd56 ct56 : Value}
    (a56 : PySem.W.nsIn K mainGlobals "_law_root" = some (some (.ref f56))) (l56 : K.lookup f56 = some ⟨oc56, od56, .func (PySem.W.fnOf "_law_root" "_law_root" (defArgs s__law_root) (defBody s__law_root) (defScope s__law_root) .none kV56 dc56 pm56 an56 cd56 ct56), sl56⟩) (c56 : PySem.W.codeIn K cd56 "_law_root" = true) (k56 : PySem.W.keepIn K (.ref f56) = true)
    {f57 : Addr} {od57 an57 : Option Addr} {sl57 : Array (Option Value)} {oc57 kV57 dc57 pm57 cd57 ct57 : Value}
    (a57 : PySem.W.nsIn K mainGlobals "_law_rooted" = some (some (.ref f57))) (l57 : K.lookup f57 = some ⟨oc57, od57, .func (PySem.W.fnOf "_law_rooted" "_law_rooted" (defArgs s__law_rooted) (defBody s__law_rooted) (defScope s__law_rooted) .none kV57 dc57 pm57 an57 cd57 ct57), sl57⟩) (c57 : PySem.W.codeIn K cd57 "_law_rooted" = true) (k57 : PySem.W.keepIn K (.ref f57) = true)
    {f58 : Addr} {od58 an58 : Option Addr} {sl58 : Array (Option Value)} {oc58 kV58 dc58 pm58 cd58 ct58 : Value}
    (a58 : PySem.W.nsIn K mainGlobals "_law_gap" = some (some (.ref f58))) (l58 : K.lookup f58 = some ⟨oc58, od58, .func (PySem.W.fnOf "_law_gap" "_law_gap" (defArgs s__law_gap) (defBody s__law_gap) (defScope s__law_gap) .none kV58 dc58 pm58 an58 cd58 ct58), sl58⟩) (c58 : PySem.W.codeIn K cd58 "_law_gap" = true) (k58 : PySem.W.keepIn K (.ref f58) = true)
    {f59 : Addr} {od59 an59 : Option Addr} {sl59 : Array (Option Value)} {oc59 kV59 dc59 pm59 cd59 ct59 : Value}
    (a59 : PySem.W.nsIn K mainGlobals "_law_prod" = some (some (.ref f59))) (l59 : K.lookup f59 = some ⟨oc59, od59, .func (PySem.W.fnOf "_law_prod" "_law_prod" (defArgs s__law_prod) (defBody s__law_prod) (defScope s__law_prod) .none kV59 dc59 pm59 an59 cd59 ct59), sl59⟩) (c59 : PySem.W.codeIn K cd59 "_law_prod" = true) (k59 : PySem.W.keepIn K (.ref f59) = true)
    {f60 : Addr} {od60 an60 : Option Addr} {sl60 : Array (Option Value)} {oc60 kV60 dc60 pm60 cd60 ct60 : Value}
    (a60 : PySem.W.nsIn K mainGlobals "_law_beat" = some (some (.ref f60))) (l60 : K.lookup f60 = some ⟨oc60, od60, .func (PySem.W.fnOf "_law_beat" "_law_beat" (defArgs s__law_beat) (defBody s__law_beat) (defScope s__law_beat) .none kV60 dc60 pm60 an60 cd60 ct60), sl60⟩) (c60 : PySem.W.codeIn K cd60 "_law_beat" = true) (k60 : PySem.W.keepIn K (.ref f60) = true)
    {f61 : Addr} {od61 an61 : Option Addr} {sl61 : Array (Option Value)} {oc61 kV61 dc61 pm61 cd61 ct61 : Value}
    (a61 : PySem.W.nsIn K mainGlobals "_law_refused_as" = some (some (.ref f61))) (l61 : K.lookup f61 = some ⟨oc61, od61, .func (PySem.W.fnOf "_law_refused_as" "_law_refused_as" (defArgs s__law_refused_as) (defBody s__law_refused_as) (defScope s__law_refused_as) .none kV61 dc61 pm61 an61 cd61 ct61), sl61⟩) (c61 : PySem.W.codeIn K cd61 "_law_refused_as" = true) (k61 : PySem.W.keepIn K (.ref f61) = true)
    {f62 : Addr} {od62 an62 : Option Addr} {sl62 : Array (Option Value)} {oc62 kV62 dc62 pm62 cd62 ct62 : Value}
    (a62 : PySem.W.nsIn K mainGlobals "_law_sum" = some (some (.ref f62))) (l62 : K.lookup f62 = some ⟨oc62, od62, .func (PySem.W.fnOf "_law_sum" "_law_sum" (defArgs s__law_sum) (defBody s__law_sum) (defScope s__law_sum) .none kV62 dc62 pm62 an62 cd62 ct62), sl62⟩) (c62 : PySem.W.codeIn K cd62 "_law_sum" = true) (k62 : PySem.W.keepIn K (.ref f62) = true)
    {f63 : Addr} {od63 an63 : Option Addr} {sl63 : Array (Option Value)} {oc63 kV63 dc63 pm63 cd63 ct63 : Value}
    (a63 : PySem.W.nsIn K mainGlobals "_law_quot" = some (some (.ref f63))) (l63 : K.lookup f63 = some ⟨oc63, od63, .func (PySem.W.fnOf "_law_quot" "_law_quot" (defArgs s__law_quot) (defBody s__law_quot) (defScope s__law_quot) .none kV63 dc63 pm63 an63 cd63 ct63), sl63⟩) (c63 : PySem.W.codeIn K cd63 "_law_quot" = true) (k63 : PySem.W.keepIn K (.ref f63) = true)
    {f64 : Addr} {od64 an64 : Option Addr} {sl64 : Array (Option Value)} {oc64 kV64 dc64 pm64 cd64 ct64 : Value}
    (a64 : PySem.W.nsIn K mainGlobals "_law_joined" = some (some (.ref f64))) (l64 : K.lookup f64 = some ⟨oc64, od64, .func (PySem.W.fnOf "_law_joined" "_law_joined" (defArgs s__law_joined) (defBody s__law_joined) (defScope s__law_joined) .none kV64 dc64 pm64 an64 cd64 ct64), sl64⟩) (c64 : PySem.W.codeIn K cd64 "_law_joined" = true) (k64 : PySem.W.keepIn K (.ref f64) = true)
    {f65 : Addr} {od65 an65 : Option Addr} {sl65 : Array (Option Value)} {oc65 kV65 dc65 pm65 cd65 ct65 : Value}
    (a65 : PySem.W.nsIn K mainGlobals "_law_kept" = some (some (.ref f65))) (l65 : K.lookup f65 = some ⟨oc65, od65, .func (PySem.W.fnOf "_law_kept" "_law_kept" (defArgs s__law_kept) (defBody s__law_kept) (defScope s__law_kept) .none kV65 dc65 pm65 an65 cd65 ct65), sl65⟩) (c65 : PySem.W.codeIn K cd65 "_law_kept" = true) (k65 : PySem.W.keepIn K (.ref f65) = true)
    {f66 : Addr} {od66 an66 : Option Addr} {sl66 : Array (Option Value)} {oc66 kV66 dc66 pm66 cd66 ct66 : Value}
    (a66 : PySem.W.nsIn K mainGlobals "_law_kind_of" = some (some (.ref f66))) (l66 : K.lookup f66 = some ⟨oc66, od66, .func (PySem.W.fnOf "_law_kind_of" "_law_kind_of" (defArgs s__law_kind_of) (defBody s__law_kind_of) (defScope s__law_kind_of) .none kV66 dc66 pm66 an66 cd66 ct66), sl66⟩) (c66 : PySem.W.codeIn K cd66 "_law_kind_of" = true) (k66 : PySem.W.keepIn K (.ref f66) = true)
    {f67 : Addr} {od67 an67 : Option Addr} {sl67 : Array (Option Value)} {oc67 kV67 dc67 pm67 cd67 ct67 : Value}
    (a67 : PySem.W.nsIn K mainGlobals "_law_done" = some (some (.ref f67))) (l67 : K.lookup f67 = some ⟨oc67, od67, .func (PySem.W.fnOf "_law_done" "_law_done" (defArgs s__law_done) (defBody s__law_done) (defScope s__law_done) .none kV67 dc67 pm67 an67 cd67 ct67), sl67⟩) (c67 : PySem.W.codeIn K cd67 "_law_done" = true) (k67 : PySem.W.keepIn K (.ref f67) = true)
    {f68 : Addr} {od68 an68 : Option Addr} {sl68 : Array (Option Value)} {oc68 kV68 dc68 pm68 cd68 ct68 : Value}
    (a68 : PySem.W.nsIn K mainGlobals "_law_apart" = some (some (.ref f68))) (l68 : K.lookup f68 = some ⟨oc68, od68, .func (PySem.W.fnOf "_law_apart" "_law_apart" (defArgs s__law_apart) (defBody s__law_apart) (defScope s__law_apart) .none kV68 dc68 pm68 an68 cd68 ct68), sl68⟩) (c68 : PySem.W.codeIn K cd68 "_law_apart" = true) (k68 : PySem.W.keepIn K (.ref f68) = true)
    {f69 : Addr} {od69 an69 : Option Addr} {sl69 : Array (Option Value)} {oc69 kV69 dc69 pm69 cd69 ct69 : Value}
    (a69 : PySem.W.nsIn K mainGlobals "_law_word" = some (some (.ref f69))) (l69 : K.lookup f69 = some ⟨oc69, od69, .func (PySem.W.fnOf "_law_word" "_law_word" (defArgs s__law_word) (defBody s__law_word) (defScope s__law_word) .none kV69 dc69 pm69 an69 cd69 ct69), sl69⟩) (c69 : PySem.W.codeIn K cd69 "_law_word" = true) (k69 : PySem.W.keepIn K (.ref f69) = true)
    {f70 : Addr} {od70 an70 : Option Addr} {sl70 : Array (Option Value)} {oc70 kV70 dc70 pm70 cd70 ct70 : Value}
    (a70 : PySem.W.nsIn K mainGlobals "_law_told" = some (some (.ref f70))) (l70 : K.lookup f70 = some ⟨oc70, od70, .func (PySem.W.fnOf "_law_told" "_law_told" (defArgs s__law_told) (defBody s__law_told) (defScope s__law_told) .none kV70 dc70 pm70 an70 cd70 ct70), sl70⟩) (c70 : PySem.W.codeIn K cd70 "_law_told" = true) (k70 : PySem.W.keepIn K (.ref f70) = true)
    {f71 : Addr} {od71 an71 : Option Addr} {sl71 : Array (Option Value)} {oc71 kV71 dc71 pm71 cd71 ct71 : Value}
    (a71 : PySem.W.nsIn K mainGlobals "_law_words_right" = some (some (.ref f71))) (l71 : K.lookup f71 = some ⟨oc71, od71, .func (PySem.W.fnOf "_law_words_right" "_law_words_right" (defArgs s__law_words_right) (defBody s__law_words_right) (defScope s__law_words_right) .none kV71 dc71 pm71 an71 cd71 ct71), sl71⟩) (c71 : PySem.W.codeIn K cd71 "_law_words_right" = true) (k71 : PySem.W.keepIn K (.ref f71) = true)
    {f72 : Addr} {od72 an72 : Option Addr} {sl72 : Array (Option Value)} {oc72 kV72 dc72 pm72 cd72 ct72 : Value}
    (a72 : PySem.W.nsIn K mainGlobals "_law_full_right" = some (some (.ref f72))) (l72 : K.lookup f72 = some ⟨oc72, od72, .func (PySem.W.fnOf "_law_full_right" "_law_full_right" (defArgs s__law_full_right) (defBody s__law_full_right) (defScope s__law_full_right) .none kV72 dc72 pm72 an72 cd72 ct72), sl72⟩) (c72 : PySem.W.codeIn K cd72 "_law_full_right" = true) (k72 : PySem.W.keepIn K (.ref f72) = true)
    {f73 : Addr} {od73 an73 : Option Addr} {sl73 : Array (Option Value)} {oc73 kV73 dc73 pm73 cd73 ct73 : Value}
    (a73 : PySem.W.nsIn K mainGlobals "law" = some (some (.ref f73))) (l73 : K.lookup f73 = some ⟨oc73, od73, .func (PySem.W.fnOf "law" "law" (defArgs s_law) (defBody s_law) (defScope s_law) .none kV73 dc73 pm73 an73 cd73 ct73), sl73⟩) (c73 : PySem.W.codeIn K cd73 "law" = true) (k73 : PySem.W.keepIn K (.ref f73) = true)
    {C0 : Addr} (q_MotionError : PySem.W.nsIn K mainGlobals "MotionError" = some (some (.ref C0)))
    {C1 : Addr} (q_NoFraction : PySem.W.nsIn K mainGlobals "NoFraction" = some (some (.ref C1)))
    {C2 : Addr} (q_NoHap : PySem.W.nsIn K mainGlobals "NoHap" = some (some (.ref C2)))
    {C3 : Addr} (q_NoText : PySem.W.nsIn K mainGlobals "NoText" = some (some (.ref C3)))
    {C4 : Addr} (q_NoSpeed : PySem.W.nsIn K mainGlobals "NoSpeed" = some (some (.ref C4)))
    {C5 : Addr} (q_TooMany : PySem.W.nsIn K mainGlobals "TooMany" = some (some (.ref C5)))
    {C6 : Addr} (q_NotPlain : PySem.W.nsIn K mainGlobals "NotPlain" = some (some (.ref C6)))
    {C7 : Addr} (q_NoStretch : PySem.W.nsIn K mainGlobals "NoStretch" = some (some (.ref C7)))
    {C8 : Addr} (q_NoHaps : PySem.W.nsIn K mainGlobals "NoHaps" = some (some (.ref C8)))
    {C9 : Addr} (q_NoOrder : PySem.W.nsIn K mainGlobals "NoOrder" = some (some (.ref C9)))
    {C10 : Addr} (q_NoStep : PySem.W.nsIn K mainGlobals "NoStep" = some (some (.ref C10)))
    {C11 : Addr} (q_NoNumber : PySem.W.nsIn K mainGlobals "NoNumber" = some (some (.ref C11)))
    {C12 : Addr} (q_NoSeat : PySem.W.nsIn K mainGlobals "NoSeat" = some (some (.ref C12)))
    {C13 : Addr} (q_NoRod : PySem.W.nsIn K mainGlobals "NoRod" = some (some (.ref C13)))
    {C14 : Addr} (q_NoWay : PySem.W.nsIn K mainGlobals "NoWay" = some (some (.ref C14)))
    {C15 : Addr} (q_NoFlash : PySem.W.nsIn K mainGlobals "NoFlash" = some (some (.ref C15)))
    {C16 : Addr} (q_NoName : PySem.W.nsIn K mainGlobals "NoName" = some (some (.ref C16)))
    {C17 : Addr} (q_NoDeed : PySem.W.nsIn K mainGlobals "NoDeed" = some (some (.ref C17)))
    {C18 : Addr} (q_NoRow : PySem.W.nsIn K mainGlobals "NoRow" = some (some (.ref C18)))
    (q_Bench : PySem.W.nsIn K mainGlobals "Bench" = some (some (.ref C19)))
    (bpg_Bench : PySem.W.plainGet K C19 Str.empty = true) (bhd_Bench : PySem.W.hasDictIn K C19 = true) (bpo_Bench : PySem.W.plainOver K C19 = true) (bsa_Bench : PySem.W.findIn K (.ref C19) "__setattr__" = some (some (.builtin "object.__setattr__"))) (bmk_Bench : PySem.W.makesIn K C19 = true) (bkc_Bench : PySem.W.keepIn K (.ref C19) = true)
    (bna_Bench__haps : PySem.W.findIn K (.ref C19) "_haps" = some none)
    (bna_Bench__speed : PySem.W.findIn K (.ref C19) "_speed" = some none)
    (bna_Bench__past : PySem.W.findIn K (.ref C19) "_past" = some none)
    (xk_NoFraction : PySem.W.keepIn K (.ref C1) = true) (xb_NoFraction : PySem.W.subIn K (.ref C1) (.type "BaseException") = some true) (xt_NoFraction : PySem.W.typeIn K (.ref C1) = some (.type "type"))
    (xx_NoFraction : PySem.W.excIn K C1 [.type "ValueError", .type "Exception", .type "BaseException", .type "object"] "ValueError.__new__" = true)
    (xk_NoHap : PySem.W.keepIn K (.ref C2) = true) (xb_NoHap : PySem.W.subIn K (.ref C2) (.type "BaseException") = some true) (xt_NoHap : PySem.W.typeIn K (.ref C2) = some (.type "type"))
    (xx_NoHap : PySem.W.excIn K C2 [.type "ValueError", .type "Exception", .type "BaseException", .type "object"] "ValueError.__new__" = true)
    (xk_NoSpeed : PySem.W.keepIn K (.ref C4) = true) (xb_NoSpeed : PySem.W.subIn K (.ref C4) (.type "BaseException") = some true) (xt_NoSpeed : PySem.W.typeIn K (.ref C4) = some (.type "type"))
    (xx_NoSpeed : PySem.W.excIn K C4 [.type "ValueError", .type "Exception", .type "BaseException", .type "object"] "ValueError.__new__" = true)
    (xk_TooMany : PySem.W.keepIn K (.ref C5) = true) (xb_TooMany : PySem.W.subIn K (.ref C5) (.type "BaseException") = some true) (xt_TooMany : PySem.W.typeIn K (.ref C5) = some (.type "type"))
    (xx_TooMany : PySem.W.excIn K C5 [.type "ValueError", .type "Exception", .type "BaseException", .type "object"] "ValueError.__new__" = true)
    (xk_NotPlain : PySem.W.keepIn K (.ref C6) = true) (xb_NotPlain : PySem.W.subIn K (.ref C6) (.type "BaseException") = some true) (xt_NotPlain : PySem.W.typeIn K (.ref C6) = some (.type "type"))
    (xx_NotPlain : PySem.W.excIn K C6 [.type "ValueError", .type "Exception", .type "BaseException", .type "object"] "ValueError.__new__" = true)
    (xk_NoSeat : PySem.W.keepIn K (.ref C12) = true) (xb_NoSeat : PySem.W.subIn K (.ref C12) (.type "BaseException") = some true) (xt_NoSeat : PySem.W.typeIn K (.ref C12) = some (.type "type"))
    (xx_NoSeat : PySem.W.excIn K C12 [.type "ValueError", .type "Exception", .type "BaseException", .type "object"] "ValueError.__new__" = true)
    (xk_NoName : PySem.W.keepIn K (.ref C16) = true) (xb_NoName : PySem.W.subIn K (.ref C16) (.type "BaseException") = some true) (xt_NoName : PySem.W.typeIn K (.ref C16) = some (.type "type"))
    (xx_NoName : PySem.W.excIn K C16 [.type "ValueError", .type "Exception", .type "BaseException", .type "object"] "ValueError.__new__" = true)
    (xk_NoDeed : PySem.W.keepIn K (.ref C17) = true) (xb_NoDeed : PySem.W.subIn K (.ref C17) (.type "BaseException") = some true) (xt_NoDeed : PySem.W.typeIn K (.ref C17) = some (.type "type"))
    (xx_NoDeed : PySem.W.excIn K C17 [.type "ValueError", .type "Exception", .type "BaseException", .type "object"] "ValueError.__new__" = true)
    (eg_NoName : PySem.W.findIn K (.ref C16) "__getattribute__" = some (some (.builtin "BaseException.__getattribute__")))
    (ek_NoName : PySem.W.findIn K (.ref C16) "__getattr__" = some none)
    (es_NoName : PySem.W.subIn K (.ref C16) (.type "BaseException") = some true)
    (ed_NoName : PySem.W.hasDictIn K C16 = true)
    (ea_NoName : PySem.W.findIn K (.ref C16) "__class__" = some (some (.builtin "object.__class__")))
    (en_NoName : PySem.W.specialIn K (.builtin "object.__class__") "__get__" = some (some (.builtin "getset_descriptor.__get__"))) (et_NoName : PySem.W.takesIn K (.builtin "object.__class__") = some true) (em_NoName : PySem.W.mroIn K C16 (.type "object") = some true)
    (vs_NoName : PySem.W.subIn K (.ref C16) (.type "ValueError") = some true) (rs_NoName : PySem.W.subIn K (.ref C16) (.ref C0) = some true)
    (s_NoName_NoDeed : PySem.W.subIn K (.ref C16) (.ref C17) = some false)
    (s_NoName_NoFlash : PySem.W.subIn K (.ref C16) (.ref C15) = some false)
    (s_NoName_NoFraction : PySem.W.subIn K (.ref C16) (.ref C1) = some false)
    (s_NoName_NoHap : PySem.W.subIn K (.ref C16) (.ref C2) = some false)
    (s_NoName_NoHaps : PySem.W.subIn K (.ref C16) (.ref C8) = some false)
    (s_NoName_NoName : PySem.W.subIn K (.ref C16) (.ref C16) = some true)
    (s_NoName_NoNumber : PySem.W.subIn K (.ref C16) (.ref C11) = some false)
    (s_NoName_NoOrder : PySem.W.subIn K (.ref C16) (.ref C9) = some false)
    (s_NoName_NoRod : PySem.W.subIn K (.ref C16) (.ref C13) = some false)
    (s_NoName_NoRow : PySem.W.subIn K (.ref C16) (.ref C18) = some false)
    (s_NoName_NoSeat : PySem.W.subIn K (.ref C16) (.ref C12) = some false)
    (s_NoName_NoSpeed : PySem.W.subIn K (.ref C16) (.ref C4) = some false)
    (s_NoName_NoStep : PySem.W.subIn K (.ref C16) (.ref C10) = some false)
    (s_NoName_NoStretch : PySem.W.subIn K (.ref C16) (.ref C7) = some false)
    (s_NoName_NoText : PySem.W.subIn K (.ref C16) (.ref C3) = some false)
    (s_NoName_NotPlain : PySem.W.subIn K (.ref C16) (.ref C6) = some false)
    (s_NoName_NoWay : PySem.W.subIn K (.ref C16) (.ref C14) = some false)
    (s_NoName_TooMany : PySem.W.subIn K (.ref C16) (.ref C5) = some false)
    (eg_NoHap : PySem.W.findIn K (.ref C2) "__getattribute__" = some (some (.builtin "BaseException.__getattribute__")))
    (ek_NoHap : PySem.W.findIn K (.ref C2) "__getattr__" = some none)
    (es_NoHap : PySem.W.subIn K (.ref C2) (.type "BaseException") = some true)
    (ed_NoHap : PySem.W.hasDictIn K C2 = true)
    (ea_NoHap : PySem.W.findIn K (.ref C2) "__class__" = some (some (.builtin "object.__class__")))
    (en_NoHap : PySem.W.specialIn K (.builtin "object.__class__") "__get__" = some (some (.builtin "getset_descriptor.__get__"))) (et_NoHap : PySem.W.takesIn K (.builtin "object.__class__") = some true) (em_NoHap : PySem.W.mroIn K C2 (.type "object") = some true)
    (vs_NoHap : PySem.W.subIn K (.ref C2) (.type "ValueError") = some true) (rs_NoHap : PySem.W.subIn K (.ref C2) (.ref C0) = some true)
    (s_NoHap_NoDeed : PySem.W.subIn K (.ref C2) (.ref C17) = some false)
    (s_NoHap_NoFlash : PySem.W.subIn K (.ref C2) (.ref C15) = some false)
    (s_NoHap_NoFraction : PySem.W.subIn K (.ref C2) (.ref C1) = some false)
    (s_NoHap_NoHap : PySem.W.subIn K (.ref C2) (.ref C2) = some true)
    (s_NoHap_NoHaps : PySem.W.subIn K (.ref C2) (.ref C8) = some false)
    (s_NoHap_NoName : PySem.W.subIn K (.ref C2) (.ref C16) = some false)
    (s_NoHap_NoNumber : PySem.W.subIn K (.ref C2) (.ref C11) = some false)
    (s_NoHap_NoOrder : PySem.W.subIn K (.ref C2) (.ref C9) = some false)
    (s_NoHap_NoRod : PySem.W.subIn K (.ref C2) (.ref C13) = some false)
    (s_NoHap_NoRow : PySem.W.subIn K (.ref C2) (.ref C18) = some false)
    (s_NoHap_NoSeat : PySem.W.subIn K (.ref C2) (.ref C12) = some false)
    (s_NoHap_NoSpeed : PySem.W.subIn K (.ref C2) (.ref C4) = some false)
    (s_NoHap_NoStep : PySem.W.subIn K (.ref C2) (.ref C10) = some false)
    (s_NoHap_NoStretch : PySem.W.subIn K (.ref C2) (.ref C7) = some false)
    (s_NoHap_NoText : PySem.W.subIn K (.ref C2) (.ref C3) = some false)
    (s_NoHap_NotPlain : PySem.W.subIn K (.ref C2) (.ref C6) = some false)
    (s_NoHap_NoWay : PySem.W.subIn K (.ref C2) (.ref C14) = some false)
    (s_NoHap_TooMany : PySem.W.subIn K (.ref C2) (.ref C5) = some false)
    (eg_NoSpeed : PySem.W.findIn K (.ref C4) "__getattribute__" = some (some (.builtin "BaseException.__getattribute__")))
    (ek_NoSpeed : PySem.W.findIn K (.ref C4) "__getattr__" = some none)
    (es_NoSpeed : PySem.W.subIn K (.ref C4) (.type "BaseException") = some true)
    (ed_NoSpeed : PySem.W.hasDictIn K C4 = true)
    (ea_NoSpeed : PySem.W.findIn K (.ref C4) "__class__" = some (some (.builtin "object.__class__")))
    (en_NoSpeed : PySem.W.specialIn K (.builtin "object.__class__") "__get__" = some (some (.builtin "getset_descriptor.__get__"))) (et_NoSpeed : PySem.W.takesIn K (.builtin "object.__class__") = some true) (em_NoSpeed : PySem.W.mroIn K C4 (.type "object") = some true)
    (vs_NoSpeed : PySem.W.subIn K (.ref C4) (.type "ValueError") = some true) (rs_NoSpeed : PySem.W.subIn K (.ref C4) (.ref C0) = some true)
    (s_NoSpeed_NoDeed : PySem.W.subIn K (.ref C4) (.ref C17) = some false)
    (s_NoSpeed_NoFlash : PySem.W.subIn K (.ref C4) (.ref C15) = some false)
    (s_NoSpeed_NoFraction : PySem.W.subIn K (.ref C4) (.ref C1) = some false)
    (s_NoSpeed_NoHap : PySem.W.subIn K (.ref C4) (.ref C2) = some false)
    (s_NoSpeed_NoHaps : PySem.W.subIn K (.ref C4) (.ref C8) = some false)
    (s_NoSpeed_NoName : PySem.W.subIn K (.ref C4) (.ref C16) = some false)
    (s_NoSpeed_NoNumber : PySem.W.subIn K (.ref C4) (.ref C11) = some false)
    (s_NoSpeed_NoOrder : PySem.W.subIn K (.ref C4) (.ref C9) = some false)
    (s_NoSpeed_NoRod : PySem.W.subIn K (.ref C4) (.ref C13) = some false)
    (s_NoSpeed_NoRow : PySem.W.subIn K (.ref C4) (.ref C18) = some false)
    (s_NoSpeed_NoSeat : PySem.W.subIn K (.ref C4) (.ref C12) = some false)
    (s_NoSpeed_NoSpeed : PySem.W.subIn K (.ref C4) (.ref C4) = some true)
    (s_NoSpeed_NoStep : PySem.W.subIn K (.ref C4) (.ref C10) = some false)
    (s_NoSpeed_NoStretch : PySem.W.subIn K (.ref C4) (.ref C7) = some false)
    (s_NoSpeed_NoText : PySem.W.subIn K (.ref C4) (.ref C3) = some false)
    (s_NoSpeed_NotPlain : PySem.W.subIn K (.ref C4) (.ref C6) = some false)
    (s_NoSpeed_NoWay : PySem.W.subIn K (.ref C4) (.ref C14) = some false)
    (s_NoSpeed_TooMany : PySem.W.subIn K (.ref C4) (.ref C5) = some false)
    (eg_NotPlain : PySem.W.findIn K (.ref C6) "__getattribute__" = some (some (.builtin "BaseException.__getattribute__")))
    (ek_NotPlain : PySem.W.findIn K (.ref C6) "__getattr__" = some none)
    (es_NotPlain : PySem.W.subIn K (.ref C6) (.type "BaseException") = some true)
    (ed_NotPlain : PySem.W.hasDictIn K C6 = true)
    (ea_NotPlain : PySem.W.findIn K (.ref C6) "__class__" = some (some (.builtin "object.__class__")))
    (en_NotPlain : PySem.W.specialIn K (.builtin "object.__class__") "__get__" = some (some (.builtin "getset_descriptor.__get__"))) (et_NotPlain : PySem.W.takesIn K (.builtin "object.__class__") = some true) (em_NotPlain : PySem.W.mroIn K C6 (.type "object") = some true)
    (vs_NotPlain : PySem.W.subIn K (.ref C6) (.type "ValueError") = some true) (rs_NotPlain : PySem.W.subIn K (.ref C6) (.ref C0) = some true)
    (s_NotPlain_NoDeed : PySem.W.subIn K (.ref C6) (.ref C17) = some false)
    (s_NotPlain_NoFlash : PySem.W.subIn K (.ref C6) (.ref C15) = some false)
    (s_NotPlain_NoFraction : PySem.W.subIn K (.ref C6) (.ref C1) = some false)
    (s_NotPlain_NoHap : PySem.W.subIn K (.ref C6) (.ref C2) = some false)
    (s_NotPlain_NoHaps : PySem.W.subIn K (.ref C6) (.ref C8) = some false)
    (s_NotPlain_NoName : PySem.W.subIn K (.ref C6) (.ref C16) = some false)
    (s_NotPlain_NoNumber : PySem.W.subIn K (.ref C6) (.ref C11) = some false)
    (s_NotPlain_NoOrder : PySem.W.subIn K (.ref C6) (.ref C9) = some false)
    (s_NotPlain_NoRod : PySem.W.subIn K (.ref C6) (.ref C13) = some false)
    (s_NotPlain_NoRow : PySem.W.subIn K (.ref C6) (.ref C18) = some false)
    (s_NotPlain_NoSeat : PySem.W.subIn K (.ref C6) (.ref C12) = some false)
    (s_NotPlain_NoSpeed : PySem.W.subIn K (.ref C6) (.ref C4) = some false)
    (s_NotPlain_NoStep : PySem.W.subIn K (.ref C6) (.ref C10) = some false)
    (s_NotPlain_NoStretch : PySem.W.subIn K (.ref C6) (.ref C7) = some false)
    (s_NotPlain_NoText : PySem.W.subIn K (.ref C6) (.ref C3) = some false)
    (s_NotPlain_NotPlain : PySem.W.subIn K (.ref C6) (.ref C6) = some true)
    (s_NotPlain_NoWay : PySem.W.subIn K (.ref C6) (.ref C14) = some false)
    (s_NotPlain_TooMany : PySem.W.subIn K (.ref C6) (.ref C5) = some false)
    (eg_NoDeed : PySem.W.findIn K (.ref C17) "__getattribute__" = some (some (.builtin "BaseException.__getattribute__")))
    (ek_NoDeed : PySem.W.findIn K (.ref C17) "__getattr__" = some none)
    (es_NoDeed : PySem.W.subIn K (.ref C17) (.type "BaseException") = some true)
    (ed_NoDeed : PySem.W.hasDictIn K C17 = true)
    (ea_NoDeed : PySem.W.findIn K (.ref C17) "__class__" = some (some (.builtin "object.__class__")))
    (en_NoDeed : PySem.W.specialIn K (.builtin "object.__class__") "__get__" = some (some (.builtin "getset_descriptor.__get__"))) (et_NoDeed : PySem.W.takesIn K (.builtin "object.__class__") = some true) (em_NoDeed : PySem.W.mroIn K C17 (.type "object") = some true)
    (vs_NoDeed : PySem.W.subIn K (.ref C17) (.type "ValueError") = some true) (rs_NoDeed : PySem.W.subIn K (.ref C17) (.ref C0) = some true)
    (s_NoDeed_NoDeed : PySem.W.subIn K (.ref C17) (.ref C17) = some true)
    (s_NoDeed_NoFlash : PySem.W.subIn K (.ref C17) (.ref C15) = some false)
    (s_NoDeed_NoFraction : PySem.W.subIn K (.ref C17) (.ref C1) = some false)
    (s_NoDeed_NoHap : PySem.W.subIn K (.ref C17) (.ref C2) = some false)
    (s_NoDeed_NoHaps : PySem.W.subIn K (.ref C17) (.ref C8) = some false)
    (s_NoDeed_NoName : PySem.W.subIn K (.ref C17) (.ref C16) = some false)
    (s_NoDeed_NoNumber : PySem.W.subIn K (.ref C17) (.ref C11) = some false)
    (s_NoDeed_NoOrder : PySem.W.subIn K (.ref C17) (.ref C9) = some false)
    (s_NoDeed_NoRod : PySem.W.subIn K (.ref C17) (.ref C13) = some false)
    (s_NoDeed_NoRow : PySem.W.subIn K (.ref C17) (.ref C18) = some false)
    (s_NoDeed_NoSeat : PySem.W.subIn K (.ref C17) (.ref C12) = some false)
    (s_NoDeed_NoSpeed : PySem.W.subIn K (.ref C17) (.ref C4) = some false)
    (s_NoDeed_NoStep : PySem.W.subIn K (.ref C17) (.ref C10) = some false)
    (s_NoDeed_NoStretch : PySem.W.subIn K (.ref C17) (.ref C7) = some false)
    (s_NoDeed_NoText : PySem.W.subIn K (.ref C17) (.ref C3) = some false)
    (s_NoDeed_NotPlain : PySem.W.subIn K (.ref C17) (.ref C6) = some false)
    (s_NoDeed_NoWay : PySem.W.subIn K (.ref C17) (.ref C14) = some false)
    (s_NoDeed_TooMany : PySem.W.subIn K (.ref C17) (.ref C5) = some false)
    (eg_TooMany : PySem.W.findIn K (.ref C5) "__getattribute__" = some (some (.builtin "BaseException.__getattribute__")))
    (ek_TooMany : PySem.W.findIn K (.ref C5) "__getattr__" = some none)
    (es_TooMany : PySem.W.subIn K (.ref C5) (.type "BaseException") = some true)
    (ed_TooMany : PySem.W.hasDictIn K C5 = true)
    (ea_TooMany : PySem.W.findIn K (.ref C5) "__class__" = some (some (.builtin "object.__class__")))
    (en_TooMany : PySem.W.specialIn K (.builtin "object.__class__") "__get__" = some (some (.builtin "getset_descriptor.__get__"))) (et_TooMany : PySem.W.takesIn K (.builtin "object.__class__") = some true) (em_TooMany : PySem.W.mroIn K C5 (.type "object") = some true)
    (vs_TooMany : PySem.W.subIn K (.ref C5) (.type "ValueError") = some true) (rs_TooMany : PySem.W.subIn K (.ref C5) (.ref C0) = some true)
    (s_TooMany_NoDeed : PySem.W.subIn K (.ref C5) (.ref C17) = some false)
    (s_TooMany_NoFlash : PySem.W.subIn K (.ref C5) (.ref C15) = some false)
    (s_TooMany_NoFraction : PySem.W.subIn K (.ref C5) (.ref C1) = some false)
    (s_TooMany_NoHap : PySem.W.subIn K (.ref C5) (.ref C2) = some false)
    (s_TooMany_NoHaps : PySem.W.subIn K (.ref C5) (.ref C8) = some false)
    (s_TooMany_NoName : PySem.W.subIn K (.ref C5) (.ref C16) = some false)
    (s_TooMany_NoNumber : PySem.W.subIn K (.ref C5) (.ref C11) = some false)
    (s_TooMany_NoOrder : PySem.W.subIn K (.ref C5) (.ref C9) = some false)
    (s_TooMany_NoRod : PySem.W.subIn K (.ref C5) (.ref C13) = some false)
    (s_TooMany_NoRow : PySem.W.subIn K (.ref C5) (.ref C18) = some false)
    (s_TooMany_NoSeat : PySem.W.subIn K (.ref C5) (.ref C12) = some false)
    (s_TooMany_NoSpeed : PySem.W.subIn K (.ref C5) (.ref C4) = some false)
    (s_TooMany_NoStep : PySem.W.subIn K (.ref C5) (.ref C10) = some false)
    (s_TooMany_NoStretch : PySem.W.subIn K (.ref C5) (.ref C7) = some false)
    (s_TooMany_NoText : PySem.W.subIn K (.ref C5) (.ref C3) = some false)
    (s_TooMany_NotPlain : PySem.W.subIn K (.ref C5) (.ref C6) = some false)
    (s_TooMany_NoWay : PySem.W.subIn K (.ref C5) (.ref C14) = some false)
    (s_TooMany_TooMany : PySem.W.subIn K (.ref C5) (.ref C5) = some true)
    (xm_MotionError : PySem.W.subIn K (.ref C0) (.type "BaseException") = some true)
    (ic_NoDeed : PySem.W.isClsIn K C17 = true) (tc_NoDeed : PySem.W.typeIn K (.ref C17) = some (.type "type"))
    (ic_NoFlash : PySem.W.isClsIn K C15 = true) (tc_NoFlash : PySem.W.typeIn K (.ref C15) = some (.type "type"))
    (ic_NoFraction : PySem.W.isClsIn K C1 = true) (tc_NoFraction : PySem.W.typeIn K (.ref C1) = some (.type "type"))
    (ic_NoHap : PySem.W.isClsIn K C2 = true) (tc_NoHap : PySem.W.typeIn K (.ref C2) = some (.type "type"))
    (ic_NoHaps : PySem.W.isClsIn K C8 = true) (tc_NoHaps : PySem.W.typeIn K (.ref C8) = some (.type "type"))
    (ic_NoName : PySem.W.isClsIn K C16 = true) (tc_NoName : PySem.W.typeIn K (.ref C16) = some (.type "type"))
    (ic_NoNumber : PySem.W.isClsIn K C11 = true) (tc_NoNumber : PySem.W.typeIn K (.ref C11) = some (.type "type"))
    (ic_NoOrder : PySem.W.isClsIn K C9 = true) (tc_NoOrder : PySem.W.typeIn K (.ref C9) = some (.type "type"))
    (ic_NoRod : PySem.W.isClsIn K C13 = true) (tc_NoRod : PySem.W.typeIn K (.ref C13) = some (.type "type"))
    (ic_NoRow : PySem.W.isClsIn K C18 = true) (tc_NoRow : PySem.W.typeIn K (.ref C18) = some (.type "type"))
    (ic_NoSeat : PySem.W.isClsIn K C12 = true) (tc_NoSeat : PySem.W.typeIn K (.ref C12) = some (.type "type"))
    (ic_NoSpeed : PySem.W.isClsIn K C4 = true) (tc_NoSpeed : PySem.W.typeIn K (.ref C4) = some (.type "type"))
    (ic_NoStep : PySem.W.isClsIn K C10 = true) (tc_NoStep : PySem.W.typeIn K (.ref C10) = some (.type "type"))
    (ic_NoStretch : PySem.W.isClsIn K C7 = true) (tc_NoStretch : PySem.W.typeIn K (.ref C7) = some (.type "type"))
    (ic_NoText : PySem.W.isClsIn K C3 = true) (tc_NoText : PySem.W.typeIn K (.ref C3) = some (.type "type"))
    (ic_NotPlain : PySem.W.isClsIn K C6 = true) (tc_NotPlain : PySem.W.typeIn K (.ref C6) = some (.type "type"))
    (ic_NoWay : PySem.W.isClsIn K C14 = true) (tc_NoWay : PySem.W.typeIn K (.ref C14) = some (.type "type"))
    (ic_TooMany : PySem.W.isClsIn K C5 = true) (tc_TooMany : PySem.W.typeIn K (.ref C5) = some (.type "type"))
    (ic_MotionError : PySem.W.isClsIn K C0 = true) (tc_MotionError : PySem.W.typeIn K (.ref C0) = some (.type "type"))
    {t_LETTERS : Tok} (kq_LETTERS : PySem.W.nsIn K mainGlobals "LETTERS" = some (some (.str "abcdefghijklmnopqrstuvwxyz" t_LETTERS)))
    {t_LONGEST_NAME : Tok} (kq_LONGEST_NAME : PySem.W.nsIn K mainGlobals "LONGEST_NAME" = some (some (.int (8) t_LONGEST_NAME)))
    {t_MOST_NAMES : Tok} (kq_MOST_NAMES : PySem.W.nsIn K mainGlobals "MOST_NAMES" = some (some (.int (12) t_MOST_NAMES)))
    {A_NOUGHT : Addr} {sz_NOUGHT : Array (Option Value)} {nz_NOUGHT : Nat} {t0_NOUGHT : Tok} {t1_NOUGHT : Tok}
    (kq_NOUGHT : PySem.W.nsIn K mainGlobals "NOUGHT" = some (some (.ref A_NOUGHT))) (kl_NOUGHT : K.lookup A_NOUGHT = some ⟨.type "tuple", none, .seq #[.int (0) t0_NOUGHT, .int (1) t1_NOUGHT] nz_NOUGHT, sz_NOUGHT⟩)
    {A_ONE : Addr} {sz_ONE : Array (Option Value)} {nz_ONE : Nat} {t0_ONE : Tok} {t1_ONE : Tok}
    (kq_ONE : PySem.W.nsIn K mainGlobals "ONE" = some (some (.ref A_ONE))) (kl_ONE : K.lookup A_ONE = some ⟨.type "tuple", none, .seq #[.int (1) t0_ONE, .int (1) t1_ONE] nz_ONE, sz_ONE⟩)
    (m_ValueError : PySem.W.nsIn K mainGlobals "ValueError" = some none)
    (m_abs : PySem.W.nsIn K mainGlobals "abs" = some none)
    (m_all : PySem.W.nsIn K mainGlobals "all" = some none)
    (m_bool : PySem.W.nsIn K mainGlobals "bool" = some none)
    (m_dict : PySem.W.nsIn K mainGlobals "dict" = some none)
    (m_enumerate : PySem.W.nsIn K mainGlobals "enumerate" = some none)
    (m_int : PySem.W.nsIn K mainGlobals "int" = some none)
    (m_isinstance : PySem.W.nsIn K mainGlobals "isinstance" = some none)
    (m_len : PySem.W.nsIn K mainGlobals "len" = some none)
    (m_max : PySem.W.nsIn K mainGlobals "max" = some none)
    (m_min : PySem.W.nsIn K mainGlobals "min" = some none)
    (m_range : PySem.W.nsIn K mainGlobals "range" = some none)
    (m_set : PySem.W.nsIn K mainGlobals "set" = some none)
    (m_sorted : PySem.W.nsIn K mainGlobals "sorted" = some none)
    (m_str : PySem.W.nsIn K mainGlobals "str" = some none)
    (m_tuple : PySem.W.nsIn K mainGlobals "tuple" = some none)
    (g_gcd : PySem.W.nsIn K mainGlobals "gcd" = some (some (.builtin "math.gcd")))
    (g_isqrt : PySem.W.nsIn K mainGlobals "isqrt" = some (some (.builtin "math.isqrt")))
    (g_lcm : PySem.W.nsIn K mainGlobals "lcm" = some (some (.builtin "math.lcm")))
    : ∃ fd : FuncData, (∀ (s : Shared) (v : Value), BindsTo s fd ⟨[v], []⟩ [("_law_script", v)]) ∧ ∀ base : Heap, K.In base → base.Ns mainGlobals mg → FnOk l.prog w K mg base CX0 13 fa fd ["_law_script"] (spP K R_law) := by
  have F0 := fun_mk (st := s_is_whole) l0 c0 k0
  have b0 := F0.binds (ps := ["thing"]) fun _ _ _ _ _ _ us hl => match us, hl with | [_], _ => rfl
  have F1 := fun_mk (st := s_is_fraction) l1 c1 k1
  have b1 := F1.binds (ps := ["thing"]) fun _ _ _ _ _ _ us hl => match us, hl with | [_], _ => rfl
  have F2 := fun_mk (st := s_fraction) l2 c2 k2
  have b2 := F2.binds (ps := ["top", "bottom"]) fun _ _ _ _ _ _ us hl => match us, hl with | [_, _], _ => rfl
  have F3 := fun_mk (st := s_plus) l3 c3 k3
  have b3 := F3.binds (ps := ["one", "other"]) fun _ _ _ _ _ _ us hl => match us, hl with | [_, _], _ => rfl
  have F4 := fun_mk (st := s_less) l4 c4 k4
  have b4 := F4.binds (ps := ["one", "other"]) fun _ _ _ _ _ _ us hl => match us, hl with | [_, _], _ => rfl
  have F5 := fun_mk (st := s_times) l5 c5 k5
  have b5 := F5.binds (ps := ["one", "other"]) fun _ _ _ _ _ _ us hl => match us, hl with | [_, _], _ => rfl
  have F6 := fun_mk (st := s_by) l6 c6 k6
  have b6 := F6.binds (ps := ["one", "other"]) fun _ _ _ _ _ _ us hl => match us, hl with | [_, _], _ => rfl
  have F7 := fun_mk (st := s_is_less) l7 c7 k7
  have b7 := F7.binds (ps := ["one", "other"]) fun _ _ _ _ _ _ us hl => match us, hl with | [_, _], _ => rfl
  have F8 := fun_mk (st := s_rising) l8 c8 k8
  have b8 := F8.binds (ps := ["ones"]) fun _ _ _ _ _ _ us hl => match us, hl with | [_], _ => rfl
  have F9 := fun_mk (st := s_root_of) l9 c9 k9
  have b9 := F9.binds (ps := ["one"]) fun _ _ _ _ _ _ us hl => match us, hl with | [_], _ => rfl
  have F10 := fun_mk (st := s_is_hap) l10 c10 k10
  have b10 := F10.binds (ps := ["thing"]) fun _ _ _ _ _ _ us hl => match us, hl with | [_], _ => rfl
  have F11 := fun_mk (st := s_is_speed) l11 c11 k11
  have b11 := F11.binds (ps := ["thing"]) fun _ _ _ _ _ _ us hl => match us, hl with | [_], _ => rfl
  have F12 := fun_mk (st := s_check_speed) l12 c12 k12
  have b12 := F12.binds (ps := ["thing"]) fun _ _ _ _ _ _ us hl => match us, hl with | [_], _ => rfl
  have F13 := fun_mk (st := s_together) l13 c13 k13
  have b13 := F13.binds (ps := ["one", "other"]) fun _ _ _ _ _ _ us hl => match us, hl with | [_, _], _ => rfl
  have F14 := fun_mk (st := s_beat_or_none) l14 c14 k14
  have b14 := F14.binds (ps := ["speed"]) fun _ _ _ _ _ _ us hl => match us, hl with | [_], _ => rfl
  have F15 := fun_mk (st := s_is_plain) l15 c15 k15
  have b15 := F15.binds (ps := ["speed"]) fun _ _ _ _ _ _ us hl => match us, hl with | [_], _ => rfl
  have F16 := fun_mk (st := s_check_plain) l16 c16 k16
  have b16 := F16.binds (ps := ["speed"]) fun _ _ _ _ _ _ us hl => match us, hl with | [_], _ => rfl
  have F17 := fun_mk (st := s_beat_of) l17 c17 k17
  have b17 := F17.binds (ps := ["speed"]) fun _ _ _ _ _ _ us hl => match us, hl with | [_], _ => rfl
  have F18 := fun_mk (st := s_lapse_and_gap) l18 c18 k18
  have b18 := F18.binds (ps := ["one", "other"]) fun _ _ _ _ _ _ us hl => match us, hl with | [_, _], _ => rfl
  have F19 := fun_mk (st := s_kind_of) l19 c19 k19
  have b19 := F19.binds (ps := ["one", "other"]) fun _ _ _ _ _ _ us hl => match us, hl with | [_, _], _ => rfl
  have F20 := fun_mk (st := s_standing) l20 c20 k20
  have b20 := F20.binds (ps := ["haps", "speed"]) fun _ _ _ _ _ _ us hl => match us, hl with | [_, _], _ => rfl
  have F21 := fun_mk (st := s_is_seat) l21 c21 k21
  have b21 := F21.binds (ps := ["thing"]) fun _ _ _ _ _ _ us hl => match us, hl with | [_], _ => rfl
  have F22 := fun_mk (st := s_check_seat) l22 c22 k22
  have b22 := F22.binds (ps := ["thing"]) fun _ _ _ _ _ _ us hl => match us, hl with | [_], _ => rfl
  have F23 := fun_mk (st := s_check_hap) l23 c23 k23
  have b23 := F23.binds (ps := ["thing"]) fun _ _ _ _ _ _ us hl => match us, hl with | [_], _ => rfl
  have F24 := fun_mk (st := s_seen_from) l24 c24 k24
  have b24 := F24.binds (ps := ["speed", "lapse", "gap"]) fun _ _ _ _ _ _ us hl => match us, hl with | [_, _, _], _ => rfl
  have F25 := fun_mk (st := s_told_from) l25 c25 k25
  have b25 := F25.binds (ps := ["seat", "hap"]) fun _ _ _ _ _ _ us hl => match us, hl with | [_, _], _ => rfl
  have F26 := fun_mk (st := s_is_name) l26 c26 k26
  have b26 := F26.binds (ps := ["thing"]) fun _ _ _ _ _ _ us hl => match us, hl with | [_], _ => rfl
  have F27 := fun_mk (st := s_Bench___init__) l27 c27 k27
  have b27 := F27.binds (ps := ["self"]) fun _ _ _ _ _ _ us hl => match us, hl with | [_], _ => rfl
  have F28 := fun_mk (st := s_Bench__do) l28 c28 k28
  have b28 := F28.binds (ps := ["self", "haps", "speed"]) fun _ _ _ _ _ _ us hl => match us, hl with | [_, _, _], _ => rfl
  have F29 := fun_mk (st := s_Bench_put) l29 c29 k29
  have b29 := F29.binds (ps := ["self", "name", "hap"]) fun _ _ _ _ _ _ us hl => match us, hl with | [_, _, _], _ => rfl
  have F30 := fun_mk (st := s_Bench__hap_of) l30 c30 k30
  have b30 := F30.binds (ps := ["self", "name"]) fun _ _ _ _ _ _ us hl => match us, hl with | [_, _], _ => rfl
  have F31 := fun_mk (st := s_Bench_drop) l31 c31 k31
  have b31 := F31.binds (ps := ["self", "name"]) fun _ _ _ _ _ _ us hl => match us, hl with | [_, _], _ => rfl
  have F32 := fun_mk (st := s_Bench_turn) l32 c32 k32
  have b32 := F32.binds (ps := ["self", "speed"]) fun _ _ _ _ _ _ us hl => match us, hl with | [_, _], _ => rfl
  have F33 := fun_mk (st := s_Bench_push) l33 c33 k33
  have b33 := F33.binds (ps := ["self", "speed"]) fun _ _ _ _ _ _ us hl => match us, hl with | [_, _], _ => rfl
  have F34 := fun_mk (st := s_Bench_undo) l34 c34 k34
  have b34 := F34.binds (ps := ["self"]) fun _ _ _ _ _ _ us hl => match us, hl with | [_], _ => rfl
  have F35 := fun_mk (st := s_Bench_names) l35 c35 k35
  have b35 := F35.binds (ps := ["self"]) fun _ _ _ _ _ _ us hl => match us, hl with | [_], _ => rfl
  have F36 := fun_mk (st := s_Bench_speed) l36 c36 k36
  have b36 := F36.binds (ps := ["self"]) fun _ _ _ _ _ _ us hl => match us, hl with | [_], _ => rfl
  have F37 := fun_mk (st := s_Bench_tell) l37 c37 k37
  have b37 := F37.binds (ps := ["self", "name"]) fun _ _ _ _ _ _ us hl => match us, hl with | [_, _], _ => rfl
  have F38 := fun_mk (st := s_Bench_order) l38 c38 k38
  have b38 := F38.binds (ps := ["self"]) fun _ _ _ _ _ _ us hl => match us, hl with | [_], _ => rfl
  have F39 := fun_mk (st := s_Bench_kind) l39 c39 k39
  have b39 := F39.binds (ps := ["self", "one", "other"]) fun _ _ _ _ _ _ us hl => match us, hl with | [_, _, _], _ => rfl
  have F40 := fun_mk (st := s__law_cell_at) l40 c40 k40
  have b40 := F40.binds (ps := ["_law_script", "_law_k"]) fun _ _ _ _ _ _ us hl => match us, hl with | [_, _], _ => rfl
  have F41 := fun_mk (st := s__law_pot) l41 c41 k41
  have b41 := F41.binds (ps := ["_law_cell"]) fun _ _ _ _ _ _ us hl => match us, hl with | [_], _ => rfl
  have F42 := fun_mk (st := s__law_take) l42 c42 k42
  have b42 := F42.binds (ps := ["_law_pot_here", "_law_far"]) fun _ _ _ _ _ _ us hl => match us, hl with | [_, _], _ => rfl
  have F43 := fun_mk (st := s__law_fresh) l43 c43 k43
  have b43 := F43.binds (ps := []) fun _ _ _ _ _ _ us hl => match us, hl with | [], _ => rfl
  have F44 := fun_mk (st := s__law_named) l44 c44 k44
  have b44 := F44.binds (ps := ["_law_pot_here"]) fun _ _ _ _ _ _ us hl => match us, hl with | [_], _ => rfl
  have F45 := fun_mk (st := s__law_low) l45 c45 k45
  have b45 := F45.binds (ps := ["_law_top", "_law_bottom"]) fun _ _ _ _ _ _ us hl => match us, hl with | [_, _], _ => rfl
  have F46 := fun_mk (st := s__law_hap) l46 c46 k46
  have b46 := F46.binds (ps := ["_law_pot_here"]) fun _ _ _ _ _ _ us hl => match us, hl with | [_], _ => rfl
  have F47 := fun_mk (st := s__law_stretch) l47 c47 k47
  have b47 := F47.binds (ps := ["_law_pot_here"]) fun _ _ _ _ _ _ us hl => match us, hl with | [_], _ => rfl
  have F48 := fun_mk (st := s__law_fast) l48 c48 k48
  have b48 := F48.binds (ps := ["_law_pot_here"]) fun _ _ _ _ _ _ us hl => match us, hl with | [_], _ => rfl
  have F49 := fun_mk (st := s__law_speed) l49 c49 k49
  have b49 := F49.binds (ps := ["_law_pot_here"]) fun _ _ _ _ _ _ us hl => match us, hl with | [_], _ => rfl
  have F50 := fun_mk (st := s__law_deed) l50 c50 k50
  have b50 := F50.binds (ps := ["_law_pot_here"]) fun _ _ _ _ _ _ us hl => match us, hl with | [_], _ => rfl
  have F51 := fun_mk (st := s__law_whole) l51 c51 k51
  have b51 := F51.binds (ps := ["_law_thing"]) fun _ _ _ _ _ _ us hl => match us, hl with | [_], _ => rfl
  have F52 := fun_mk (st := s__law_good) l52 c52 k52
  have b52 := F52.binds (ps := ["_law_thing"]) fun _ _ _ _ _ _ us hl => match us, hl with | [_], _ => rfl
  have F53 := fun_mk (st := s__law_is_it) l53 c53 k53
  have b53 := F53.binds (ps := ["_law_thing"]) fun _ _ _ _ _ _ us hl => match us, hl with | [_], _ => rfl
  have F54 := fun_mk (st := s__law_named_well) l54 c54 k54
  have b54 := F54.binds (ps := ["_law_thing"]) fun _ _ _ _ _ _ us hl => match us, hl with | [_], _ => rfl
  have F55 := fun_mk (st := s__law_is_fast) l55 c55 k55
  have b55 := F55.binds (ps := ["_law_thing"]) fun _ _ _ _ _ _ us hl => match us, hl with | [_], _ => rfl
  have F56 := fun_mk (st := s__law_root) l56 c56 k56
  have b56 := F56.binds (ps := ["_law_number"]) fun _ _ _ _ _ _ us hl => match us, hl with | [_], _ => rfl
  have F57 := fun_mk (st := s__law_rooted) l57 c57 k57
  have b57 := F57.binds (ps := ["_law_one"]) fun _ _ _ _ _ _ us hl => match us, hl with | [_], _ => rfl
  have F58 := fun_mk (st := s__law_gap) l58 c58 k58
  have b58 := F58.binds (ps := ["_law_one", "_law_other"]) fun _ _ _ _ _ _ us hl => match us, hl with | [_, _], _ => rfl
  have F59 := fun_mk (st := s__law_prod) l59 c59 k59
  have b59 := F59.binds (ps := ["_law_one", "_law_other"]) fun _ _ _ _ _ _ us hl => match us, hl with | [_, _], _ => rfl
  have F60 := fun_mk (st := s__law_beat) l60 c60 k60
  have b60 := F60.binds (ps := ["_law_speed_here"]) fun _ _ _ _ _ _ us hl => match us, hl with | [_], _ => rfl
  have F61 := fun_mk (st := s__law_refused_as) l61 c61 k61
  have b61 := F61.binds (ps := ["_law_state", "_law_word_here", "_law_told_here"]) fun _ _ _ _ _ _ us hl => match us, hl with | [_, _, _], _ => rfl
  have F62 := fun_mk (st := s__law_sum) l62 c62 k62
  have b62 := F62.binds (ps := ["_law_one", "_law_other"]) fun _ _ _ _ _ _ us hl => match us, hl with | [_, _], _ => rfl
  have F63 := fun_mk (st := s__law_quot) l63 c63 k63
  have b63 := F63.binds (ps := ["_law_one", "_law_other"]) fun _ _ _ _ _ _ us hl => match us, hl with | [_, _], _ => rfl
  have F64 := fun_mk (st := s__law_joined) l64 c64 k64
  have b64 := F64.binds (ps := ["_law_one", "_law_other"]) fun _ _ _ _ _ _ us hl => match us, hl with | [_, _], _ => rfl
  have F65 := fun_mk (st := s__law_kept) l65 c65 k65
  have b65 := F65.binds (ps := ["_law_state", "_law_word_here", "_law_told_here"]) fun _ _ _ _ _ _ us hl => match us, hl with | [_, _, _], _ => rfl
  have F66 := fun_mk (st := s__law_kind_of) l66 c66 k66
  have b66 := F66.binds (ps := ["_law_e"]) fun _ _ _ _ _ _ us hl => match us, hl with | [_], _ => rfl
  have F67 := fun_mk (st := s__law_done) l67 c67 k67
  have b67 := F67.binds (ps := ["_law_bench", "_law_word_here", "_law_told_here"]) fun _ _ _ _ _ _ us hl => match us, hl with | [_, _, _], _ => rfl
  have F68 := fun_mk (st := s__law_apart) l68 c68 k68
  have b68 := F68.binds (ps := ["_law_one", "_law_other"]) fun _ _ _ _ _ _ us hl => match us, hl with | [_, _], _ => rfl
  have F69 := fun_mk (st := s__law_word) l69 c69 k69
  have b69 := F69.binds (ps := ["_law_one", "_law_other"]) fun _ _ _ _ _ _ us hl => match us, hl with | [_, _], _ => rfl
  have F70 := fun_mk (st := s__law_told) l70 c70 k70
  have b70 := F70.binds (ps := ["_law_bench", "_law_names"]) fun _ _ _ _ _ _ us hl => match us, hl with | [_, _], _ => rfl
  have F71 := fun_mk (st := s__law_words_right) l71 c71 k71
  have b71 := F71.binds (ps := ["_law_pot_here", "_law_bench", "_law_state"]) fun _ _ _ _ _ _ us hl => match us, hl with | [_, _, _], _ => rfl
  have F72 := fun_mk (st := s__law_full_right) l72 c72 k72
  have b72 := F72.binds (ps := ["_law_pot_here"]) fun _ _ _ _ _ _ us hl => match us, hl with | [_], _ => rfl
  have F73 := fun_mk (st := s_law) l73 c73 k73
  have b73 := F73.binds (ps := ["_law_script"]) fun _ _ _ _ _ _ us hl => match us, hl with | [_], _ => rfl
  have T : Txt K mg (fun n => ([C0, C1, C2, C3, C4, C5, C6, C7, C8, C9, C10, C11, C12, C13, C14, C15, C16, C17, C18, C19] : List Addr).getD n 0) (fun n => ([f0, f1, f2, f3, f4, f5, f6, f7, f8, f9, f10, f11, f12, f13, f14, f15, f16, f17, f18, f19, f20, f21, f22, f23, f24, f25, f26, f27, f28, f29, f30, f31, f32, f33, f34, f35, f36, f37, f38, f39, f40, f41, f42, f43, f44, f45, f46, f47, f48, f49, f50, f51, f52, f53, f54, f55, f56, f57, f58, f59, f60, f61, f62, f63, f64, f65, f66, f67, f68, f69, f70, f71, f72, f73] : List Addr).getD n 0) (fun n => ([0, 0, 0, A_NOUGHT, A_ONE] : List Addr).getD n 0) := {
    v_LETTERS := ⟨_, PySem.W.mg_of X G kq_LETTERS, ⟨_, rfl⟩⟩
    v_LONGEST_NAME := ⟨_, PySem.W.mg_of X G kq_LONGEST_NAME, ⟨_, rfl⟩⟩
    v_MOST_NAMES := ⟨_, PySem.W.mg_of X G kq_MOST_NAMES, ⟨_, rfl⟩⟩
    v_NOUGHT := PySem.W.mg_of X G kq_NOUGHT
    w_NOUGHT := fun H => .inr ⟨_, _, _, kl_NOUGHT, rfl, rfl, rfl, (by show 2 ≤ sizeLine; decide), .cons ⟨_, rfl⟩ (.cons ⟨_, rfl⟩ .nil)⟩
    v_ONE := PySem.W.mg_of X G kq_ONE
    w_ONE := fun H => .inr ⟨_, _, _, kl_ONE, rfl, rfl, rfl, (by show 2 ≤ sizeLine; decide), .cons ⟨_, rfl⟩ (.cons ⟨_, rfl⟩ .nil)⟩
    d_is_whole := ⟨_, _, F0, PySem.W.mg_of X G a0, b0⟩
    d_is_fraction := ⟨_, _, F1, PySem.W.mg_of X G a1, b1⟩
    d_fraction := ⟨_, _, F2, PySem.W.mg_of X G a2, b2⟩
    d_plus := ⟨_, _, F3, PySem.W.mg_of X G a3, b3⟩
    d_less := ⟨_, _, F4, PySem.W.mg_of X G a4, b4⟩
    d_times := ⟨_, _, F5, PySem.W.mg_of X G a5, b5⟩
    d_by := ⟨_, _, F6, PySem.W.mg_of X G a6, b6⟩
    d_is_less := ⟨_, _, F7, PySem.W.mg_of X G a7, b7⟩
    d_rising := ⟨_, _, F8, PySem.W.mg_of X G a8, b8⟩
    d_root_of := ⟨_, _, F9, PySem.W.mg_of X G a9, b9⟩
    d_is_hap := ⟨_, _, F10, PySem.W.mg_of X G a10, b10⟩
    d_is_speed := ⟨_, _, F11, PySem.W.mg_of X G a11, b11⟩
    d_check_speed := ⟨_, _, F12, PySem.W.mg_of X G a12, b12⟩
    d_together := ⟨_, _, F13, PySem.W.mg_of X G a13, b13⟩
    d_beat_or_none := ⟨_, _, F14, PySem.W.mg_of X G a14, b14⟩
    d_is_plain := ⟨_, _, F15, PySem.W.mg_of X G a15, b15⟩
    d_check_plain := ⟨_, _, F16, PySem.W.mg_of X G a16, b16⟩
    d_beat_of := ⟨_, _, F17, PySem.W.mg_of X G a17, b17⟩
    d_lapse_and_gap := ⟨_, _, F18, PySem.W.mg_of X G a18, b18⟩
    d_kind_of := ⟨_, _, F19, PySem.W.mg_of X G a19, b19⟩
    d_standing := ⟨_, _, F20, PySem.W.mg_of X G a20, b20⟩
    d_is_seat := ⟨_, _, F21, PySem.W.mg_of X G a21, b21⟩
    d_check_seat := ⟨_, _, F22, PySem.W.mg_of X G a22, b22⟩
    d_check_hap := ⟨_, _, F23, PySem.W.mg_of X G a23, b23⟩
    d_seen_from := ⟨_, _, F24, PySem.W.mg_of X G a24, b24⟩
    d_told_from := ⟨_, _, F25, PySem.W.mg_of X G a25, b25⟩
    d_is_name := ⟨_, _, F26, PySem.W.mg_of X G a26, b26⟩
    d_Bench___init__ := ⟨_, _, F27, ⟨bmk_Bench, a27, i27, bkc_Bench⟩, b27⟩
    cl_Bench := ⟨bpg_Bench, bhd_Bench, bpo_Bench, bsa_Bench⟩
    na_Bench__haps := bna_Bench__haps
    na_Bench__speed := bna_Bench__speed
    na_Bench__past := bna_Bench__past
    d_Bench__do := ⟨_, _, F28, ⟨a28, i28, k28⟩, b28⟩
    d_Bench_put := ⟨_, _, F29, ⟨a29, i29, k29⟩, b29⟩
    d_Bench__hap_of := ⟨_, _, F30, ⟨a30, i30, k30⟩, b30⟩
    d_Bench_drop := ⟨_, _, F31, ⟨a31, i31, k31⟩, b31⟩
    d_Bench_turn := ⟨_, _, F32, ⟨a32, i32, k32⟩, b32⟩
    d_Bench_push := ⟨_, _, F33, ⟨a33, i33, k33⟩, b33⟩
    d_Bench_undo := ⟨_, _, F34, ⟨a34, i34, k34⟩, b34⟩
    d_Bench_names := ⟨_, _, F35, ⟨a35, i35, k35⟩, b35⟩
    d_Bench_speed := ⟨_, _, F36, ⟨a36, i36, k36⟩, b36⟩
    d_Bench_tell := ⟨_, _, F37, ⟨a37, i37, k37⟩, b37⟩
    d_Bench_order := ⟨_, _, F38, ⟨a38, i38, k38⟩, b38⟩
    d_Bench_kind := ⟨_, _, F39, ⟨a39, i39, k39⟩, b39⟩
    d__law_cell_at := ⟨_, _, F40, PySem.W.mg_of X G a40, b40⟩
    d__law_pot := ⟨_, _, F41, PySem.W.mg_of X G a41, b41⟩
    d__law_take := ⟨_, _, F42, PySem.W.mg_of X G a42, b42⟩
    d__law_fresh := ⟨_, _, F43, PySem.W.mg_of X G a43, b43⟩
    d__law_named := ⟨_, _, F44, PySem.W.mg_of X G a44, b44⟩
    d__law_low := ⟨_, _, F45, PySem.W.mg_of X G a45, b45⟩
    d__law_hap := ⟨_, _, F46, PySem.W.mg_of X G a46, b46⟩
    d__law_stretch := ⟨_, _, F47, PySem.W.mg_of X G a47, b47⟩
    d__law_fast := ⟨_, _, F48, PySem.W.mg_of X G a48, b48⟩
    d__law_speed := ⟨_, _, F49, PySem.W.mg_of X G a49, b49⟩
    d__law_deed := ⟨_, _, F50, PySem.W.mg_of X G a50, b50⟩
    d__law_whole := ⟨_, _, F51, PySem.W.mg_of X G a51, b51⟩
    d__law_good := ⟨_, _, F52, PySem.W.mg_of X G a52, b52⟩
    d__law_is_it := ⟨_, _, F53, PySem.W.mg_of X G a53, b53⟩
    d__law_named_well := ⟨_, _, F54, PySem.W.mg_of X G a54, b54⟩
    d__law_is_fast := ⟨_, _, F55, PySem.W.mg_of X G a55, b55⟩
    d__law_root := ⟨_, _, F56, PySem.W.mg_of X G a56, b56⟩
    d__law_rooted := ⟨_, _, F57, PySem.W.mg_of X G a57, b57⟩
    d__law_gap := ⟨_, _, F58, PySem.W.mg_of X G a58, b58⟩
    d__law_prod := ⟨_, _, F59, PySem.W.mg_of X G a59, b59⟩
    d__law_beat := ⟨_, _, F60, PySem.W.mg_of X G a60, b60⟩
    d__law_refused_as := ⟨_, _, F61, PySem.W.mg_of X G a61, b61⟩
    d__law_sum := ⟨_, _, F62, PySem.W.mg_of X G a62, b62⟩
    d__law_quot := ⟨_, _, F63, PySem.W.mg_of X G a63, b63⟩
    d__law_joined := ⟨_, _, F64, PySem.W.mg_of X G a64, b64⟩
    d__law_kept := ⟨_, _, F65, PySem.W.mg_of X G a65, b65⟩
    d__law_kind_of := ⟨_, _, F66, PySem.W.mg_of X G a66, b66⟩
    d__law_done := ⟨_, _, F67, PySem.W.mg_of X G a67, b67⟩
    d__law_apart := ⟨_, _, F68, PySem.W.mg_of X G a68, b68⟩
    d__law_word := ⟨_, _, F69, PySem.W.mg_of X G a69, b69⟩
    d__law_told := ⟨_, _, F70, PySem.W.mg_of X G a70, b70⟩
    d__law_words_right := ⟨_, _, F71, PySem.W.mg_of X G a71, b71⟩
    d__law_full_right := ⟨_, _, F72, PySem.W.mg_of X G a72, b72⟩
    d_law := ⟨_, _, F73, PySem.W.mg_of X G a73, b73⟩
    m_ValueError := PySem.W.mg_none_of X G m_ValueError
    m_abs := PySem.W.mg_none_of X G m_abs
    m_all := PySem.W.mg_none_of X G m_all
    m_bool := PySem.W.mg_none_of X G m_bool
    m_dict := PySem.W.mg_none_of X G m_dict
    m_enumerate := PySem.W.mg_none_of X G m_enumerate
    m_int := PySem.W.mg_none_of X G m_int
    m_isinstance := PySem.W.mg_none_of X G m_isinstance
    m_len := PySem.W.mg_none_of X G m_len
    m_max := PySem.W.mg_none_of X G m_max
    m_min := PySem.W.mg_none_of X G m_min
    m_range := PySem.W.mg_none_of X G m_range
    m_set := PySem.W.mg_none_of X G m_set
    m_sorted := PySem.W.mg_none_of X G m_sorted
    m_str := PySem.W.mg_none_of X G m_str
    m_tuple := PySem.W.mg_none_of X G m_tuple
    g_gcd := PySem.W.mg_of X G g_gcd
    g_isqrt := PySem.W.mg_of X G g_isqrt
    g_lcm := PySem.W.mg_of X G g_lcm
    c_MotionError := PySem.W.mg_of X G q_MotionError
    c_NoFraction := PySem.W.mg_of X G q_NoFraction
    x_NoFraction := ⟨PySem.W.mg_of X G q_NoFraction, xk_NoFraction, xb_NoFraction, xt_NoFraction, xx_NoFraction⟩
    c_NoHap := PySem.W.mg_of X G q_NoHap
    x_NoHap := ⟨PySem.W.mg_of X G q_NoHap, xk_NoHap, xb_NoHap, xt_NoHap, xx_NoHap⟩
    c_NoText := PySem.W.mg_of X G q_NoText
    c_NoSpeed := PySem.W.mg_of X G q_NoSpeed
    x_NoSpeed := ⟨PySem.W.mg_of X G q_NoSpeed, xk_NoSpeed, xb_NoSpeed, xt_NoSpeed, xx_NoSpeed⟩
    c_TooMany := PySem.W.mg_of X G q_TooMany
    x_TooMany := ⟨PySem.W.mg_of X G q_TooMany, xk_TooMany, xb_TooMany, xt_TooMany, xx_TooMany⟩
    c_NotPlain := PySem.W.mg_of X G q_NotPlain
    x_NotPlain := ⟨PySem.W.mg_of X G q_NotPlain, xk_NotPlain, xb_NotPlain, xt_NotPlain, xx_NotPlain⟩
    c_NoStretch := PySem.W.mg_of X G q_NoStretch
    c_NoHaps := PySem.W.mg_of X G q_NoHaps
    c_NoOrder := PySem.W.mg_of X G q_NoOrder
    c_NoStep := PySem.W.mg_of X G q_NoStep
    c_NoNumber := PySem.W.mg_of X G q_NoNumber
    c_NoSeat := PySem.W.mg_of X G q_NoSeat
    x_NoSeat := ⟨PySem.W.mg_of X G q_NoSeat, xk_NoSeat, xb_NoSeat, xt_NoSeat, xx_NoSeat⟩
    c_NoRod := PySem.W.mg_of X G q_NoRod
    c_NoWay := PySem.W.mg_of X G q_NoWay
    c_NoFlash := PySem.W.mg_of X G q_NoFlash
    c_NoName := PySem.W.mg_of X G q_NoName
    x_NoName := ⟨PySem.W.mg_of X G q_NoName, xk_NoName, xb_NoName, xt_NoName, xx_NoName⟩
    c_NoDeed := PySem.W.mg_of X G q_NoDeed
    x_NoDeed := ⟨PySem.W.mg_of X G q_NoDeed, xk_NoDeed, xb_NoDeed, xt_NoDeed, xx_NoDeed⟩
    c_NoRow := PySem.W.mg_of X G q_NoRow
    c_Bench := PySem.W.mg_of X G q_Bench
    e_NoName := ⟨eg_NoName, ek_NoName, es_NoName, ed_NoName, ea_NoName, en_NoName, et_NoName, em_NoName⟩
    v_NoName := kit_val vs_NoName
    r_NoName := exm_own xm_MotionError ic_MotionError tc_MotionError rs_NoName
    k_NoName_NoDeed := kit_not ic_NoDeed tc_NoDeed s_NoName_NoDeed s_NoName_NoName
    k_NoName_NoFlash := kit_not ic_NoFlash tc_NoFlash s_NoName_NoFlash s_NoName_NoName
    k_NoName_NoFraction := kit_not ic_NoFraction tc_NoFraction s_NoName_NoFraction s_NoName_NoName
    k_NoName_NoHap := kit_not ic_NoHap tc_NoHap s_NoName_NoHap s_NoName_NoName
    k_NoName_NoHaps := kit_not ic_NoHaps tc_NoHaps s_NoName_NoHaps s_NoName_NoName
    k_NoName_NoName := kit_self
    k_NoName_NoNumber := kit_not ic_NoNumber tc_NoNumber s_NoName_NoNumber s_NoName_NoName
    k_NoName_NoOrder := kit_not ic_NoOrder tc_NoOrder s_NoName_NoOrder s_NoName_NoName
    k_NoName_NoRod := kit_not ic_NoRod tc_NoRod s_NoName_NoRod s_NoName_NoName
    k_NoName_NoRow := kit_not ic_NoRow tc_NoRow s_NoName_NoRow s_NoName_NoName
    k_NoName_NoSeat := kit_not ic_NoSeat tc_NoSeat s_NoName_NoSeat s_NoName_NoName
    k_NoName_NoSpeed := kit_not ic_NoSpeed tc_NoSpeed s_NoName_NoSpeed s_NoName_NoName
    k_NoName_NoStep := kit_not ic_NoStep tc_NoStep s_NoName_NoStep s_NoName_NoName
    k_NoName_NoStretch := kit_not ic_NoStretch tc_NoStretch s_NoName_NoStretch s_NoName_NoName
    k_NoName_NoText := kit_not ic_NoText tc_NoText s_NoName_NoText s_NoName_NoName
    k_NoName_NotPlain := kit_not ic_NotPlain tc_NotPlain s_NoName_NotPlain s_NoName_NoName
    k_NoName_NoWay := kit_not ic_NoWay tc_NoWay s_NoName_NoWay s_NoName_NoName
    k_NoName_TooMany := kit_not ic_TooMany tc_TooMany s_NoName_TooMany s_NoName_NoName
    e_NoHap := ⟨eg_NoHap, ek_NoHap, es_NoHap, ed_NoHap, ea_NoHap, en_NoHap, et_NoHap, em_NoHap⟩
    v_NoHap := kit_val vs_NoHap
    r_NoHap := exm_own xm_MotionError ic_MotionError tc_MotionError rs_NoHap
    k_NoHap_NoDeed := kit_not ic_NoDeed tc_NoDeed s_NoHap_NoDeed s_NoHap_NoHap
    k_NoHap_NoFlash := kit_not ic_NoFlash tc_NoFlash s_NoHap_NoFlash s_NoHap_NoHap
    k_NoHap_NoFraction := kit_not ic_NoFraction tc_NoFraction s_NoHap_NoFraction s_NoHap_NoHap
    k_NoHap_NoHap := kit_self
    k_NoHap_NoHaps := kit_not ic_NoHaps tc_NoHaps s_NoHap_NoHaps s_NoHap_NoHap
    k_NoHap_NoName := kit_not ic_NoName tc_NoName s_NoHap_NoName s_NoHap_NoHap
    k_NoHap_NoNumber := kit_not ic_NoNumber tc_NoNumber s_NoHap_NoNumber s_NoHap_NoHap
    k_NoHap_NoOrder := kit_not ic_NoOrder tc_NoOrder s_NoHap_NoOrder s_NoHap_NoHap
    k_NoHap_NoRod := kit_not ic_NoRod tc_NoRod s_NoHap_NoRod s_NoHap_NoHap
    k_NoHap_NoRow := kit_not ic_NoRow tc_NoRow s_NoHap_NoRow s_NoHap_NoHap
    k_NoHap_NoSeat := kit_not ic_NoSeat tc_NoSeat s_NoHap_NoSeat s_NoHap_NoHap
    k_NoHap_NoSpeed := kit_not ic_NoSpeed tc_NoSpeed s_NoHap_NoSpeed s_NoHap_NoHap
    k_NoHap_NoStep := kit_not ic_NoStep tc_NoStep s_NoHap_NoStep s_NoHap_NoHap
    k_NoHap_NoStretch := kit_not ic_NoStretch tc_NoStretch s_NoHap_NoStretch s_NoHap_NoHap
    k_NoHap_NoText := kit_not ic_NoText tc_NoText s_NoHap_NoText s_NoHap_NoHap
    k_NoHap_NotPlain := kit_not ic_NotPlain tc_NotPlain s_NoHap_NotPlain s_NoHap_NoHap
    k_NoHap_NoWay := kit_not ic_NoWay tc_NoWay s_NoHap_NoWay s_NoHap_NoHap
    k_NoHap_TooMany := kit_not ic_TooMany tc_TooMany s_NoHap_TooMany s_NoHap_NoHap
    e_NoSpeed := ⟨eg_NoSpeed, ek_NoSpeed, es_NoSpeed, ed_NoSpeed, ea_NoSpeed, en_NoSpeed, et_NoSpeed, em_NoSpeed⟩
    v_NoSpeed := kit_val vs_NoSpeed
    r_NoSpeed := exm_own xm_MotionError ic_MotionError tc_MotionError rs_NoSpeed
    k_NoSpeed_NoDeed := kit_not ic_NoDeed tc_NoDeed s_NoSpeed_NoDeed s_NoSpeed_NoSpeed
    k_NoSpeed_NoFlash := kit_not ic_NoFlash tc_NoFlash s_NoSpeed_NoFlash s_NoSpeed_NoSpeed
    k_NoSpeed_NoFraction := kit_not ic_NoFraction tc_NoFraction s_NoSpeed_NoFraction s_NoSpeed_NoSpeed
    k_NoSpeed_NoHap := kit_not ic_NoHap tc_NoHap s_NoSpeed_NoHap s_NoSpeed_NoSpeed
    k_NoSpeed_NoHaps := kit_not ic_NoHaps tc_NoHaps s_NoSpeed_NoHaps s_NoSpeed_NoSpeed
    k_NoSpeed_NoName := kit_not ic_NoName tc_NoName s_NoSpeed_NoName s_NoSpeed_NoSpeed
    k_NoSpeed_NoNumber := kit_not ic_NoNumber tc_NoNumber s_NoSpeed_NoNumber s_NoSpeed_NoSpeed
    k_NoSpeed_NoOrder := kit_not ic_NoOrder tc_NoOrder s_NoSpeed_NoOrder s_NoSpeed_NoSpeed
    k_NoSpeed_NoRod := kit_not ic_NoRod tc_NoRod s_NoSpeed_NoRod s_NoSpeed_NoSpeed
    k_NoSpeed_NoRow := kit_not ic_NoRow tc_NoRow s_NoSpeed_NoRow s_NoSpeed_NoSpeed
    k_NoSpeed_NoSeat := kit_not ic_NoSeat tc_NoSeat s_NoSpeed_NoSeat s_NoSpeed_NoSpeed
    k_NoSpeed_NoSpeed := kit_self
    k_NoSpeed_NoStep := kit_not ic_NoStep tc_NoStep s_NoSpeed_NoStep s_NoSpeed_NoSpeed
    k_NoSpeed_NoStretch := kit_not ic_NoStretch tc_NoStretch s_NoSpeed_NoStretch s_NoSpeed_NoSpeed
    k_NoSpeed_NoText := kit_not ic_NoText tc_NoText s_NoSpeed_NoText s_NoSpeed_NoSpeed
    k_NoSpeed_NotPlain := kit_not ic_NotPlain tc_NotPlain s_NoSpeed_NotPlain s_NoSpeed_NoSpeed
    k_NoSpeed_NoWay := kit_not ic_NoWay tc_NoWay s_NoSpeed_NoWay s_NoSpeed_NoSpeed
    k_NoSpeed_TooMany := kit_not ic_TooMany tc_TooMany s_NoSpeed_TooMany s_NoSpeed_NoSpeed
    e_NotPlain := ⟨eg_NotPlain, ek_NotPlain, es_NotPlain, ed_NotPlain, ea_NotPlain, en_NotPlain, et_NotPlain, em_NotPlain⟩
    v_NotPlain := kit_val vs_NotPlain
    r_NotPlain := exm_own xm_MotionError ic_MotionError tc_MotionError rs_NotPlain
    k_NotPlain_NoDeed := kit_not ic_NoDeed tc_NoDeed s_NotPlain_NoDeed s_NotPlain_NotPlain
    k_NotPlain_NoFlash := kit_not ic_NoFlash tc_NoFlash s_NotPlain_NoFlash s_NotPlain_NotPlain
    k_NotPlain_NoFraction := kit_not ic_NoFraction tc_NoFraction s_NotPlain_NoFraction s_NotPlain_NotPlain
    k_NotPlain_NoHap := kit_not ic_NoHap tc_NoHap s_NotPlain_NoHap s_NotPlain_NotPlain
    k_NotPlain_NoHaps := kit_not ic_NoHaps tc_NoHaps s_NotPlain_NoHaps s_NotPlain_NotPlain
    k_NotPlain_NoName := kit_not ic_NoName tc_NoName s_NotPlain_NoName s_NotPlain_NotPlain
    k_NotPlain_NoNumber := kit_not ic_NoNumber tc_NoNumber s_NotPlain_NoNumber s_NotPlain_NotPlain
    k_NotPlain_NoOrder := kit_not ic_NoOrder tc_NoOrder s_NotPlain_NoOrder s_NotPlain_NotPlain
    k_NotPlain_NoRod := kit_not ic_NoRod tc_NoRod s_NotPlain_NoRod s_NotPlain_NotPlain
    k_NotPlain_NoRow := kit_not ic_NoRow tc_NoRow s_NotPlain_NoRow s_NotPlain_NotPlain
    k_NotPlain_NoSeat := kit_not ic_NoSeat tc_NoSeat s_NotPlain_NoSeat s_NotPlain_NotPlain
    k_NotPlain_NoSpeed := kit_not ic_NoSpeed tc_NoSpeed s_NotPlain_NoSpeed s_NotPlain_NotPlain
    k_NotPlain_NoStep := kit_not ic_NoStep tc_NoStep s_NotPlain_NoStep s_NotPlain_NotPlain
    k_NotPlain_NoStretch := kit_not ic_NoStretch tc_NoStretch s_NotPlain_NoStretch s_NotPlain_NotPlain
    k_NotPlain_NoText := kit_not ic_NoText tc_NoText s_NotPlain_NoText s_NotPlain_NotPlain
    k_NotPlain_NotPlain := kit_self
    k_NotPlain_NoWay := kit_not ic_NoWay tc_NoWay s_NotPlain_NoWay s_NotPlain_NotPlain
    k_NotPlain_TooMany := kit_not ic_TooMany tc_TooMany s_NotPlain_TooMany s_NotPlain_NotPlain
    e_NoDeed := ⟨eg_NoDeed, ek_NoDeed, es_NoDeed, ed_NoDeed, ea_NoDeed, en_NoDeed, et_NoDeed, em_NoDeed⟩
    v_NoDeed := kit_val vs_NoDeed
    r_NoDeed := exm_own xm_MotionError ic_MotionError tc_MotionError rs_NoDeed
    k_NoDeed_NoDeed := kit_self
    k_NoDeed_NoFlash := kit_not ic_NoFlash tc_NoFlash s_NoDeed_NoFlash s_NoDeed_NoDeed
    k_NoDeed_NoFraction := kit_not ic_NoFraction tc_NoFraction s_NoDeed_NoFraction s_NoDeed_NoDeed
    k_NoDeed_NoHap := kit_not ic_NoHap tc_NoHap s_NoDeed_NoHap s_NoDeed_NoDeed
    k_NoDeed_NoHaps := kit_not ic_NoHaps tc_NoHaps s_NoDeed_NoHaps s_NoDeed_NoDeed
    k_NoDeed_NoName := kit_not ic_NoName tc_NoName s_NoDeed_NoName s_NoDeed_NoDeed
    k_NoDeed_NoNumber := kit_not ic_NoNumber tc_NoNumber s_NoDeed_NoNumber s_NoDeed_NoDeed
    k_NoDeed_NoOrder := kit_not ic_NoOrder tc_NoOrder s_NoDeed_NoOrder s_NoDeed_NoDeed
    k_NoDeed_NoRod := kit_not ic_NoRod tc_NoRod s_NoDeed_NoRod s_NoDeed_NoDeed
    k_NoDeed_NoRow := kit_not ic_NoRow tc_NoRow s_NoDeed_NoRow s_NoDeed_NoDeed
    k_NoDeed_NoSeat := kit_not ic_NoSeat tc_NoSeat s_NoDeed_NoSeat s_NoDeed_NoDeed
    k_NoDeed_NoSpeed := kit_not ic_NoSpeed tc_NoSpeed s_NoDeed_NoSpeed s_NoDeed_NoDeed
    k_NoDeed_NoStep := kit_not ic_NoStep tc_NoStep s_NoDeed_NoStep s_NoDeed_NoDeed
    k_NoDeed_NoStretch := kit_not ic_NoStretch tc_NoStretch s_NoDeed_NoStretch s_NoDeed_NoDeed
    k_NoDeed_NoText := kit_not ic_NoText tc_NoText s_NoDeed_NoText s_NoDeed_NoDeed
    k_NoDeed_NotPlain := kit_not ic_NotPlain tc_NotPlain s_NoDeed_NotPlain s_NoDeed_NoDeed
    k_NoDeed_NoWay := kit_not ic_NoWay tc_NoWay s_NoDeed_NoWay s_NoDeed_NoDeed
    k_NoDeed_TooMany := kit_not ic_TooMany tc_TooMany s_NoDeed_TooMany s_NoDeed_NoDeed
    e_TooMany := ⟨eg_TooMany, ek_TooMany, es_TooMany, ed_TooMany, ea_TooMany, en_TooMany, et_TooMany, em_TooMany⟩
    v_TooMany := kit_val vs_TooMany
    r_TooMany := exm_own xm_MotionError ic_MotionError tc_MotionError rs_TooMany
    k_TooMany_NoDeed := kit_not ic_NoDeed tc_NoDeed s_TooMany_NoDeed s_TooMany_TooMany
    k_TooMany_NoFlash := kit_not ic_NoFlash tc_NoFlash s_TooMany_NoFlash s_TooMany_TooMany
    k_TooMany_NoFraction := kit_not ic_NoFraction tc_NoFraction s_TooMany_NoFraction s_TooMany_TooMany
    k_TooMany_NoHap := kit_not ic_NoHap tc_NoHap s_TooMany_NoHap s_TooMany_TooMany
    k_TooMany_NoHaps := kit_not ic_NoHaps tc_NoHaps s_TooMany_NoHaps s_TooMany_TooMany
    k_TooMany_NoName := kit_not ic_NoName tc_NoName s_TooMany_NoName s_TooMany_TooMany
    k_TooMany_NoNumber := kit_not ic_NoNumber tc_NoNumber s_TooMany_NoNumber s_TooMany_TooMany
    k_TooMany_NoOrder := kit_not ic_NoOrder tc_NoOrder s_TooMany_NoOrder s_TooMany_TooMany
    k_TooMany_NoRod := kit_not ic_NoRod tc_NoRod s_TooMany_NoRod s_TooMany_TooMany
    k_TooMany_NoRow := kit_not ic_NoRow tc_NoRow s_TooMany_NoRow s_TooMany_TooMany
    k_TooMany_NoSeat := kit_not ic_NoSeat tc_NoSeat s_TooMany_NoSeat s_TooMany_TooMany
    k_TooMany_NoSpeed := kit_not ic_NoSpeed tc_NoSpeed s_TooMany_NoSpeed s_TooMany_TooMany
    k_TooMany_NoStep := kit_not ic_NoStep tc_NoStep s_TooMany_NoStep s_TooMany_TooMany
    k_TooMany_NoStretch := kit_not ic_NoStretch tc_NoStretch s_TooMany_NoStretch s_TooMany_TooMany
    k_TooMany_NoText := kit_not ic_NoText tc_NoText s_TooMany_NoText s_TooMany_TooMany
    k_TooMany_NotPlain := kit_not ic_NotPlain tc_NotPlain s_TooMany_NotPlain s_TooMany_TooMany
    k_TooMany_NoWay := kit_not ic_NoWay tc_NoWay s_TooMany_NoWay s_TooMany_TooMany
    k_TooMany_TooMany := kit_self
  }
  have e := hfa.symm.trans (PySem.W.mg_of X G a73)
  cases e
  refine ⟨PySem.W.fnOf "law" "law" (defArgs s_law) (defBody s_law) (defScope s_law) .none kV73 dc73 pm73 an73 cd73 ct73, fun s v => .of_eq rfl, fun base _ _ => ?_⟩
  exact h_law T F73
end Z
open PySem PySem.W PyProof.Rows
set_option maxRecDepth 100000 in
set_option maxHeartbeats 0 in
theorem PySem.Challenge.cw_seatclocks_k82_questions_at_the_bench_holds : PySem.Challenge.rw_seatclocks_k82_questions_at_the_bench.Holds := by
  w_on; o_law; k_head; (case hw => w_witness2)
  k_fill
  refine L2.walk_of (l := PySem.Challenge.rw_seatclocks_k82_questions_at_the_bench) (n := 63) (k := 13) (x := "_law_script") (CX := fun _ => L2.CX0) (sp := fun w => Z.spP _ Z.R_law) rfl (by decide) rfl ⟨rfl, by decide, by decide⟩ (fun w h Y => PySem.W.kIn_of Y) ?F (fun _ H a ns hl _ hS => Z.law_sp hl hS) (fun _ _ _ _ _ h => h)
  case F =>
    intro w mg fa h KX G hmg
    refine' Z.all_mk KX G hmg ?a0 ?l0 ?c0 ?k0 ?a1 ?l1 ?c1 ?k1 ?a2 ?l2 ?c2 ?k2 ?a3 ?l3 ?c3 ?k3 ?a4 ?l4 ?c4 ?k4 ?a5 ?l5 ?c5 ?k5 ?a6 ?l6 ?c6 ?k6 ?a7 ?l7 ?c7 ?k7 ?a8 ?l8 ?c8 ?k8 ?a9 ?l9 ?c9 ?k9 ?a10 ?l10 ?c10 ?k10 ?a11 ?l11 ?c11 ?k11 ?a12 ?l12 ?c12 ?k12 ?a13 ?l13 ?c13 ?k13 ?a14 ?l14 ?c14 ?k14 ?a15 ?l15 ?c15 ?k15 ?a16 ?l16 ?c16 ?k16 ?a17 ?l17 ?c17 ?k17 ?a18 ?l18 ?c18 ?k18 ?a19 ?l19 ?c19 ?k19 ?a20 ?l20 ?c20 ?k20 ?a21 ?l21 ?c21 ?k21 ?a22 ?l22 ?c22 ?k22 ?a23 ?l23 ?c23 ?k23 ?a24 ?l24 ?c24 ?k24 ?a25 ?l25 ?c25 ?k25 ?a26 ?l26 ?c26 ?k26 ?a27 ?i27 ?l27 ?c27 ?k27 ?a28 ?i28 ?l28 ?c28 ?k28 ?a29 ?i29 ?l29 ?c29 ?k29 ?a30 ?i30 ?l30 ?c30 ?k30 ?a31 ?i31 ?l31 ?c31 ?k31 ?a32 ?i32 ?l32 ?c32 ?k32 ?a33 ?i33 ?l33 ?c33 ?k33 ?a34 ?i34 ?l34 ?c34 ?k34 ?a35 ?i35 ?l35 ?c35 ?k35 ?a36 ?i36 ?l36 ?c36 ?k36 ?a37 ?i37 ?l37 ?c37 ?k37 ?a38 ?i38 ?l38 ?c38 ?k38 ?a39 ?i39 ?l39 ?c39 ?k39 ?a40 ?l40 ?c40 ?k40 ?a41 ?l41 ?c41 ?k41 ?a42 ?l42 ?c42 ?k42 ?a43 ?l43 ?c43 ?k43 ?a44 ?l44 ?c44 ?k44 ?a45 ?l45 ?c45 ?k45 ?a46 ?l46 ?c46 ?k46 ?a47 ?l47 ?c47 ?k47 ?a48 ?l48 ?c48 ?k48 ?a49 ?l49 ?c49 ?k49 ?a50 ?l50 ?c50 ?k50 ?a51 ?l51 ?c51 ?k51 ?a52 ?l52 ?c52 ?k52 ?a53 ?l53 ?c53 ?k53 ?a54 ?l54 ?c54 ?k54 ?a55 ?l55 ?c55 ?k55 ?a56 ?l56 ?c56 ?k56 ?a57 ?l57 ?c57 ?k57 ?a58 ?l58 ?c58 ?k58 ?a59 ?l59 ?c59 ?k59 ?a60 ?l60 ?c60 ?k60 ?a61 ?l61 ?c61 ?k61 ?a62 ?l62 ?c62 ?k62 ?a63 ?l63 ?c63 ?k63 ?a64 ?l64 ?c64 ?k64 ?a65 ?l65 ?c65 ?k65 ?a66 ?l66 ?c66 ?k66 ?a67 ?l67 ?c67 ?k67 ?a68 ?l68 ?c68 ?k68 ?a69 ?l69 ?c69 ?k69 ?a70 ?l70 ?c70 ?k70 ?a71 ?l71 ?c71 ?k71 ?a72 ?l72 ?c72 ?k72 ?a73 ?l73 ?c73 ?k73 ?q_MotionError ?q_NoFraction ?q_NoHap ?q_NoText ?q_NoSpeed ?q_TooMany ?q_NotPlain ?q_NoStretch ?q_NoHaps ?q_NoOrder ?q_NoStep ?q_NoNumber ?q_NoSeat ?q_NoRod ?q_NoWay ?q_NoFlash ?q_NoName ?q_NoDeed ?q_NoRow ?q_Bench ?bpg_Bench ?bhd_Bench ?bpo_Bench ?bsa_Bench ?bmk_Bench ?bkc_Bench ?bna_Bench__haps ?bna_Bench__speed ?bna_Bench__past ?xk_NoFraction ?xb_NoFraction ?xt_NoFraction ?xx_NoFraction ?xk_NoHap ?xb_NoHap ?xt_NoHap ?xx_NoHap ?xk_NoSpeed ?xb_NoSpeed ?xt_NoSpeed ?xx_NoSpeed ?xk_TooMany ?xb_TooMany ?xt_TooMany ?xx_TooMany ?xk_NotPlain ?xb_NotPlain ?xt_NotPlain ?xx_NotPlain ?xk_NoSeat ?xb_NoSeat ?xt_NoSeat ?xx_NoSeat ?xk_NoName ?xb_NoName ?xt_NoName ?xx_NoName ?xk_NoDeed ?xb_NoDeed ?xt_NoDeed ?xx_NoDeed ?eg_NoName ?ek_NoName ?es_NoName ?ed_NoName ?ea_NoName ?en_NoName ?et_NoName ?em_NoName ?vs_NoName ?rs_NoName ?s_NoName_NoDeed ?s_NoName_NoFlash ?s_NoName_NoFraction ?s_NoName_NoHap ?s_NoName_NoHaps ?s_NoName_NoName ?s_NoName_NoNumber ?s_NoName_NoOrder ?s_NoName_NoRod ?s_NoName_NoRow ?s_NoName_NoSeat ?s_NoName_NoSpeed ?s_NoName_NoStep ?s_NoName_NoStretch ?s_NoName_NoText ?s_NoName_NotPlain ?s_NoName_NoWay ?s_NoName_TooMany ?eg_NoHap ?ek_NoHap ?es_NoHap ?ed_NoHap ?ea_NoHap ?en_NoHap ?et_NoHap ?em_NoHap ?vs_NoHap ?rs_NoHap ?s_NoHap_NoDeed ?s_NoHap_NoFlash ?s_NoHap_NoFraction ?s_NoHap_NoHap ?s_NoHap_NoHaps ?s_NoHap_NoName ?s_NoHap_NoNumber ?s_NoHap_NoOrder ?s_NoHap_NoRod ?s_NoHap_NoRow ?s_NoHap_NoSeat ?s_NoHap_NoSpeed ?s_NoHap_NoStep ?s_NoHap_NoStretch ?s_NoHap_NoText ?s_NoHap_NotPlain ?s_NoHap_NoWay ?s_NoHap_TooMany ?eg_NoSpeed ?ek_NoSpeed ?es_NoSpeed ?ed_NoSpeed ?ea_NoSpeed ?en_NoSpeed ?et_NoSpeed ?em_NoSpeed ?vs_NoSpeed ?rs_NoSpeed ?s_NoSpeed_NoDeed ?s_NoSpeed_NoFlash ?s_NoSpeed_NoFraction ?s_NoSpeed_NoHap ?s_NoSpeed_NoHaps ?s_NoSpeed_NoName ?s_NoSpeed_NoNumber ?s_NoSpeed_NoOrder ?s_NoSpeed_NoRod ?s_NoSpeed_NoRow ?s_NoSpeed_NoSeat ?s_NoSpeed_NoSpeed ?s_NoSpeed_NoStep ?s_NoSpeed_NoStretch ?s_NoSpeed_NoText ?s_NoSpeed_NotPlain ?s_NoSpeed_NoWay ?s_NoSpeed_TooMany ?eg_NotPlain ?ek_NotPlain ?es_NotPlain ?ed_NotPlain ?ea_NotPlain ?en_NotPlain ?et_NotPlain ?em_NotPlain ?vs_NotPlain ?rs_NotPlain ?s_NotPlain_NoDeed ?s_NotPlain_NoFlash ?s_NotPlain_NoFraction ?s_NotPlain_NoHap ?s_NotPlain_NoHaps ?s_NotPlain_NoName ?s_NotPlain_NoNumber ?s_NotPlain_NoOrder ?s_NotPlain_NoRod ?s_NotPlain_NoRow ?s_NotPlain_NoSeat ?s_NotPlain_NoSpeed ?s_NotPlain_NoStep ?s_NotPlain_NoStretch ?s_NotPlain_NoText ?s_NotPlain_NotPlain ?s_NotPlain_NoWay ?s_NotPlain_TooMany ?eg_NoDeed ?ek_NoDeed ?es_NoDeed ?ed_NoDeed ?ea_NoDeed ?en_NoDeed ?et_NoDeed ?em_NoDeed ?vs_NoDeed ?rs_NoDeed ?s_NoDeed_NoDeed ?s_NoDeed_NoFlash ?s_NoDeed_NoFraction ?s_NoDeed_NoHap ?s_NoDeed_NoHaps ?s_NoDeed_NoName ?s_NoDeed_NoNumber ?s_NoDeed_NoOrder ?s_NoDeed_NoRod ?s_NoDeed_NoRow ?s_NoDeed_NoSeat ?s_NoDeed_NoSpeed ?s_NoDeed_NoStep ?s_NoDeed_NoStretch ?s_NoDeed_NoText ?s_NoDeed_NotPlain ?s_NoDeed_NoWay ?s_NoDeed_TooMany ?eg_TooMany ?ek_TooMany ?es_TooMany ?ed_TooMany ?ea_TooMany ?en_TooMany ?et_TooMany ?em_TooMany ?vs_TooMany ?rs_TooMany ?s_TooMany_NoDeed ?s_TooMany_NoFlash ?s_TooMany_NoFraction ?s_TooMany_NoHap ?s_TooMany_NoHaps ?s_TooMany_NoName ?s_TooMany_NoNumber ?s_TooMany_NoOrder ?s_TooMany_NoRod ?s_TooMany_NoRow ?s_TooMany_NoSeat ?s_TooMany_NoSpeed ?s_TooMany_NoStep ?s_TooMany_NoStretch ?s_TooMany_NoText ?s_TooMany_NotPlain ?s_TooMany_NoWay ?s_TooMany_TooMany ?xm_MotionError ?ic_NoDeed ?tc_NoDeed ?ic_NoFlash ?tc_NoFlash ?ic_NoFraction ?tc_NoFraction ?ic_NoHap ?tc_NoHap ?ic_NoHaps ?tc_NoHaps ?ic_NoName ?tc_NoName ?ic_NoNumber ?tc_NoNumber ?ic_NoOrder ?tc_NoOrder ?ic_NoRod ?tc_NoRod ?ic_NoRow ?tc_NoRow ?ic_NoSeat ?tc_NoSeat ?ic_NoSpeed ?tc_NoSpeed ?ic_NoStep ?tc_NoStep ?ic_NoStretch ?tc_NoStretch ?ic_NoText ?tc_NoText ?ic_NotPlain ?tc_NotPlain ?ic_NoWay ?tc_NoWay ?ic_TooMany ?tc_TooMany ?ic_MotionError ?tc_MotionError ?kq_LETTERS ?kq_LONGEST_NAME ?kq_MOST_NAMES ?kq_NOUGHT ?kl_NOUGHT ?kq_ONE ?kl_ONE ?m_ValueError ?m_abs ?m_all ?m_bool ?m_dict ?m_enumerate ?m_int ?m_isinstance ?m_len ?m_max ?m_min ?m_range ?m_set ?m_sorted ?m_str ?m_tuple ?g_gcd ?g_isqrt ?g_lcm
    (case q_Bench => k_is)
    (case a0 => k_is)
    (case l0 => k_is)
    (case c0 => k_is)
    (case k0 => k_is)
    (case a1 => k_is)
    (case l1 => k_is)
    (case c1 => k_is)
    (case k1 => k_is)
    (case a2 => k_is)
    (case l2 => k_is)
    (case c2 => k_is)
    (case k2 => k_is)
    (case a3 => k_is)
    (case l3 => k_is)
    (case c3 => k_is)
    (case k3 => k_is)
    (case a4 => k_is)
    (case l4 => k_is)
    (case c4 => k_is)
    (case k4 => k_is)
    (case a5 => k_is)
    (case l5 => k_is)
    (case c5 => k_is)
    (case k5 => k_is)
    (case a6 => k_is)
    (case l6 => k_is)
    (case c6 => k_is)
    (case k6 => k_is)
    (case a7 => k_is)
    (case l7 => k_is)
    (case c7 => k_is)
    (case k7 => k_is)
    (case a8 => k_is)
    (case l8 => k_is)
    (case c8 => k_is)
    (case k8 => k_is)
    (case a9 => k_is)
    (case l9 => k_is)
    (case c9 => k_is)
    (case k9 => k_is)
    (case a10 => k_is)
    (case l10 => k_is)
    (case c10 => k_is)
    (case k10 => k_is)
    (case a11 => k_is)
    (case l11 => k_is)
    (case c11 => k_is)
    (case k11 => k_is)
    (case a12 => k_is)
    (case l12 => k_is)
    (case c12 => k_is)
    (case k12 => k_is)
    (case a13 => k_is)
    (case l13 => k_is)
    (case c13 => k_is)
    (case k13 => k_is)
    (case a14 => k_is)
    (case l14 => k_is)
    (case c14 => k_is)
    (case k14 => k_is)
    (case a15 => k_is)
    (case l15 => k_is)
    (case c15 => k_is)
    (case k15 => k_is)
    (case a16 => k_is)
    (case l16 => k_is)
    (case c16 => k_is)
    (case k16 => k_is)
    (case a17 => k_is)
    (case l17 => k_is)
    (case c17 => k_is)
    (case k17 => k_is)
    (case a18 => k_is)
    (case l18 => k_is)
    (case c18 => k_is)
    (case k18 => k_is)
    (case a19 => k_is)
    (case l19 => k_is)
    (case c19 => k_is)
    (case k19 => k_is)
    (case a20 => k_is)
    (case l20 => k_is)
    (case c20 => k_is)
    (case k20 => k_is)
    (case a21 => k_is)
    (case l21 => k_is)
    (case c21 => k_is)
    (case k21 => k_is)
    (case a22 => k_is)
    (case l22 => k_is)
    (case c22 => k_is)
    (case k22 => k_is)
    (case a23 => k_is)
    (case l23 => k_is)
    (case c23 => k_is)
    (case k23 => k_is)
    (case a24 => k_is)
    (case l24 => k_is)
    (case c24 => k_is)
    (case k24 => k_is)
    (case a25 => k_is)
    (case l25 => k_is)
    (case c25 => k_is)
    (case k25 => k_is)
    (case a26 => k_is)
    (case l26 => k_is)
    (case c26 => k_is)
    (case k26 => k_is)
    (case a27 => k_is)
    (case i27 => k_is)
    (case l27 => k_is)
    (case c27 => k_is)
    (case k27 => k_is)
    (case a28 => k_is)
    (case i28 => k_is)
    (case l28 => k_is)
    (case c28 => k_is)
    (case k28 => k_is)
    (case a29 => k_is)
    (case i29 => k_is)
    (case l29 => k_is)
    (case c29 => k_is)
    (case k29 => k_is)
    (case a30 => k_is)
    (case i30 => k_is)
    (case l30 => k_is)
    (case c30 => k_is)
    (case k30 => k_is)
    (case a31 => k_is)
    (case i31 => k_is)
    (case l31 => k_is)
    (case c31 => k_is)
    (case k31 => k_is)
    (case a32 => k_is)
    (case i32 => k_is)
    (case l32 => k_is)
    (case c32 => k_is)
    (case k32 => k_is)
    (case a33 => k_is)
    (case i33 => k_is)
    (case l33 => k_is)
    (case c33 => k_is)
    (case k33 => k_is)
    (case a34 => k_is)
    (case i34 => k_is)
    (case l34 => k_is)
    (case c34 => k_is)
    (case k34 => k_is)
    (case a35 => k_is)
    (case i35 => k_is)
    (case l35 => k_is)
    (case c35 => k_is)
    (case k35 => k_is)
    (case a36 => k_is)
    (case i36 => k_is)
    (case l36 => k_is)
    (case c36 => k_is)
    (case k36 => k_is)
    (case a37 => k_is)
    (case i37 => k_is)
    (case l37 => k_is)
    (case c37 => k_is)
    (case k37 => k_is)
    (case a38 => k_is)
    (case i38 => k_is)
    (case l38 => k_is)
    (case c38 => k_is)
    (case k38 => k_is)
    (case a39 => k_is)
    (case i39 => k_is)
    (case l39 => k_is)
    (case c39 => k_is)
    (case k39 => k_is)
    (case a40 => k_is)
    (case l40 => k_is)
    (case c40 => k_is)
    (case k40 => k_is)
    (case a41 => k_is)
    (case l41 => k_is)
    (case c41 => k_is)
    (case k41 => k_is)
    (case a42 => k_is)
    (case l42 => k_is)
    (case c42 => k_is)
    (case k42 => k_is)
    (case a43 => k_is)
    (case l43 => k_is)
    (case c43 => k_is)
    (case k43 => k_is)
    (case a44 => k_is)
    (case l44 => k_is)
    (case c44 => k_is)
    (case k44 => k_is)
    (case a45 => k_is)
    (case l45 => k_is)
    (case c45 => k_is)
    (case k45 => k_is)
    (case a46 => k_is)
    (case l46 => k_is)
    (case c46 => k_is)
    (case k46 => k_is)
    (case a47 => k_is)
    (case l47 => k_is)
    (case c47 => k_is)
    (case k47 => k_is)
    (case a48 => k_is)
    (case l48 => k_is)
    (case c48 => k_is)
    (case k48 => k_is)
    (case a49 => k_is)
    (case l49 => k_is)
    (case c49 => k_is)
    (case k49 => k_is)
    (case a50 => k_is)
    (case l50 => k_is)
    (case c50 => k_is)
    (case k50 => k_is)
    (case a51 => k_is)
    (case l51 => k_is)
    (case c51 => k_is)
    (case k51 => k_is)
    (case a52 => k_is)
    (case l52 => k_is)
    (case c52 => k_is)
    (case k52 => k_is)
    (case a53 => k_is)
    (case l53 => k_is)
    (case c53 => k_is)
    (case k53 => k_is)
    (case a54 => k_is)
    (case l54 => k_is)
    (case c54 => k_is)
    (case k54 => k_is)
    (case a55 => k_is)
    (case l55 => k_is)
    (case c55 => k_is)
    (case k55 => k_is)
    (case a56 => k_is)
    (case l56 => k_is)
    (case c56 => k_is)
    (case k56 => k_is)
    (case a57 => k_is)
    (case l57 => k_is)
    (case c57 => k_is)
    (case k57 => k_is)
    (case a58 => k_is)
    (case l58 => k_is)
    (case c58 => k_is)
    (case k58 => k_is)
    (case a59 => k_is)
    (case l59 => k_is)
    (case c59 => k_is)
    (case k59 => k_is)
    (case a60 => k_is)
    (case l60 => k_is)
    (case c60 => k_is)
    (case k60 => k_is)
    (case a61 => k_is)
    (case l61 => k_is)
    (case c61 => k_is)
    (case k61 => k_is)
    (case a62 => k_is)
    (case l62 => k_is)
    (case c62 => k_is)
    (case k62 => k_is)
    (case a63 => k_is)
    (case l63 => k_is)
    (case c63 => k_is)
    (case k63 => k_is)
    (case a64 => k_is)
    (case l64 => k_is)
    (case c64 => k_is)
    (case k64 => k_is)
    (case a65 => k_is)
    (case l65 => k_is)
    (case c65 => k_is)
    (case k65 => k_is)
    (case a66 => k_is)
    (case l66 => k_is)
    (case c66 => k_is)
    (case k66 => k_is)
    (case a67 => k_is)
    (case l67 => k_is)
    (case c67 => k_is)
    (case k67 => k_is)
    (case a68 => k_is)
    (case l68 => k_is)
    (case c68 => k_is)
    (case k68 => k_is)
    (case a69 => k_is)
    (case l69 => k_is)
    (case c69 => k_is)
    (case k69 => k_is)
    (case a70 => k_is)
    (case l70 => k_is)
    (case c70 => k_is)
    (case k70 => k_is)
    (case a71 => k_is)
    (case l71 => k_is)
    (case c71 => k_is)
    (case k71 => k_is)
    (case a72 => k_is)
    (case l72 => k_is)
    (case c72 => k_is)
    (case k72 => k_is)
    (case a73 => k_is)
    (case l73 => k_is)
    (case c73 => k_is)
    (case k73 => k_is)
    (case q_MotionError => k_is)
    (case q_NoFraction => k_is)
    (case q_NoHap => k_is)
    (case q_NoText => k_is)
    (case q_NoSpeed => k_is)
    (case q_TooMany => k_is)
    (case q_NotPlain => k_is)
    (case q_NoStretch => k_is)
    (case q_NoHaps => k_is)
    (case q_NoOrder => k_is)
    (case q_NoStep => k_is)
    (case q_NoNumber => k_is)
    (case q_NoSeat => k_is)
    (case q_NoRod => k_is)
    (case q_NoWay => k_is)
    (case q_NoFlash => k_is)
    (case q_NoName => k_is)
    (case q_NoDeed => k_is)
    (case q_NoRow => k_is)
    (case bpg_Bench => k_is)
    (case bhd_Bench => k_is)
    (case bpo_Bench => k_is)
    (case bsa_Bench => k_is)
    (case bmk_Bench => k_is)
    (case bkc_Bench => k_is)
    (case bna_Bench__haps => k_is)
    (case bna_Bench__speed => k_is)
    (case bna_Bench__past => k_is)
    (case xk_NoFraction => k_is)
    (case xb_NoFraction => k_is)
    (case xt_NoFraction => k_is)
    (case xx_NoFraction => k_exc)
    (case xk_NoHap => k_is)
    (case xb_NoHap => k_is)
    (case xt_NoHap => k_is)
    (case xx_NoHap => k_exc)
    (case xk_NoSpeed => k_is)
    (case xb_NoSpeed => k_is)
    (case xt_NoSpeed => k_is)
    (case xx_NoSpeed => k_exc)
    (case xk_TooMany => k_is)
    (case xb_TooMany => k_is)
    (case xt_TooMany => k_is)
    (case xx_TooMany => k_exc)
    (case xk_NotPlain => k_is)
    (case xb_NotPlain => k_is)
    (case xt_NotPlain => k_is)
    (case xx_NotPlain => k_exc)
    (case xk_NoSeat => k_is)
    (case xb_NoSeat => k_is)
    (case xt_NoSeat => k_is)
    (case xx_NoSeat => k_exc)
    (case xk_NoName => k_is)
    (case xb_NoName => k_is)
    (case xt_NoName => k_is)
    (case xx_NoName => k_exc)
    (case xk_NoDeed => k_is)
    (case xb_NoDeed => k_is)
    (case xt_NoDeed => k_is)
    (case xx_NoDeed => k_exc)
    (case eg_NoName => k_is)
    (case ek_NoName => k_is)
    (case es_NoName => k_is)
    (case ed_NoName => k_is)
    (case ea_NoName => k_is)
    (case en_NoName => k_is)
    (case et_NoName => k_is)
    (case em_NoName => k_is)
    (case vs_NoName => k_is)
    (case rs_NoName => k_is)
    (case s_NoName_NoDeed => k_is)
    (case s_NoName_NoFlash => k_is)
    (case s_NoName_NoFraction => k_is)
    (case s_NoName_NoHap => k_is)
    (case s_NoName_NoHaps => k_is)
    (case s_NoName_NoName => k_is)
    (case s_NoName_NoNumber => k_is)
    (case s_NoName_NoOrder => k_is)
    (case s_NoName_NoRod => k_is)
    (case s_NoName_NoRow => k_is)
    (case s_NoName_NoSeat => k_is)
    (case s_NoName_NoSpeed => k_is)
    (case s_NoName_NoStep => k_is)
    (case s_NoName_NoStretch => k_is)
    (case s_NoName_NoText => k_is)
    (case s_NoName_NotPlain => k_is)
    (case s_NoName_NoWay => k_is)
    (case s_NoName_TooMany => k_is)
    (case eg_NoHap => k_is)
    (case ek_NoHap => k_is)
    (case es_NoHap => k_is)
    (case ed_NoHap => k_is)
    (case ea_NoHap => k_is)
    (case en_NoHap => k_is)
    (case et_NoHap => k_is)
    (case em_NoHap => k_is)
    (case vs_NoHap => k_is)
    (case rs_NoHap => k_is)
    (case s_NoHap_NoDeed => k_is)
    (case s_NoHap_NoFlash => k_is)
    (case s_NoHap_NoFraction => k_is)
    (case s_NoHap_NoHap => k_is)
    (case s_NoHap_NoHaps => k_is)
    (case s_NoHap_NoName => k_is)
    (case s_NoHap_NoNumber => k_is)
    (case s_NoHap_NoOrder => k_is)
    (case s_NoHap_NoRod => k_is)
    (case s_NoHap_NoRow => k_is)
    (case s_NoHap_NoSeat => k_is)
    (case s_NoHap_NoSpeed => k_is)
    (case s_NoHap_NoStep => k_is)
    (case s_NoHap_NoStretch => k_is)
    (case s_NoHap_NoText => k_is)
    (case s_NoHap_NotPlain => k_is)
    (case s_NoHap_NoWay => k_is)
    (case s_NoHap_TooMany => k_is)
    (case eg_NoSpeed => k_is)
    (case ek_NoSpeed => k_is)
    (case es_NoSpeed => k_is)
    (case ed_NoSpeed => k_is)
    (case ea_NoSpeed => k_is)
    (case en_NoSpeed => k_is)
    (case et_NoSpeed => k_is)
    (case em_NoSpeed => k_is)
    (case vs_NoSpeed => k_is)
    (case rs_NoSpeed => k_is)
    (case s_NoSpeed_NoDeed => k_is)
    (case s_NoSpeed_NoFlash => k_is)
    (case s_NoSpeed_NoFraction => k_is)
    (case s_NoSpeed_NoHap => k_is)
    (case s_NoSpeed_NoHaps => k_is)
    (case s_NoSpeed_NoName => k_is)
    (case s_NoSpeed_NoNumber => k_is)
    (case s_NoSpeed_NoOrder => k_is)
    (case s_NoSpeed_NoRod => k_is)
    (case s_NoSpeed_NoRow => k_is)
    (case s_NoSpeed_NoSeat => k_is)
    (case s_NoSpeed_NoSpeed => k_is)
    (case s_NoSpeed_NoStep => k_is)
    (case s_NoSpeed_NoStretch => k_is)
    (case s_NoSpeed_NoText => k_is)
    (case s_NoSpeed_NotPlain => k_is)
    (case s_NoSpeed_NoWay => k_is)
    (case s_NoSpeed_TooMany => k_is)
    (case eg_NotPlain => k_is)
    (case ek_NotPlain => k_is)
    (case es_NotPlain => k_is)
    (case ed_NotPlain => k_is)
    (case ea_NotPlain => k_is)
    (case en_NotPlain => k_is)
    (case et_NotPlain => k_is)
    (case em_NotPlain => k_is)
    (case vs_NotPlain => k_is)
    (case rs_NotPlain => k_is)
    (case s_NotPlain_NoDeed => k_is)
    (case s_NotPlain_NoFlash => k_is)
    (case s_NotPlain_NoFraction => k_is)
    (case s_NotPlain_NoHap => k_is)
    (case s_NotPlain_NoHaps => k_is)
    (case s_NotPlain_NoName => k_is)
    (case s_NotPlain_NoNumber => k_is)
    (case s_NotPlain_NoOrder => k_is)
    (case s_NotPlain_NoRod => k_is)
    (case s_NotPlain_NoRow => k_is)
    (case s_NotPlain_NoSeat => k_is)
    (case s_NotPlain_NoSpeed => k_is)
    (case s_NotPlain_NoStep => k_is)
    (case s_NotPlain_NoStretch => k_is)
    (case s_NotPlain_NoText => k_is)
    (case s_NotPlain_NotPlain => k_is)
    (case s_NotPlain_NoWay => k_is)
    (case s_NotPlain_TooMany => k_is)
    (case eg_NoDeed => k_is)
    (case ek_NoDeed => k_is)
    (case es_NoDeed => k_is)
    (case ed_NoDeed => k_is)
    (case ea_NoDeed => k_is)
    (case en_NoDeed => k_is)
    (case et_NoDeed => k_is)
    (case em_NoDeed => k_is)
    (case vs_NoDeed => k_is)
    (case rs_NoDeed => k_is)
    (case s_NoDeed_NoDeed => k_is)
    (case s_NoDeed_NoFlash => k_is)
    (case s_NoDeed_NoFraction => k_is)
    (case s_NoDeed_NoHap => k_is)
    (case s_NoDeed_NoHaps => k_is)
    (case s_NoDeed_NoName => k_is)
    (case s_NoDeed_NoNumber => k_is)
    (case s_NoDeed_NoOrder => k_is)
    (case s_NoDeed_NoRod => k_is)
    (case s_NoDeed_NoRow => k_is)
    (case s_NoDeed_NoSeat => k_is)
    (case s_NoDeed_NoSpeed => k_is)
    (case s_NoDeed_NoStep => k_is)
    (case s_NoDeed_NoStretch => k_is)
    (case s_NoDeed_NoText => k_is)
    (case s_NoDeed_NotPlain => k_is)
    (case s_NoDeed_NoWay => k_is)
    (case s_NoDeed_TooMany => k_is)
    (case eg_TooMany => k_is)
    (case ek_TooMany => k_is)
    (case es_TooMany => k_is)
    (case ed_TooMany => k_is)
    (case ea_TooMany => k_is)
    (case en_TooMany => k_is)
    (case et_TooMany => k_is)
    (case em_TooMany => k_is)
    (case vs_TooMany => k_is)
    (case rs_TooMany => k_is)
    (case s_TooMany_NoDeed => k_is)
    (case s_TooMany_NoFlash => k_is)
    (case s_TooMany_NoFraction => k_is)
    (case s_TooMany_NoHap => k_is)
    (case s_TooMany_NoHaps => k_is)
    (case s_TooMany_NoName => k_is)
    (case s_TooMany_NoNumber => k_is)
    (case s_TooMany_NoOrder => k_is)
    (case s_TooMany_NoRod => k_is)
    (case s_TooMany_NoRow => k_is)
    (case s_TooMany_NoSeat => k_is)
    (case s_TooMany_NoSpeed => k_is)
    (case s_TooMany_NoStep => k_is)
    (case s_TooMany_NoStretch => k_is)
    (case s_TooMany_NoText => k_is)
    (case s_TooMany_NotPlain => k_is)
    (case s_TooMany_NoWay => k_is)
    (case s_TooMany_TooMany => k_is)
    (case xm_MotionError => k_is)
    (case ic_NoDeed => k_is)
    (case tc_NoDeed => k_is)
    (case ic_NoFlash => k_is)
    (case tc_NoFlash => k_is)
    (case ic_NoFraction => k_is)
    (case tc_NoFraction => k_is)
    (case ic_NoHap => k_is)
    (case tc_NoHap => k_is)
    (case ic_NoHaps => k_is)
    (case tc_NoHaps => k_is)
    (case ic_NoName => k_is)
    (case tc_NoName => k_is)
    (case ic_NoNumber => k_is)
    (case tc_NoNumber => k_is)
    (case ic_NoOrder => k_is)
    (case tc_NoOrder => k_is)
    (case ic_NoRod => k_is)
    (case tc_NoRod => k_is)
    (case ic_NoRow => k_is)
    (case tc_NoRow => k_is)
    (case ic_NoSeat => k_is)
    (case tc_NoSeat => k_is)
    (case ic_NoSpeed => k_is)
    (case tc_NoSpeed => k_is)
    (case ic_NoStep => k_is)
    (case tc_NoStep => k_is)
    (case ic_NoStretch => k_is)
    (case tc_NoStretch => k_is)
    (case ic_NoText => k_is)
    (case tc_NoText => k_is)
    (case ic_NotPlain => k_is)
    (case tc_NotPlain => k_is)
    (case ic_NoWay => k_is)
    (case tc_NoWay => k_is)
    (case ic_TooMany => k_is)
    (case tc_TooMany => k_is)
    (case ic_MotionError => k_is)
    (case tc_MotionError => k_is)
    (case kq_LETTERS => k_is)
    (case kq_LONGEST_NAME => k_is)
    (case kq_MOST_NAMES => k_is)
    (case kq_NOUGHT => k_is)
    (case kl_NOUGHT => k_is)
    (case kq_ONE => k_is)
    (case kl_ONE => k_is)
    (case m_ValueError => k_is)
    (case m_abs => k_is)
    (case m_all => k_is)
    (case m_bool => k_is)
    (case m_dict => k_is)
    (case m_enumerate => k_is)
    (case m_int => k_is)
    (case m_isinstance => k_is)
    (case m_len => k_is)
    (case m_max => k_is)
    (case m_min => k_is)
    (case m_range => k_is)
    (case m_set => k_is)
    (case m_sorted => k_is)
    (case m_str => k_is)
    (case m_tuple => k_is)
    (case g_gcd => k_is)
    (case g_isqrt => k_is)
    (case g_lcm => k_is)
