import PyProof.Rows.All
import Wide.All
import OpenK.AllK
import Wide.FinOn
import HandS.ForExc
import HandS.Evl
import HandS.Wide
import HandS.Gcd
import HandS.IsInst
import HandS.Flow
import HandS.HotCalls
import HandS.ExcIs
import KE.DataFind
import HandS.Comp
import HandS.Dict
import HandS.Style
import HandS.WideBits
import HandS.Zip
import HandS.TupSets
import HandS.Deep
import HandS.SetFor
import HandS.Conv
import HandS.Strs
import KE.KMathG
import PyProof.EnumMake
import KE.KeyNested
import Flt.RightSqrt
import HandS.TupAny
import HandS.Text
import KE.KIndexOf
import HandS.MapObj
import HandS.SortInts
import PyProof.TupleOfSeq
import HandS.Star
import KE.GoesRaise
import HandS.Walk
import HandS.SortInts
import KE.DataMinMax
import KE.DataCmp
import HandS.DictTup
import HandS.DictSubView
import HandS.TupMul
import HandS.WordsDict
import HandS.Words
import PyProof.DictCopy
import HandS.More
import HandS.Small
import HandS.CallSlots
import HandS.Iter
import HandS.StrMore
import KE.IntTextLaws
import PyProof.Rows.StrPadWhole
import PySem.Challenge.RW_seatclocks_k04_written_and_read
set_option Elab.async false
set_option linter.all false
set_option maxRecDepth 100000
set_option maxHeartbeats 2000000
namespace Z
open PySem PySem.Spec PyProof.Rows L2
open Evl (Ex)
/-! ### data: what a value stands for -/
inductive Dt where
  | non | bl (b : Bool) | int (i : Int) | str (x : Str) | tup (ds : List Dt) | lst (ds : List Dt) | dct
mutual
def py : Dt → Option PyData
  | .non => some .none
  | .bl b => some (.bool b)
  | .int i => some (.int i)
  | .str x => some (.str x)
  | .tup ds => match pys ds with
    | some xs => some (.tuple xs)
    | none => none
  | .lst ds => match pys ds with
    | some xs => some (.list xs)
    | none => none
  | .dct => none
def pys : List Dt → Option (List PyData)
  | [] => some []
  | d :: ds => match py d, pys ds with
    | some x, some xs => some (x :: xs)
    | _, _ => none
end
/-- a tuple whose object has no dict of its own -/
def SqX (K : PySem.W.Frag) (H : Hp) (a : Addr) (xs : List V) : Prop :=
  (∃ o : Obj, H a = some (.frz o (.tup xs)) ∧ o.dict = none) ∨ ∃ (o : Obj) (its : Array Value) (n : Nat), K.lookup a = some o ∧ o.cls = .type "tuple" ∧ o.dict = none ∧ o.data = .seq its n ∧ its.size ≤ sizeLine ∧ Vals xs its.toList
theorem SqX.t {K : PySem.W.Frag} {H : Hp} {a : Addr} {xs : List V} (h : SqX K H a xs) : SqT K H a xs := by
  rcases h with ⟨o, h, _⟩ | ⟨o, its, n, h1, h2, _, h3, h4, h5⟩
  · exact .inl (.inr ⟨o, h⟩)
  · exact .inr ⟨o, its, n, h1, h2, h3, h4, h5⟩
theorem SqX.mono {K : PySem.W.Frag} {G H : Hp} {a : Addr} {xs : List V} (e : Ex G H) (h : SqX K G a xs) : SqX K H a xs := by
  rcases h with ⟨o, h, d⟩ | h
  · exact .inl ⟨o, e _ _ h, d⟩
  · exact .inr h
theorem exT {K : PySem.W.Frag} {G H : Hp} {a : Addr} {xs : List V} (e : Ex G H) (h : SqX K G a xs) : SqT K H a xs := (h.mono e).t
theorem sqx_new {K : PySem.W.Frag} {G : Hp} {p : Addr} {o : Obj} {xs : List V} (d : o.dict = none) : SqX K (upd G p (.frz o (.tup xs))) p xs := .inl ⟨o, upd_same, d⟩
/-- a tuple of written items -/
def tTup (t : TA) : TE := fun σ H Q => t σ H fun xs H1 => xs.length ≤ sizeLine ∧ ∀ p (o : Obj), H1 p = none → o.dict = none → Q (.ref p) (upd H1 p (.frz o (.tup xs)))
theorem pe_tup {X : Cx} {es : List Expr} {t : TA} {pos : Pos} {x1 : Nat} (h : PA X es t) : PE X (.Tuple es x1 pos) (tTup t) := by
  refine ⟨fun pins s σ H Q I hq => ?_⟩
  refine wpAny_Tuple_spliced (thn (h.run pos pins s σ H _ I hq) fun us s1 ⟨xs, H1, I1, r, z, q⟩ => ⟨by rw [← r.length]; exact z, ?_⟩)
  have hf : H1 s1.heap.objs.size = none := I1.hok.fresh (Nat.le_refl _)
  refine ⟨.ref s1.heap.objs.size, upd H1 s1.heap.objs.size (.frz { cls := .type "tuple", data := .seq us.toArray } (.tup xs)), I1.laid (t' := s1.toks) (fun b u e => Heap.get?_push_of_some _ e) (Nat.le_refl _) ?_, rfl, q _ _ hf rfl⟩
  exact ⟨Heap.get?_push_size _ rfl, z, us, r, ⟨_, Heap.get?_push_size _ rfl, rfl, _, rfl⟩⟩
mutual
inductive Rp (K : PySem.W.Frag) (H : Hp) : V → Dt → Prop
  | non : Rp K H .non .non
  | bl (b : Bool) : Rp K H (.bl b) (.bl b)
  | int (i : Int) : Rp K H (.int i) (.int i)
  | str (x : Str) : Rp K H (.str x) (.str x)
  | tup {a : Addr} {xs : List V} {ds : List Dt} : SqX K H a xs → Rps K H xs ds → Rp K H (.ref a) (.tup ds)
  | lst {a : Addr} {xs : List V} {ds : List Dt} : SqL K H a xs → Rps K H xs ds → Rp K H (.ref a) (.lst ds)
  | dct {a : Addr} {kvs : List (Key × V)} : H a = some (.dK kvs) → Rp K H (.ref a) .dct
inductive Rps (K : PySem.W.Frag) (H : Hp) : List V → List Dt → Prop
  | nil : Rps K H [] []
  | cons {v : V} {vs : List V} {d : Dt} {ds : List Dt} : Rp K H v d → Rps K H vs ds → Rps K H (v :: vs) (d :: ds)
end
mutual
theorem Rp.mono {K : PySem.W.Frag} {G H : Hp} (e : Ex G H) : ∀ {v : V} {d : Dt}, Rp K G v d → Rp K H v d
  | _, _, .non => .non
  | _, _, .bl b => .bl b
  | _, _, .int i => .int i
  | _, _, .str x => .str x
  | _, _, .tup h r => .tup (h.mono e) (Rps.mono e r)
  | _, _, .lst h r => .lst (Evl.ex_l e h) (Rps.mono e r)
  | _, _, .dct h => .dct (e _ _ h)
theorem Rps.mono {K : PySem.W.Frag} {G H : Hp} (e : Ex G H) : ∀ {vs : List V} {ds : List Dt}, Rps K G vs ds → Rps K H vs ds
  | _, _, .nil => .nil
  | _, _, .cons h r => .cons (Rp.mono e h) (Rps.mono e r)
end
theorem Rps.length {K : PySem.W.Frag} {H : Hp} : ∀ {vs : List V} {ds : List Dt}, Rps K H vs ds → vs.length = ds.length
  | _, _, .nil => rfl
  | _, _, .cons _ r => congrArg (· + 1) (Rps.length r)
theorem Rps.get {K : PySem.W.Frag} {H : Hp} : ∀ {vs : List V} {ds : List Dt} {i : Nat} {d : Dt}, Rps K H vs ds → ds[i]? = some d → ∃ v, vs[i]? = some v ∧ Rp K H v d
  | _, _, _, _, .nil, e => by simp at e
  | _, _, 0, _, .cons r _, e => by simp at e; subst e; exact ⟨_, rfl, r⟩
  | _, _, i + 1, _, .cons _ t, e => by
    obtain ⟨v, h1, h2⟩ := Rps.get (i := i) t (by simpa using e)
    exact ⟨v, by simpa using h1, h2⟩
theorem Rps.append {K : PySem.W.Frag} {H : Hp} : ∀ {vs ws : List V} {ds es : List Dt}, Rps K H vs ds → Rps K H ws es → Rps K H (vs ++ ws) (ds ++ es)
  | _, _, _, _, .nil, s => s
  | _, _, _, _, .cons r t, s => .cons r (Rps.append t s)
mutual
theorem Rp.dp {K : PySem.W.Frag} {H : Hp} : ∀ {v : V} {d : Dt} {x : PyData}, Rp K H v d → py d = some x → Dp K H v x
  | _, _, _, .non, e => by cases e; exact .non
  | _, _, _, .bl b, e => by cases e; exact .bl b
  | _, _, _, .int i, e => by cases e; exact .int i
  | _, _, _, .str x, e => by cases e; exact .str x
  | _, .tup ds, _, .tup h r, e => by
    cases q : pys ds with
    | none => simp only [py, q] at e; cases e
    | some xs =>
      simp only [py, q] at e
      cases e
      exact .tup h.t (Rps.dp r q)
  | _, .lst ds, _, .lst h r, e => by
    cases q : pys ds with
    | none => simp only [py, q] at e; cases e
    | some xs =>
      simp only [py, q] at e
      cases e
      exact .lst h (Rps.dp r q)
  | _, _, _, .dct h, e => by simp only [py] at e; cases e
theorem Rps.dp {K : PySem.W.Frag} {H : Hp} : ∀ {vs : List V} {ds : List Dt} {xs : List PyData}, Rps K H vs ds → pys ds = some xs → DpAll K H vs xs
  | _, _, _, .nil, e => by cases e; exact .nil
  | _, d :: ds, _, .cons h r, e => by
    cases q : py d with
    | none => simp only [pys, q] at e; cases e
    | some x =>
      cases q2 : pys ds with
      | none => simp only [pys, q, q2] at e; cases e
      | some xs =>
        simp only [pys, q, q2] at e
        cases e
        exact .cons (Rp.dp h q) (Rps.dp r q2)
end
/-! ### heaps: G what is known for good, H what stands -/
structure Nx (G H G2 H2 : Hp) : Prop where
  g : Ex G G2
  h : Ex H H2
  k : Ex G2 H2
  f : ∀ a, G a = none → H a ≠ none → G2 a = none
theorem Nx.refl {G H : Hp} (k : Ex G H) : Nx G H G H := ⟨Ex.refl G, Ex.refl H, k, fun _ h _ => h⟩
theorem ne_none {H H' : Hp} (e : Ex H H') {a : Addr} (h : H a ≠ none) : H' a ≠ none := by
  cases q : H a with
  | none => exact absurd q h
  | some o =>
    rw [e a o q]
    intro z
    cases z
theorem Nx.trans {G H G2 H2 G3 H3 : Hp} (a : Nx G H G2 H2) (b : Nx G2 H2 G3 H3) : Nx G H G3 H3 :=
  ⟨a.g.trans b.g, a.h.trans b.h, b.k, fun x h1 h2 => b.f x (a.f x h1 h2) (ne_none a.h h2)⟩
theorem ex_both {G H : Hp} {p : Addr} {o : HO} (k : Ex G H) : Ex (upd G p o) (upd H p o) := fun a u e => by
  by_cases h : a = p
  · subst h
    rw [upd_same] at e ⊢
    exact e
  · rw [upd_ne h] at e ⊢
    exact k a u e
theorem free_of {G H : Hp} (k : Ex G H) {p : Addr} (h : H p = none) : G p = none := by
  cases q : G p with
  | none => rfl
  | some o =>
    rw [k p o q] at h
    cases h
theorem Nx.new {G H : Hp} {p : Addr} {o : HO} (k : Ex G H) (h : H p = none) : Nx G H (upd G p o) (upd H p o) :=
  ⟨Ex.new (free_of k h), Ex.new h, ex_both k, fun a h1 h2 => by
    by_cases e : a = p
    · subst e
      exact absurd h h2
    · rw [upd_ne e]
      exact h1⟩
/-! ### slots -/
inductive Sl where
  | no | d (x : Dt) | raw (v : V)
  | ud (a : Addr) (ks : List (List L2.Key)) (ds : List Dt) | kd (a : Addr) (ks : List (List L2.Key)) (ds : List Dt) | tk (xs : List Int)
inductive SlOk (K : PySem.W.Frag) (G : Hp) : Option V → Sl → Prop
  | no (o : Option V) : SlOk K G o .no
  | d {v : V} {x : Dt} (h : Rp K G v x) : SlOk K G (some v) (.d x)
  | raw (v : V) : SlOk K G (some v) (.raw v)
  | ud {a : Addr} {ks : List (List L2.Key)} {vs : List V} {ds : List Dt} (h : G a = some (.dT (ks.zip vs))) (r : Rps K G vs ds) (l : ks.length = vs.length) : SlOk K G (some (.ref a)) (.ud a ks ds)
  | kd {a : Addr} {ks : List (List L2.Key)} {vs : List V} {ds : List Dt} {o : Obj} (h : G a = some (.frz o (.dT (ks.zip vs)))) (r : Rps K G vs ds) (l : ks.length = vs.length) : SlOk K G (some (.ref a)) (.kd a ks ds)
  | tk {q : Addr} {xs : List Int} (h : G q = some (.tup (xs.map V.int))) : SlOk K G (some (.ref q)) (.tk xs)
abbrev FrD (K : PySem.W.Frag) (G : Hp) : L2.St → List Sl → Prop := Paired (SlOk K G)
theorem SlOk.mono {K : PySem.W.Frag} {G G2 : Hp} (e : Ex G G2) {o : Option V} {s : Sl} (h : SlOk K G o s) : SlOk K G2 o s := by
  cases h with
  | no => exact .no _
  | d h => exact .d (h.mono e)
  | raw => exact .raw _
  | ud h r l => exact .ud (e _ _ h) (r.mono e) l
  | kd h r l => exact .kd (e _ _ h) (r.mono e) l
  | tk h => exact .tk (e _ _ h)
theorem FrD.mono {K : PySem.W.Frag} {G G2 : Hp} (e : Ex G G2) {σ : L2.St} {sl : List Sl} (h : FrD K G σ sl) : FrD K G2 σ sl := Paired.mapP h fun _ _ z => z.mono e
theorem frd_get {K : PySem.W.Frag} {G : Hp} : ∀ {σ : L2.St} {sl : List Sl} {i : Nat} {x : Dt}, FrD K G σ sl → sl[i]? = some (.d x) → ∃ v, σ[i]? = some (some v) ∧ Rp K G v x
  | _, _, _, _, .nil, e => by simp at e
  | _, _, 0, _, .cons r _, e => by
    simp at e
    subst e
    cases r with
    | d h => exact ⟨_, rfl, h⟩
  | _, _, i + 1, _, .cons _ t, e => by
    obtain ⟨v, h1, h2⟩ := frd_get (i := i) t (by simpa using e)
    exact ⟨v, by simpa using h1, h2⟩
theorem frd_raw {K : PySem.W.Frag} {G : Hp} : ∀ {σ : L2.St} {sl : List Sl} {i : Nat} {x : V}, FrD K G σ sl → sl[i]? = some (.raw x) → σ[i]? = some (some x)
  | _, _, _, _, .nil, e => by simp at e
  | _, _, 0, _, .cons r _, e => by
    simp at e
    subst e
    cases r with
    | raw => rfl
  | _, _, i + 1, _, .cons _ t, e => by
    have h1 := frd_raw (i := i) t (by simpa using e)
    simpa using h1
theorem frd_set {K : PySem.W.Frag} {G : Hp} {s : Sl} {v : V} (hs : SlOk K G (some v) s) : ∀ {σ : L2.St} {sl : List Sl} (i : Nat), FrD K G σ sl → FrD K G (σ.set i (some v)) (sl.set i s)
  | _, _, _, .nil => .nil
  | _, _, 0, .cons _ t => .cons hs t
  | _, _, i + 1, .cons r t => .cons r (frd_set hs i t)
theorem frd_start {K : PySem.W.Frag} {G : Hp} : ∀ {vs : List V} {ds : List Dt} (n : Nat), Rps K G vs ds → FrD K G (vs.map some ++ List.replicate n none) (ds.map Sl.d ++ List.replicate n .no)
  | _, _, n, .nil => by
    induction n with
    | zero => exact .nil
    | succ n ih =>
      show FrD K G (List.replicate (n + 1) none) (List.replicate (n + 1) Sl.no)
      rw [List.replicate_succ, List.replicate_succ]
      exact .cons (.no _) (by simpa using ih)
  | _, _, n, .cons h r => .cons (.d h) (frd_start n r)
/-! ### what an expression gives, from the data in the slots -/
def Ev (K : PySem.W.Frag) (te : TE) (sl : List Sl) (x : Dt) : Prop := ∀ (G H : Hp) (σ : L2.St), Ex G H → FrD K G σ sl → ∀ Q : VK, (∀ v G2 H2, Nx G H G2 H2 → Rp K G2 v x → Q v H2) → te σ H Q
def EvT (K : PySem.W.Frag) (tt : TT) (sl : List Sl) (b : Bool) : Prop := ∀ (G H : Hp) (σ : L2.St), Ex G H → FrD K G σ sl → ∀ Q : Bool → Hp → Prop, (∀ G2 H2, Nx G H G2 H2 → Q b H2) → tt σ H Q
def EvA (K : PySem.W.Frag) (ta : TA) (sl : List Sl) (xs : List Dt) : Prop := ∀ (G H : Hp) (σ : L2.St), Ex G H → FrD K G σ sl → ∀ Q : List V → Hp → Prop, (∀ vs G2 H2, Nx G H G2 H2 → Rps K G2 vs xs → Q vs H2) → ta σ H Q
/-- two data by an operator's rule; one; a list of them by a built-in's -/
def R2D (K : PySem.W.Frag) (r : R2) (x y z : Dt) : Prop := ∀ (G H : Hp), Ex G H → ∀ v w, Rp K G v x → Rp K G w y → ∀ Q : VK, (∀ u G2 H2, Nx G H G2 H2 → Rp K G2 u z → Q u H2) → r v w H Q
def R1D (K : PySem.W.Frag) (r : V → Hp → VK → Prop) (x z : Dt) : Prop := ∀ (G H : Hp), Ex G H → ∀ v, Rp K G v x → ∀ Q : VK, (∀ u G2 H2, Nx G H G2 H2 → Rp K G2 u z → Q u H2) → r v H Q
def RcD (K : PySem.W.Frag) (r : List V → Hp → VK → Prop) (xs : List Dt) (z : Dt) : Prop := ∀ (G H : Hp), Ex G H → ∀ vs, Rps K G vs xs → ∀ Q : VK, (∀ u G2 H2, Nx G H G2 H2 → Rp K G2 u z → Q u H2) → r vs H Q
/-- what a def that changes nothing promises: R (its arguments' data) (its answer's data) -/
def spP (K : PySem.W.Frag) (R : List Dt → Dt → Prop) : Sp := fun vs H Q _ => ∃ (ds : List Dt) (x : Dt) (G : Hp), Ex G H ∧ Rps K G vs ds ∧ R ds x ∧ ∀ v G2 H2, Nx G H G2 H2 → Rp K G2 v x → Q v H2
/-- the same where it may raise an error of the class cls with no dict of its own -/
def spX (K : PySem.W.Frag) (R : List Dt → Dt → Prop) (X : List Dt → Value → Prop) : Sp := fun vs H Q E => ∃ (ds : List Dt) (G : Hp), Ex G H ∧ Rps K G vs ds ∧
  ((∃ x, R ds x ∧ ∀ v G2 H2, Nx G H G2 H2 → Rp K G2 v x → Q v H2) ∨ (∃ cls, X ds cls ∧ ∀ G2 H2, Nx G H G2 H2 → E cls none H2))
section
variable {K : PySem.W.Frag} {sl : List Sl} {ta tb te tc : TE} {t u : TT} {x y z : Dt} {r : R2}
theorem ev_var {i : Nat} (h : sl[i]? = some (.d x)) : Ev K (tVar i) sl x := fun G H σ k f Q q => by
  obtain ⟨v, h1, h2⟩ := frd_get f h
  exact ⟨v, h1, q v G H (.refl k) h2⟩
theorem ev_int {i : Int} : Ev K (tC (.int i)) sl (.int i) := fun G H σ k f Q q => q _ G H (.refl k) (.int i)
theorem ev_bl {b : Bool} : Ev K (tC (.bl b)) sl (.bl b) := fun G H σ k f Q q => q _ G H (.refl k) (.bl b)
theorem ev_str {s : Str} : Ev K (tC (.str s)) sl (.str s) := fun G H σ k f Q q => q _ G H (.refl k) (.str s)
theorem ev_non : Ev K (tC .non) sl .non := fun G H σ k f Q q => q _ G H (.refl k) .non
theorem ev_is (h : Ev K te sl x) (e : x = y) : Ev K te sl y := e ▸ h
theorem ev_op (ha : Ev K ta sl x) (hb : Ev K tb sl y) (hr : R2D K r x y z) : Ev K (tOp r ta tb) sl z := fun G H σ k f Q q =>
  ha G H σ k f _ fun v G1 H1 n1 r1 => hb G1 H1 σ n1.k (FrD.mono n1.g f) _ fun w G2 H2 n2 r2 => hr G2 H2 n2.k v w (r1.mono n2.g) r2 Q fun u G3 H3 n3 r3 => q u G3 H3 ((n1.trans n2).trans n3) r3
theorem ev_un {r : V → Hp → VK → Prop} (ha : Ev K ta sl x) (hr : R1D K r x z) : Ev K (tUn r ta) sl z := fun G H σ k f Q q =>
  ha G H σ k f _ fun v G1 H1 n1 r1 => hr G1 H1 n1.k v r1 Q fun u G2 H2 n2 r2 => q u G2 H2 (n1.trans n2) r2
theorem r2_I0 {g : Int → Int → V} {i j : Int} {d : Dt} (h : ∀ G, Rp K G (g i j) d) : R2D K (rI0 g) (.int i) (.int j) d := fun G H k v w r1 r2 Q q => by
  cases r1
  cases r2
  exact ⟨i, j, rfl, rfl, q _ G H (.refl k) (h G)⟩
theorem r2_I {C : Int → Int → Prop} {g : Int → Int → V} {i j : Int} {d : Dt} (hc : C i j) (h : ∀ G, Rp K G (g i j) d) : R2D K (rI C g) (.int i) (.int j) d := fun G H k v w r1 r2 Q q => by
  cases r1
  cases r2
  exact ⟨i, j, rfl, rfl, hc, q _ G H (.refl k) (h G)⟩
theorem r2_add {i j : Int} : R2D K (rI0 fun i j => .int (i + j)) (.int i) (.int j) (.int (i + j)) := r2_I0 fun _ => .int _
theorem r2_sub {i j : Int} : R2D K (rI0 fun i j => .int (i - j)) (.int i) (.int j) (.int (i - j)) := r2_I0 fun _ => .int _
theorem r2_lt {i j : Int} : R2D K (rI0 fun i j => .bl (decide (i < j))) (.int i) (.int j) (.bl (decide (i < j))) := r2_I0 fun _ => .bl _
theorem r2_le {i j : Int} : R2D K (rI0 fun i j => .bl (decide (i ≤ j))) (.int i) (.int j) (.bl (decide (i ≤ j))) := r2_I0 fun _ => .bl _
theorem r2_gt {i j : Int} : R2D K (rI0 fun i j => .bl (decide (j < i))) (.int i) (.int j) (.bl (decide (j < i))) := r2_I0 fun _ => .bl _
theorem r2_ge {i j : Int} : R2D K (rI0 fun i j => .bl (decide (j ≤ i))) (.int i) (.int j) (.bl (decide (j ≤ i))) := r2_I0 fun _ => .bl _
theorem r2_mul {C : Int → Int → Prop} {i j : Int} (h : C i j) : R2D K (rI C fun i j => .int (i * j)) (.int i) (.int j) (.int (i * j)) := r2_I h fun _ => .int _
theorem r2_mod {i j : Int} (h : j ≠ 0) : R2D K (rI (fun _ j => j ≠ 0) fun i j => .int (i.fmod j)) (.int i) (.int j) (.int (i.fmod j)) := r2_I (C := fun _ j => j ≠ 0) h fun _ => .int _
/-- // by a divisor not 0 below 2 ^ 9000 in size -/
def CDivA (_ j : Int) : Prop := j ≠ 0 ∧ j.natAbs.log2 < 9000
theorem r2_div {i j : Int} (h : CDivA i j) : R2D K (rI CDivA fun i j => .int (i.fdiv j)) (.int i) (.int j) (.int (i.fdiv j)) := r2_I h fun _ => .int _
theorem r2_pow {i j : Int} (h : CPow i j) : R2D K (rI CPow fun i j => .int (i ^ j.toNat)) (.int i) (.int j) (.int (i ^ j.toNat)) := r2_I h fun _ => .int _
theorem r1_neg {i : Int} : R1D K (rU fun i => .int (-i)) (.int i) (.int (-i)) := fun G H k v r Q q => by
  cases r
  exact ⟨i, rfl, q _ G H (.refl k) (.int _)⟩
/-- == and != of data -/
theorem r2_eq {p q : PyData} (hx : py x = some p) (hy : py y = some q) (sx : SeqAt.shaped p = true) (sy : SeqAt.shaped q = true) : R2D K (rEqD K) x y (.bl (PyData.eqv p q)) := fun G H k v w r1 r2 Q qq =>
  ⟨p, q, (r1.mono k).dp hx, (r2.mono k).dp hy, sx, sy, qq _ G H (.refl k) (.bl _)⟩
theorem r2_ne {p q : PyData} (hx : py x = some p) (hy : py y = some q) (sx : SeqAt.shaped p = true) (sy : SeqAt.shaped q = true) : R2D K (rNeD K) x y (.bl (!PyData.eqv p q)) := fun G H k v w r1 r2 Q qq =>
  ⟨p, q, (r1.mono k).dp hx, (r2.mono k).dp hy, sx, sy, qq _ G H (.refl k) (.bl _)⟩
theorem r2_eqI {i j : Int} : R2D K (rEqD K) (.int i) (.int j) (.bl (i == j)) := by
  have h := r2_eq (K := K) (x := .int i) (y := .int j) (p := .int i) (q := .int j) rfl rfl rfl rfl
  rwa [PyData.eqv] at h
theorem r2_neI {i j : Int} : R2D K (rNeD K) (.int i) (.int j) (.bl (!(i == j))) := by
  have h := r2_ne (K := K) (x := .int i) (y := .int j) (p := .int i) (q := .int j) rfl rfl rfl rfl
  rwa [PyData.eqv] at h
def isNon : Dt → Bool
  | .non => true
  | _ => false
theorem isNon_v {G : Hp} {v : V} (h : Rp K G v x) : decide (v = .non) = isNon x := by
  cases h <;> first | rfl | exact decide_eq_false (fun z => nomatch z)
def rIsN : R2 := fun x y H Q => y = .non ∧ Q (.bl (decide (x = .non))) H
def rNotN : R2 := fun x y H Q => y = .non ∧ Q (.bl (!decide (x = .non))) H
theorem op_isN1 {X : Cx} : OpR X (compareOp .Is) rIsN := op_isN
theorem op_notN1 {X : Cx} : OpR X (compareOp .IsNot) rNotN := op_notN
theorem r2_isN : R2D K rIsN x .non (.bl (isNon x)) := fun G H k v w r1 r2 Q q => by
  cases r2
  refine ⟨rfl, ?_⟩
  rw [isNon_v r1]
  exact q _ G H (.refl k) (.bl _)
theorem r2_notN : R2D K rNotN x .non (.bl (!isNon x)) := fun G H k v w r1 r2 Q q => by
  cases r2
  refine ⟨rfl, ?_⟩
  rw [isNon_v r1]
  exact q _ G H (.refl k) (.bl _)
/-! subscripts -/
theorem at_get {vs : List V} {ds : List Dt} {G : Hp} {i : Int} (r : Rps K G vs ds) (h : atI ds i = some x) : ∃ v, atI vs i = some v ∧ Rp K G v x := by
  unfold atI at h ⊢
  rw [r.length]
  cases q : ixN ds.length i with
  | none => rw [q] at h; cases h
  | some j =>
    rw [q] at h
    exact r.get h
theorem r2_ixT {ds : List Dt} {i : Int} (h : atI ds i = some x) : R2D K (rIx K) (.tup ds) (.int i) x := fun G H k v w r1 r2 Q q => by
  cases r2
  cases r1 with
  | tup hs rs =>
    obtain ⟨v, h1, h2⟩ := at_get rs h
    exact .inr (.inl ⟨_, _, i, v, rfl, rfl, exT k hs, h1, q v G H (.refl k) h2⟩)
theorem r2_ixL {ds : List Dt} {i : Int} (h : atI ds i = some x) : R2D K (rIx K) (.lst ds) (.int i) x := fun G H k v w r1 r2 Q q => by
  cases r2
  cases r1 with
  | lst hs rs =>
    obtain ⟨v, h1, h2⟩ := at_get rs h
    exact .inl ⟨_, _, i, v, rfl, rfl, Evl.ex_l k hs, h1, q v G H (.refl k) h2⟩
/-! arguments, displays -/
theorem ea_nil : EvA K tNil sl [] := fun G H σ k f Q q => q _ G H (.refl k) .nil
theorem ea_cons {tr : TA} {xs : List Dt} (ha : Ev K ta sl x) (hr : EvA K tr sl xs) : EvA K (tCons ta tr) sl (x :: xs) := fun G H σ k f Q q =>
  ha G H σ k f _ fun v G1 H1 n1 r1 => hr G1 H1 σ n1.k (FrD.mono n1.g f) _ fun vs G2 H2 n2 r2 => q _ G2 H2 (n1.trans n2) (.cons (r1.mono n2.g) r2)
theorem sz_ok {n : Nat} (h : n ≤ 100000) : n ≤ sizeLine := Nat.le_trans h (by decide)
theorem ev_tup {tr : TA} {xs : List Dt} (h : EvA K tr sl xs) (hn : xs.length ≤ 100000 := by exact Nat.le_of_ble_eq_true rfl) : Ev K (tTup tr) sl (.tup xs) := fun G H σ k f Q q =>
  h G H σ k f _ fun vs G1 H1 n1 r1 => ⟨by rw [r1.length]; exact sz_ok hn, fun p o hp ho => q _ _ _ (n1.trans (.new n1.k hp)) (.tup (sqx_new ho) (r1.mono (Ex.new (free_of n1.k hp))))⟩
theorem ev_lst {tr : TA} {xs : List Dt} (h : EvA K tr sl xs) (hn : xs.length ≤ 100000 := by exact Nat.le_of_ble_eq_true rfl) : Ev K (tLst tr) sl (.lst xs) := fun G H σ k f Q q =>
  h G H σ k f _ fun vs G1 H1 n1 r1 => ⟨by rw [r1.length]; exact sz_ok hn, fun p hp => q _ _ _ (n1.trans (.new n1.k hp)) (.lst (.inl (.inl upd_same)) (r1.mono (Ex.new (free_of n1.k hp))))⟩
/-! calls -/
theorem rps_nil {G : Hp} {vs : List V} {ds : List Dt} (r : Rps K G vs ds) : Rps K G (vs ++ []) ds := by
  rw [List.append_nil]
  exact r
theorem ev_call {tr : TA} {xs : List Dt} {R : List Dt → Dt → Prop} {E : XK} (h : EvA K tr sl xs) (hr : R xs x) : Ev K (tCall (spP K R) [] E tr) sl x := fun G H σ k f Q q =>
  h G H σ k f _ fun vs G1 H1 n1 r1 => ⟨xs, x, G1, n1.k, rps_nil r1, hr, fun v G2 H2 n2 r2 => q v G2 H2 (n1.trans n2) r2⟩
theorem ev_callX {tr : TA} {xs : List Dt} {R : List Dt → Dt → Prop} {XF : List Dt → Value → Prop} {E : XK} (h : EvA K tr sl xs) (hr : R xs x) : Ev K (tCall (spX K R XF) [] E tr) sl x := fun G H σ k f Q q =>
  h G H σ k f _ fun vs G1 H1 n1 r1 => ⟨xs, G1, n1.k, rps_nil r1, .inl ⟨x, hr, fun v G2 H2 n2 r2 => q v G2 H2 (n1.trans n2) r2⟩⟩
theorem ev_cb {tr : TA} {xs : List Dt} {rc : List V → Hp → VK → Prop} (h : EvA K tr sl xs) (hr : RcD K rc xs x) : Ev K (tCB rc tr) sl x := fun G H σ k f Q q =>
  h G H σ k f _ fun vs G1 H1 n1 r1 => hr G1 H1 n1.k vs r1 Q fun u G2 H2 n2 r2 => q u G2 H2 (n1.trans n2) r2
def rAbs : List V → Hp → VK → Prop := fun xs H Q => ∃ i, xs = [.int i] ∧ Q (.int (if i < 0 then -i else i)) H
def rMax2 : List V → Hp → VK → Prop := fun xs H Q => ∃ i j, xs = [.int i, .int j] ∧ Q (.int (if j > i then j else i)) H
def rMin2 : List V → Hp → VK → Prop := fun xs H Q => ∃ i j, xs = [.int i, .int j] ∧ Q (.int (if j < i then j else i)) H
theorem rps1 {G : Hp} {vs : List V} {d : Dt} (r : Rps K G vs [d]) : ∃ v, vs = [v] ∧ Rp K G v d := by
  cases r with
  | cons h t => cases t; exact ⟨_, rfl, h⟩
theorem rps2 {G : Hp} {vs : List V} {d e : Dt} (r : Rps K G vs [d, e]) : ∃ v w, vs = [v, w] ∧ Rp K G v d ∧ Rp K G w e := by
  cases r with
  | cons h t =>
    obtain ⟨w, rfl, h2⟩ := rps1 t
    exact ⟨_, _, rfl, h, h2⟩
theorem rc_abs {i : Int} : RcD K rAbs [.int i] (.int (i.natAbs : Int)) := fun G H k vs r Q q => by
  obtain ⟨v, rfl, h⟩ := rps1 r
  cases h
  refine ⟨i, rfl, ?_⟩
  have e : (if i < 0 then -i else i) = (i.natAbs : Int) := by split <;> omega
  rw [e]
  exact q _ G H (.refl k) (.int _)
theorem rc_max {i j : Int} : RcD K rMax2 [.int i, .int j] (.int (max i j)) := fun G H k vs r Q q => by
  obtain ⟨v, w, rfl, h1, h2⟩ := rps2 r
  cases h1
  cases h2
  refine ⟨i, j, rfl, ?_⟩
  have e : (if j > i then j else i) = max i j := by split <;> omega
  rw [e]
  exact q _ G H (.refl k) (.int _)
theorem rc_min {i j : Int} : RcD K rMin2 [.int i, .int j] (.int (min i j)) := fun G H k vs r Q q => by
  obtain ⟨v, w, rfl, h1, h2⟩ := rps2 r
  cases h1
  cases h2
  refine ⟨i, j, rfl, ?_⟩
  have e : (if j < i then j else i) = min i j := by split <;> omega
  rw [e]
  exact q _ G H (.refl k) (.int _)
theorem rc_gcd {i j : Int} : RcD K rGcd [.int i, .int j] (.int ((Nat.gcd i.natAbs j.natAbs : Nat) : Int)) := fun G H k vs r Q q => by
  obtain ⟨v, w, rfl, h1, h2⟩ := rps2 r
  cases h1
  cases h2
  exact ⟨i, j, rfl, q _ G H (.refl k) (.int _)⟩
def rLenS (K : PySem.W.Frag) : List V → Hp → VK → Prop := fun xs H Q => ∃ p ys, xs = [.ref p] ∧ (SqL K H p ys ∨ SqT K H p ys) ∧ Q (.int ys.length) H
theorem rc_lenT {ds : List Dt} : RcD K (rLenS K) [.tup ds] (.int (ds.length : Int)) := fun G H k vs r Q q => by
  obtain ⟨v, rfl, h⟩ := rps1 r
  cases h with
  | tup hs rs =>
    refine ⟨_, _, rfl, .inr (exT k hs), ?_⟩
    rw [rs.length]
    exact q _ G H (.refl k) (.int _)
theorem rc_lenL {ds : List Dt} : RcD K (rLenS K) [.lst ds] (.int (ds.length : Int)) := fun G H k vs r Q q => by
  obtain ⟨v, rfl, h⟩ := rps1 r
  cases h with
  | lst hs rs =>
    refine ⟨_, _, rfl, .inl (Evl.ex_l k hs), ?_⟩
    rw [rs.length]
    exact q _ G H (.refl k) (.int _)
/-! isinstance -/
def tyN : Dt → String
  | .non => "NoneType" | .bl _ => "bool" | .int _ => "int" | .str _ => "str" | .tup _ => "tuple" | .lst _ => "list" | .dct => "dict"
theorem tyx_of {H : Hp} {v : V} (h : Rp K H v x) : TyX K H v (.type (tyN x)) := by
  cases h with
  | non => exact .base .non
  | bl b => exact .base (.bl b)
  | int i => exact .base (.int i)
  | str s => exact .base (.str s)
  | tup hs _ =>
    rcases hs with ⟨o, h, _⟩ | ⟨o, its, n, hl, hc, _⟩
    · exact .fTuple h
    · exact .kTuple hl hc
  | lst hs _ =>
    rcases hs with (h | ⟨o, h⟩) | ⟨o, its, n, hl, hc, _⟩
    · exact .base (.lst h)
    · exact .base (.frz h)
    · exact .kList hl hc
  | dct h => exact .base (.dK h)
theorem ev_isi {n : String} {b : Bool} (h : Ev K ta sl x) (hb : kitB (tyN x) n = some b) : Ev K (tCB (rIsi K) (tCons ta (tCons (tC (.ty n)) tNil))) sl (.bl b) := fun G H σ k f Q q =>
  h G H σ k f _ fun v G1 H1 n1 r1 => ⟨v, .ty n, _, _, b, rfl, .ty n, tyx_of (r1.mono n1.k), kit_ty hb, q _ G1 H1 n1 (.bl b)⟩
theorem kb_ii : kitB "int" "int" = some true := by decide +kernel
theorem kb_ib : kitB "int" "bool" = some false := by decide +kernel
theorem kb_tt : kitB "tuple" "tuple" = some true := by decide +kernel
theorem kb_bb : kitB "bool" "bool" = some true := by decide +kernel
/-! tests, and | or | not -/
theorem et_test {b : Bool} (h : Ev K te sl (.bl b)) : EvT K (tTest te) sl b := fun G H σ k f Q q => h G H σ k f _ fun v G1 H1 n1 r1 => by
  cases r1
  exact ⟨b, rfl, q G1 H1 n1⟩
theorem et_B {b : Bool} (h : Ev K te sl (.bl b)) : EvT K (tB te) sl b := fun G H σ k f Q q => h G H σ k f _ fun v G1 H1 n1 r1 => by
  cases r1
  exact ⟨b, rfl, q G1 H1 n1⟩
theorem et_is {a b : Bool} (h : EvT K t sl a) (e : a = b) : EvT K t sl b := e ▸ h
theorem et_and {a b : Bool} (h1 : EvT K t sl a) (h2 : a = true → EvT K u sl b) : EvT K (tAnd t u) sl (a && b) := fun G H σ k f Q q => h1 G H σ k f _ fun G1 H1 n1 => by
  cases a with
  | true =>
    show u σ H1 Q
    exact h2 rfl G1 H1 σ n1.k (FrD.mono n1.g f) Q fun G2 H2 n2 => q G2 H2 (n1.trans n2)
  | false => exact q G1 H1 n1
theorem et_or {a b : Bool} (h1 : EvT K t sl a) (h2 : a = false → EvT K u sl b) : EvT K (tOr t u) sl (a || b) := fun G H σ k f Q q => h1 G H σ k f _ fun G1 H1 n1 => by
  cases a with
  | true => exact q G1 H1 n1
  | false =>
    show u σ H1 Q
    exact h2 rfl G1 H1 σ n1.k (FrD.mono n1.g f) Q fun G2 H2 n2 => q G2 H2 (n1.trans n2)
theorem et_not {a : Bool} (h : EvT K t sl a) : EvT K (tNot t) sl (!a) := fun G H σ k f Q q => h G H σ k f _ fun G1 H1 n1 => q G1 H1 n1
theorem ev_andV {a b : Bool} (h1 : Ev K ta sl (.bl a)) (h2 : a = true → Ev K tb sl (.bl b)) : Ev K (tAndV ta tb) sl (.bl (a && b)) := fun G H σ k f Q q => h1 G H σ k f _ fun v G1 H1 n1 r1 => by
  cases r1
  refine ⟨a, rfl, ?_⟩
  cases a with
  | true =>
    show tb σ H1 Q
    exact h2 rfl G1 H1 σ n1.k (FrD.mono n1.g f) Q fun v G2 H2 n2 => q v G2 H2 (n1.trans n2)
  | false => exact q _ G1 H1 n1 (.bl _)
theorem ev_orV {a b : Bool} (h1 : Ev K ta sl (.bl a)) (h2 : a = false → Ev K tb sl (.bl b)) : Ev K (tOrV ta tb) sl (.bl (a || b)) := fun G H σ k f Q q => h1 G H σ k f _ fun v G1 H1 n1 r1 => by
  cases r1
  refine ⟨a, rfl, ?_⟩
  cases a with
  | true => exact q _ G1 H1 n1 (.bl _)
  | false =>
    show tb σ H1 Q
    exact h2 rfl G1 H1 σ n1.k (FrD.mono n1.g f) Q fun v G2 H2 n2 => q v G2 H2 (n1.trans n2)
theorem ev_notV {a : Bool} (h1 : Ev K ta sl (.bl a)) : Ev K (tNotV ta) sl (.bl (!a)) := fun G H σ k f Q q => h1 G H σ k f _ fun v G1 H1 n1 r1 => by
  cases r1
  exact ⟨a, rfl, q _ G1 H1 n1 (.bl _)⟩
theorem ev_if {b : Bool} (h : EvT K t sl b) (h1 : b = true → Ev K ta sl x) (h2 : b = false → Ev K tb sl x) : Ev K (tIf t ta tb) sl x := fun G H σ k f Q q => h G H σ k f _ fun G1 H1 n1 => by
  cases b with
  | true =>
    show ta σ H1 Q
    exact h1 rfl G1 H1 σ n1.k (FrD.mono n1.g f) Q fun v G2 H2 n2 => q v G2 H2 (n1.trans n2)
  | false =>
    show tb σ H1 Q
    exact h2 rfl G1 H1 σ n1.k (FrD.mono n1.g f) Q fun v G2 H2 n2 => q v G2 H2 (n1.trans n2)
end
/-! ### statements that change nothing but slots: Nt goes on with other slots, Rt hands back -/
def Nt (K : PySem.W.Frag) (ts : TS) (sl sl2 : List Sl) : Prop := ∀ (G H : Hp) (σ : L2.St), Ex G H → FrD K G σ sl → ∀ D : Ends, (∀ σ2 G2 H2, Nx G H G2 H2 → FrD K G2 σ2 sl2 → D.nx σ2 H2) → ts D σ H
def Rt (K : PySem.W.Frag) (ts : TS) (sl : List Sl) (x : Dt) : Prop := ∀ (G H : Hp) (σ : L2.St), Ex G H → FrD K G σ sl → ∀ D : Ends, (∀ v G2 H2, Nx G H G2 H2 → Rp K G2 v x → D.rt v H2) → ts D σ H
section
variable {K : PySem.W.Frag} {sl sl1 sl2 : List Sl} {te : TE} {tc : TT} {x y : Dt} {t u : TS}
theorem nt_next : Nt K tNext sl sl := fun G H σ k f D q => q σ G H (.refl k) f
theorem nt_asg {i : Nat} (h : Ev K te sl x) : Nt K (tAsg te (gName i)) sl (sl.set i (.d x)) := fun G H σ k f D q =>
  h G H σ k f _ fun v G1 H1 n1 r1 => q _ G1 H1 n1 (frd_set (.d r1) i (FrD.mono n1.g f))
theorem nt_par {i j : Nat} {ta : TA} (h : EvA K ta sl [x, y]) : Nt K (tPar i j ta) sl ((sl.set i (.d x)).set j (.d y)) := fun G H σ k f D q =>
  h G H σ k f _ fun vs G1 H1 n1 r1 => by
    obtain ⟨v, w, rfl, h1, h2⟩ := rps2 r1
    exact ⟨v, w, rfl, q _ G1 H1 n1 (frd_set (.d h2) j (frd_set (.d h1) i (FrD.mono n1.g f)))⟩
/-- a, b = a pair -/
theorem nt_unp {i j : Nat} (h : Ev K te sl (.tup [x, y])) : Nt K (tAsg te (gTup K 2 (gCons (gName i) (gCons (gName j) gNil)))) sl ((sl.set i (.d x)).set j (.d y)) := fun G H σ k f D q =>
  h G H σ k f _ fun v G1 H1 n1 r1 => by
    cases r1 with
    | tup hs rs =>
      obtain ⟨v, w, rfl, h1, h2⟩ := rps2 rs
      exact ⟨_, _, rfl, exT n1.k hs, rfl, v, [w], rfl, w, [], rfl, rfl, q _ G1 H1 n1 (frd_set (.d h2) j (frd_set (.d h1) i (FrD.mono n1.g f)))⟩
theorem nt_drop (h : Ev K te sl x) : Nt K (tDrop te) sl sl := fun G H σ k f D q => h G H σ k f _ fun v G1 H1 n1 r1 => q _ G1 H1 n1 (FrD.mono n1.g f)
theorem nt_seq (h1 : Nt K t sl sl1) (h2 : Nt K u sl1 sl2) : Nt K (tSeq t u) sl sl2 := fun G H σ k f D q =>
  h1 G H σ k f _ fun σ1 G1 H1 n1 f1 => h2 G1 H1 σ1 n1.k f1 D fun σ2 G2 H2 n2 f2 => q σ2 G2 H2 (n1.trans n2) f2
theorem rt_seq (h1 : Nt K t sl sl1) (h2 : Rt K u sl1 x) : Rt K (tSeq t u) sl x := fun G H σ k f D q =>
  h1 G H σ k f _ fun σ1 G1 H1 n1 f1 => h2 G1 H1 σ1 n1.k f1 D fun v G2 H2 n2 r2 => q v G2 H2 (n1.trans n2) r2
theorem rt_ret (h : Ev K te sl x) : Rt K (tRet te) sl x := fun G H σ k f D q => h G H σ k f _ q
theorem rt_is (h : Rt K t sl x) (e : x = y) : Rt K t sl y := e ▸ h
theorem nt_is (h : Nt K t sl sl1) (e : sl1 = sl2) : Nt K t sl sl2 := e ▸ h
theorem nt_if {b : Bool} (h : EvT K tc sl b) (h1 : b = true → Nt K t sl sl2) (h2 : b = false → Nt K u sl sl2) : Nt K (tIfS tc t u) sl sl2 := fun G H σ k f D q => h G H σ k f _ fun G1 H1 n1 => by
  cases b with
  | true =>
    show t D σ H1
    exact h1 rfl G1 H1 σ n1.k (FrD.mono n1.g f) D fun σ2 G2 H2 n2 => q σ2 G2 H2 (n1.trans n2)
  | false =>
    show u D σ H1
    exact h2 rfl G1 H1 σ n1.k (FrD.mono n1.g f) D fun σ2 G2 H2 n2 => q σ2 G2 H2 (n1.trans n2)
/-- if c: .. return; then the rest -/
theorem rt_cond {b : Bool} (h : EvT K tc sl b) (h1 : b = true → Rt K t sl x) (h2 : b = false → Rt K u sl x) : Rt K (tSeq (tIfS tc t tNext) u) sl x := fun G H σ k f D q => h G H σ k f _ fun G1 H1 n1 => by
  cases b with
  | true =>
    show t { D with nx := u D } σ H1
    exact h1 rfl G1 H1 σ n1.k (FrD.mono n1.g f) _ fun v G2 H2 n2 => q v G2 H2 (n1.trans n2)
  | false =>
    show u D σ H1
    exact h2 rfl G1 H1 σ n1.k (FrD.mono n1.g f) D fun v G2 H2 n2 => q v G2 H2 (n1.trans n2)
/-- the test is never true, the rest hands back -/
theorem rt_no {b : Bool} (h : EvT K tc sl b) (e : b = false) (k : Rt K u sl x) : Rt K (tSeq (tIfS tc t tNext) u) sl x := by
  subst e
  exact rt_cond h (fun z => by cases z) fun _ => k
theorem rt_yes {b : Bool} (h : EvT K tc sl b) (e : b = true) (k : Rt K t sl x) : Rt K (tSeq (tIfS tc t tNext) u) sl x := by
  subst e
  exact rt_cond h (fun _ => k) fun z => by cases z
/-- a while whose slots are told by a state: I holds, μ falls -/
theorem nt_while {α : Type} (S : α → List Sl) (I : α → Prop) (μ : α → Nat) (a0 : α) (i0 : I a0) (e0 : sl = S a0)
    (hs : ∀ a, I a → ∃ b, EvT K tc (S a) b ∧ (b = true → ∃ a', I a' ∧ μ a' < μ a ∧ Nt K t (S a) (S a')) ∧ (b = false → S a = sl2)) : Nt K (tWhile tc t) sl sl2 := fun G H σ k f D q => by
  subst e0
  refine ⟨fun m σ' H' => ∃ a G', m = μ a ∧ I a ∧ Nx G H G' H' ∧ FrD K G' σ' (S a), ⟨μ a0, a0, G, rfl, i0, .refl k, f⟩, ?_⟩
  rintro m σ1 H1 ⟨a, G1, rfl, ia, n1, f1⟩
  obtain ⟨b, hb, ht, hf⟩ := hs a ia
  refine hb G1 H1 σ1 n1.k f1 _ fun G2 H2 n2 => ?_
  cases b with
  | true =>
    obtain ⟨a', ia', lt, nt⟩ := ht rfl
    refine ⟨fun σ' H' => ∃ G', Nx G H G' H' ∧ FrD K G' σ' (S a'), fun σ' H' ⟨G', n', f'⟩ => ⟨μ a', lt, a', G', rfl, ia', n', f'⟩, ?_⟩
    exact nt G2 H2 σ1 n2.k (FrD.mono n2.g f1) _ fun σ3 G3 H3 n3 f3 => ⟨G3, (n1.trans n2).trans n3, f3⟩
  | false =>
    show D.nx σ1 H2
    have e := hf rfl
    rw [e] at f1
    exact q σ1 G2 H2 (n1.trans n2) (FrD.mono n2.g f1)
/-- for x in range(n) -/
theorem nt_for {ta : TA} {j : Nat} {n : Int} (S : Nat → List Sl) (h : EvA K ta sl [.int n]) (hn : 0 ≤ n ∧ n ≤ 100000) (e0 : sl = S 0) (hs : ∀ i : Nat, (i : Int) < n → Nt K t ((S i).set j (.d (.int i))) (S (i + 1))) : Nt K (tFor (iRng1 ta) (gName j) t) sl (S n.toNat) := fun G H σ k f D q => by
  refine h G H σ k f _ fun vs G1 H1 n1 r1 => ?_
  obtain ⟨v, rfl, r2⟩ := rps1 r1
  cases r2
  refine ⟨n, rfl, by omega, by omega, for_range (lo := 0) (n := n.toNat) (fun i σ' H' => ∃ G', Nx G H G' H' ∧ FrD K G' σ' (S i)) ⟨G1, n1, by rw [← e0]; exact FrD.mono n1.g f⟩ ?_ ?_⟩
  · rintro i σ2 H2 hi ⟨G2, n2, f2⟩
    have e : (0 : Int) + (i : Int) = (i : Int) := Int.zero_add _
    rw [e]
    refine hs i (by omega) G2 H2 _ n2.k (frd_set (.d (.int _)) j f2) _ fun σ3 G3 H3 n3 f3 => ⟨G3, n2.trans n3, f3⟩
  · rintro σ2 H2 ⟨G2, n2, f2⟩
    exact q σ2 G2 H2 n2 f2
end
/-! ### a def by its body -/
/-- a def of the module -/
structure Dd (K : PySem.W.Frag) (mg : Str → Option Value) (x : Str) (st : Stmt) (ps : List Str) : Prop where
  ex : ∃ (f : Addr) (fd : FuncData), Fun K x x st f fd ∧ mg x = some (.ref f) ∧ Binds K fd ps []
/-- a def that may be called by its name -/
structure Has (P : Program) (w : World) (K : PySem.W.Frag) (mg : Str → Option Value) (base : Heap) (CX : CXT) (k : Nat) (x : Str) (ps : List Str) (sp : Sp) : Prop where
  ex : ∃ (f : Addr) (fd : FuncData), FnOk P w K mg base CX k f fd ps sp ∧ mg x = some (.ref f) ∧ PySem.W.keepIn K (.ref f) = true ∧ Binds K fd ps []
section
variable {P : Program} {w : World} {K : PySem.W.Frag} {mg : Str → Option Value} {base : Heap} {x : Str} {st : Stmt} {N ps : List Str} {k : Nat}
theorem start_ok {G : Hp} {vs : List V} {ds : List Dt} (r : Rps K G vs ds) (hl : ds.length = ps.length) : FrD K G (L2.start N vs) (ds.map Sl.d ++ List.replicate (N.length - ps.length) .no) := by
  unfold L2.start
  rw [r.length, hl]
  exact frd_start _ r
/-- a def that changes nothing and hands back on every way -/
theorem Dd.pure {R : List Dt → Dt → Prop} {t : TS} (D : Dd K mg x st ps) (S : FnScope N ps (defScope st)) (hl : ∀ ds d, R ds d → ds.length = ps.length)
    (h1 : ∀ (f : Addr) (cdv : Value) (A : Around) (outer : List Env) (s : Shared) (H : Hp) (E : XK), Room k (A.deeper (envOfC x (defScope st) s.heap.objs.size f cdv)) → PSs (cxOf CX0 P w K mg base N x (defScope st) f cdv A outer s H E).nox (defBody st) t)
    (h2 : ∀ ds d, R ds d → Rt K t (ds.map Sl.d ++ List.replicate (N.length - ps.length) .no) d) : Has P w K mg base CX0 (k + 1) x ps (spP K R) := by
  obtain ⟨f, fd, F, hm, b⟩ := D.ex
  refine ⟨f, fd, F.ok S (fun vs H Q E h => ?_) (fun cdv A outer s H vs Q E hr h => ⟨t, h1 f cdv A outer s H E hr, ?_⟩), hm, F.kp, b⟩
  · obtain ⟨ds, d, G, _, r, hR, _⟩ := h
    rw [r.length]
    exact hl ds d hR
  · obtain ⟨ds, d, G, kG, r, hR, q⟩ := h
    exact h2 ds d hR G H _ kG (start_ok r (hl ds d hR)) _ q
/-- .. at its own place -/
theorem fn_pure {R : List Dt → Dt → Prop} {t : TS} {f : Addr} {fd : FuncData} (F : Fun K x x st f fd) (S : FnScope N ps (defScope st)) (hl : ∀ ds d, R ds d → ds.length = ps.length)
    (h1 : ∀ (f : Addr) (cdv : Value) (A : Around) (outer : List Env) (s : Shared) (H : Hp) (E : XK), Room k (A.deeper (envOfC x (defScope st) s.heap.objs.size f cdv)) → PSs (cxOf CX0 P w K mg base N x (defScope st) f cdv A outer s H E).nox (defBody st) t)
    (h2 : ∀ ds d, R ds d → Rt K t (ds.map Sl.d ++ List.replicate (N.length - ps.length) .no) d) : FnOk P w K mg base CX0 (k + 1) f fd ps (spP K R) := by
  refine F.ok S (fun vs H Q E h => ?_) (fun cdv A outer s H vs Q E hr h => ⟨t, h1 f cdv A outer s H E hr, ?_⟩)
  · obtain ⟨ds, d, G, _, r, hR, _⟩ := h
    rw [r.length]
    exact hl ds d hR
  · obtain ⟨ds, d, G, kG, r, hR, q⟩ := h
    exact h2 ds d hR G H _ kG (start_ok r (hl ds d hR)) _ q
theorem rps_ints {H : Hp} : ∀ ns : List Int, Rps K H (ns.map V.int) (ns.map Dt.int)
  | [] => .nil
  | n :: r => .cons (.int n) (rps_ints r)
/-- any promise -/
theorem Dd.any {sp : Sp} {t : TS} (D : Dd K mg x st ps) (S : FnScope N ps (defScope st)) (hl : ∀ vs H Q E, sp vs H Q E → vs.length = ps.length)
    (h1 : ∀ (f : Addr) (cdv : Value) (A : Around) (outer : List Env) (s : Shared) (H : Hp) (E : XK), Room k (A.deeper (envOfC x (defScope st) s.heap.objs.size f cdv)) → PSs (cxOf CX0 P w K mg base N x (defScope st) f cdv A outer s H E).nox (defBody st) t)
    (h2 : ∀ vs H Q E, sp vs H Q E → t { nx := fun _ H' => Q .non H', rt := Q } (L2.start N vs) H) : Has P w K mg base CX0 (k + 1) x ps sp := by
  obtain ⟨f, fd, F, hm, b⟩ := D.ex
  exact ⟨f, fd, F.ok S hl (fun cdv A outer s H vs Q E hr h => ⟨t, h1 f cdv A outer s H E hr, h2 vs H Q E h⟩), hm, F.kp, b⟩
end
section
variable {X : Cx} {CX : CXT} {k j : Nat} {x : Str} {ps : List Str} {sp : Sp} {p pos : Pos} {e : Expr} {es : List Expr} {t : TA} {E : XK}
theorem pe_h (c : Has X.prog X.w X.K X.mg X.base CX k x ps sp) (hr : Room j X.A) (hk : k ≤ j) (hx : Passes CX X E) (ha : PA X (e :: es) t) (hg : Gl X x := by rfl)
    (hdb : (x == ("__debug__" : Str)) = false := by decide) (he : starEach (e :: es) X.env = (false, eval e X.env) :: starEach es X.env := by rfl) (hpl : (backTo pos (starEach es X.env)).any (·.1) = false := by rfl) :
    PE X (.Call (.Name x p) (e :: es) [] pos) (tCall sp [] E t) := by
  obtain ⟨f, fd, F, hm, kp, b⟩ := c.ex
  exact pe_call F (hr.mono hk) hg hm kp b .nil hx ha hdb he hpl
theorem op_fdivA : OpR X (binaryOp .FloorDiv) (rI CDivA fun i j => .int (i.fdiv j)) := opI fun i j _ _ _ _ _ hc q => floordiv_int hc.1 q (.inl (PyProof.noPylong_of_log2 hc.2))
theorem op_mulA : OpR X (binaryOp .Mult) (rI IntMulOk fun i j => .int (i * j)) := opI fun _ _ _ _ _ _ _ hc q => mul_int q hc
theorem ixK {K : PySem.W.Frag} (e : X.K = K) : IxR X (rIx K) := e ▸ ix_seq
theorem eqK {K : PySem.W.Frag} (e : X.K = K) (hu : X.A.units + 64 < cLine) : OpR X (compareOp .Eq) (rEqD K) := e ▸ op_eqD hu
theorem neK {K : PySem.W.Frag} (e : X.K = K) (hu : X.A.units + 64 < cLine) : OpR X (compareOp .NotEq) (rNeD K) := e ▸ op_neD hu
theorem lenK {K : PySem.W.Frag} (e : X.K = K) : CallR X (.builtin "len") (rLenS K) := e ▸ call_len_seq
theorem isiK {K : PySem.W.Frag} (e : X.K = K) : CallR X (.builtin "isinstance") (rIsi K) := e ▸ call_isi
theorem lstK {K : PySem.W.Frag} {tg l : Expr} {tl : TE} (e : X.K = K) (hl : PE X l tl) : PI X tg l (iList K tl) := e ▸ pi_list hl
theorem tupK {K : PySem.W.Frag} {es : List Expr} {k : Nat} {t : TGs} {n : Nat} {pos : Pos} (e : X.K = K) (hc : X.calm = true) (h : PGs X es t) (hn : (assignEach es X.env).length = n := by rfl) (hst : (assignEach es X.env).findIdx? (·.1) = none := by rfl) : PG X (.Tuple es k pos) (gTup K n t) := e ▸ pg_tup hc h hn hst
theorem cr_abs : CallR X (.builtin "abs") rAbs := call_abs
theorem cr_max (hc : X.calm = true) : CallR X (.builtin "max") rMax2 := call_max2 hc
theorem cr_min (hc : X.calm = true) : CallR X (.builtin "min") rMin2 := call_min2 hc
end
end Z
namespace Z
open PySem PySem.Spec PyProof.Rows L2
open Evl (Ex)
/-! ### pots: lists of one int, at addresses that are not known for good -/
def Pots (ps : List Addr) (G H : Hp) : Prop := ∀ p ∈ ps, G p = none ∧ ∃ n : Int, H p = some (.lst [.int n])
structure NxP (ps : List Addr) (G H G2 H2 : Hp) : Prop where
  g : Ex G G2
  k : Ex G2 H2
  h : ∀ a o, a ∉ ps → H a = some o → H2 a = some o
  t : ∀ a, H a ≠ none → H2 a ≠ none
  f : ∀ a, G a = none → H a ≠ none → G2 a = none
theorem NxP.refl {ps : List Addr} {G H : Hp} (k : Ex G H) : NxP ps G H G H := ⟨Ex.refl G, k, fun _ _ _ h => h, fun _ h => h, fun _ h _ => h⟩
theorem NxP.trans {ps : List Addr} {G H G2 H2 G3 H3 : Hp} (a : NxP ps G H G2 H2) (b : NxP ps G2 H2 G3 H3) : NxP ps G H G3 H3 :=
  ⟨a.g.trans b.g, b.k, fun x o hx e => b.h x o hx (a.h x o hx e), fun x h => b.t x (a.t x h), fun x h1 h2 => b.f x (a.f x h1 h2) (a.t x h2)⟩
theorem Nx.p {ps : List Addr} {G H G2 H2 : Hp} (n : Nx G H G2 H2) : NxP ps G H G2 H2 := ⟨n.g, n.k, fun a o _ e => n.h a o e, fun _ h => ne_none n.h h, n.f⟩
theorem NxP.nx {G H G2 H2 : Hp} (n : NxP [] G H G2 H2) : Nx G H G2 H2 := ⟨n.g, fun a o e => n.h a o (by simp) e, n.k, n.f⟩
theorem Pots.nx {ps : List Addr} {G H G2 H2 : Hp} (m : Pots ps G H) (n : Nx G H G2 H2) : Pots ps G2 H2 := fun p hp => by
  obtain ⟨h1, i, h2⟩ := m p hp
  exact ⟨n.f p h1 (by rw [h2]; intro z; cases z), i, n.h p _ h2⟩
theorem Pots.nil {G H : Hp} : Pots [] G H := fun p hp => by cases hp
/-! ### promises of defs that draw from a pot -/
/-- hands back a new pot -/
def spNew (K : PySem.W.Frag) (C : List Dt → Prop) : Sp := fun vs H Q _ => ∃ (ds : List Dt) (G : Hp), Ex G H ∧ Rps K G vs ds ∧ C ds ∧
  ∀ p n G2 H2, Nx G H G2 H2 → H p = none → G2 p = none → H2 p = some (.lst [.int n]) → Q (.ref p) H2
/-- a number from 0 up to far -/
def spTake : Sp := fun vs H Q _ => ∃ (p : Addr) (n f : Int), vs = [.ref p, .int f] ∧ H p = some (.lst [.int n]) ∧ 0 < f ∧ f.natAbs.log2 < 9000 ∧
  ∀ m n' : Int, 0 ≤ m → m < f → Q (.int m) (upd H p (.lst [.int n']))
/-- what R tells may come, drawn from the pot that is handed in first -/
def spM (K : PySem.W.Frag) (C : List Dt → Prop) (R : List Dt → Dt → Prop) : Sp := fun vs H Q _ => ∃ (p : Addr) (ws : List V) (ds : List Dt) (G : Hp), vs = .ref p :: ws ∧ Ex G H ∧ Rps K G ws ds ∧ C ds ∧ Pots [p] G H ∧
  ∀ v x G2 H2, R ds x → NxP [p] G H G2 H2 → Pots [p] G2 H2 → Rp K G2 v x → Q v H2
/-! ### expressions, where pots may be drawn from: what may come is R -/
def Ep (K : PySem.W.Frag) (te : TE) (sl : List Sl) (ps : List Addr) (R : Dt → Prop) : Prop := ∀ (G H : Hp) (σ : L2.St), Ex G H → FrD K G σ sl → Pots ps G H → ∀ Q : VK, (∀ v x G2 H2, R x → NxP ps G H G2 H2 → Pots ps G2 H2 → Rp K G2 v x → Q v H2) → te σ H Q
def EpA (K : PySem.W.Frag) (ta : TA) (sl : List Sl) (ps : List Addr) (R : List Dt → Prop) : Prop := ∀ (G H : Hp) (σ : L2.St), Ex G H → FrD K G σ sl → Pots ps G H → ∀ Q : List V → Hp → Prop, (∀ vs xs G2 H2, R xs → NxP ps G H G2 H2 → Pots ps G2 H2 → Rps K G2 vs xs → Q vs H2) → ta σ H Q
section
variable {K : PySem.W.Frag} {sl : List Sl} {ps : List Addr} {ta tb te tc : TE} {x y z : Dt} {r : R2} {R : Dt → Prop} {RA : List Dt → Prop} {tr : TA}
theorem ep_ev (h : Ev K te sl x) (hR : R x) : Ep K te sl ps R := fun G H σ k f m Q q => h G H σ k f Q fun v G2 H2 n r => q v x G2 H2 hR n.p (m.nx n) r
theorem ep_op (h : Ep K ta sl ps fun x => Ep K tb sl ps fun y => ∃ z, R2D K r x y z ∧ R z) : Ep K (tOp r ta tb) sl ps R := fun G H σ k f m Q q =>
  h G H σ k f m _ fun v x G1 H1 h1 n1 m1 r1 => h1 G1 H1 σ n1.k (FrD.mono n1.g f) m1 _ fun w y G2 H2 ⟨z, hr, hR⟩ n2 m2 r2 => hr G2 H2 n2.k v w (r1.mono n2.g) r2 Q fun u G3 H3 n3 r3 => q u z G3 H3 hR ((n1.trans n2).trans n3.p) (m2.nx n3) r3
theorem epa_nil (h : RA []) : EpA K tNil sl ps RA := fun G H σ k f m Q q => q _ _ G H h (.refl k) m .nil
theorem epa_cons (h : Ep K ta sl ps fun x => EpA K tr sl ps fun xs => RA (x :: xs)) : EpA K (tCons ta tr) sl ps RA := fun G H σ k f m Q q =>
  h G H σ k f m _ fun v x G1 H1 h1 n1 m1 r1 => h1 G1 H1 σ n1.k (FrD.mono n1.g f) m1 _ fun vs xs G2 H2 h2 n2 m2 r2 => q _ _ G2 H2 h2 (n1.trans n2) m2 (.cons (r1.mono n2.g) r2)
theorem epa_ev {xs : List Dt} (h : EvA K tr sl xs) (hR : RA xs) : EpA K tr sl ps RA := fun G H σ k f m Q q => h G H σ k f Q fun v G2 H2 n r => q v xs G2 H2 hR n.p (m.nx n) r
theorem ep_tup (h : EpA K tr sl ps fun xs => xs.length ≤ 100000 ∧ R (.tup xs)) : Ep K (tTup tr) sl ps R := fun G H σ k f m Q q =>
  h G H σ k f m _ fun vs xs G1 H1 ⟨hn, hR⟩ n1 m1 r1 => ⟨by rw [r1.length]; exact sz_ok hn, fun p o hp ho => q _ _ _ _ hR (n1.trans (Nx.new n1.k hp).p) (m1.nx (Nx.new n1.k hp)) (.tup (sqx_new ho) (r1.mono (Ex.new (free_of n1.k hp))))⟩
theorem ep_lst (h : EpA K tr sl ps fun xs => xs.length ≤ 100000 ∧ R (.lst xs)) : Ep K (tLst tr) sl ps R := fun G H σ k f m Q q =>
  h G H σ k f m _ fun vs xs G1 H1 ⟨hn, hR⟩ n1 m1 r1 => ⟨by rw [r1.length]; exact sz_ok hn, fun p hp => q _ _ _ _ hR (n1.trans (Nx.new n1.k hp).p) (m1.nx (Nx.new n1.k hp)) (.lst (.inl (.inl upd_same)) (r1.mono (Ex.new (free_of n1.k hp))))⟩
theorem ep_call {RF : List Dt → Dt → Prop} {E : XK} (h : EpA K tr sl ps fun xs => ∃ x, RF xs x ∧ R x) : Ep K (tCall (spP K RF) [] E tr) sl ps R := fun G H σ k f m Q q =>
  h G H σ k f m _ fun vs xs G1 H1 ⟨x, hr, hR⟩ n1 m1 r1 => ⟨xs, x, G1, n1.k, rps_nil r1, hr, fun v G2 H2 n2 r2 => q v x G2 H2 hR (n1.trans n2.p) (m1.nx n2) r2⟩
/-- a draw -/
theorem ep_take {i : Nat} {p : Addr} {E : XK} (hi : sl[i]? = some (.raw (.ref p))) (hp : p ∈ ps) (h : Ep K tb sl ps fun y => ∃ f : Int, y = .int f ∧ 0 < f ∧ f.natAbs.log2 < 9000 ∧ ∀ m : Int, 0 ≤ m → m < f → R (.int m)) :
    Ep K (tCall spTake [] E (tCons (tVar i) (tCons tb tNil))) sl ps R := fun G H σ k f m Q q => by
  refine ⟨.ref p, frd_raw f hi, ?_⟩
  refine h G H σ k f m _ fun w y G1 H1 ⟨fr, ey, h0, h9, hR⟩ n1 m1 r1 => ?_
  subst ey
  cases r1
  obtain ⟨gp, n, hn⟩ := m1 p hp
  refine ⟨p, n, fr, rfl, hn, h0, h9, fun a n' a0 a1 => ?_⟩
  refine q _ _ G1 (upd H1 p (.lst [.int n'])) (hR a a0 a1) (n1.trans ⟨Ex.refl _, fun b o e => ?_, fun b o hb e => ?_, fun b hb => ?_, fun b e _ => e⟩) (fun c hc => ?_) (.int _)
  · have nb : b ≠ p := fun z => by
      rw [z, gp] at e
      cases e
    rw [upd_ne nb]
    exact n1.k b o e
  · have nb : b ≠ p := fun z => hb (z ▸ hp)
    rw [upd_ne nb]
    exact e
  · by_cases nb : b = p
    · rw [nb, upd_same]
      intro z
      cases z
    · rw [upd_ne nb]
      exact hb
  · by_cases nb : c = p
    · subst nb
      exact ⟨gp, n', upd_same⟩
    · rw [upd_ne nb]
      exact m1 c hc
theorem Pots.one {G H : Hp} (m : Pots ps G H) {p : Addr} (hp : p ∈ ps) : Pots [p] G H := fun c hc => by
  have e : c = p := by simpa using hc
  subst e
  exact m c hp
theorem NxP.wide {p : Addr} {G H G2 H2 : Hp} (n : NxP [p] G H G2 H2) (hp : p ∈ ps) : NxP ps G H G2 H2 := ⟨n.g, n.k, fun a o ha e => n.h a o (fun z => by
  have e2 : a = p := by simpa using z
  rw [e2] at ha
  exact ha hp) e, n.t, n.f⟩
theorem Pots.after {p : Addr} {G H G2 H2 : Hp} (m : Pots ps G H) (n : NxP [p] G H G2 H2) (mp : Pots [p] G2 H2) : Pots ps G2 H2 := fun c hc => by
  by_cases e : c = p
  · subst e
    exact mp c (by simp)
  · obtain ⟨h1, i, h2⟩ := m c hc
    exact ⟨n.f c h1 (by rw [h2]; intro z; cases z), i, n.h c _ (by simpa using e) h2⟩
theorem ep_callM {i : Nat} {p : Addr} {E : XK} {C : List Dt → Prop} {RF : List Dt → Dt → Prop} (hi : sl[i]? = some (.raw (.ref p))) (hp : p ∈ ps) (h : EpA K tr sl ps fun ds => C ds ∧ ∀ x, RF ds x → R x) :
    Ep K (tCall (spM K C RF) [] E (tCons (tVar i) tr)) sl ps R := fun G H σ k f m Q q => by
  refine ⟨.ref p, frd_raw f hi, ?_⟩
  refine h G H σ k f m _ fun ws ds G1 H1 ⟨hC, hR⟩ n1 m1 r1 => ?_
  refine ⟨p, ws, ds, G1, by rw [List.append_nil], n1.k, r1, hC, m1.one hp, fun v x G2 H2 hx n2 m2 r2 => ?_⟩
  exact q v x G2 H2 (hR x hx) (n1.trans (n2.wide hp)) (m1.after n2 m2) r2
end
/-- forgetting slots -/
inductive Wk : Sl → Sl → Prop
  | same (s : Sl) : Wk s s
  | no (s : Sl) : Wk s .no
theorem frd_wk {K : PySem.W.Frag} {G : Hp} : ∀ {σ : L2.St} {sl sl2 : List Sl}, FrD K G σ sl → Paired Wk sl sl2 → FrD K G σ sl2
  | _, _, _, .nil, .nil => .nil
  | _, _, _, .cons h t, .cons w r => .cons (by cases w with
    | same => exact h
    | no => exact .no _) (frd_wk t r)
/-! ### statements, where pots may be drawn from: Ip goes on, Ir hands back -/
def Ip (K : PySem.W.Frag) (ts : TS) (sl : List Sl) (ps : List Addr) (N : List Sl → Prop) : Prop := ∀ (G H : Hp) (σ : L2.St), Ex G H → FrD K G σ sl → Pots ps G H → ∀ D : Ends, (∀ σ2 sl2 G2 H2, N sl2 → NxP ps G H G2 H2 → Pots ps G2 H2 → FrD K G2 σ2 sl2 → D.nx σ2 H2) → ts D σ H
def Ir (K : PySem.W.Frag) (ts : TS) (sl : List Sl) (ps : List Addr) (R : Dt → Prop) : Prop := ∀ (G H : Hp) (σ : L2.St), Ex G H → FrD K G σ sl → Pots ps G H → ∀ D : Ends, (∀ v x G2 H2, R x → NxP ps G H G2 H2 → Pots ps G2 H2 → Rp K G2 v x → D.rt v H2) → ts D σ H
section
variable {K : PySem.W.Frag} {sl sl1 sl2 : List Sl} {ps : List Addr} {te : TE} {tc : TT} {x y : Dt} {t u : TS} {N : List Sl → Prop} {R : Dt → Prop}
theorem ip_nt (h : Nt K t sl sl1) (k : Ip K u sl1 ps N) : Ip K (tSeq t u) sl ps N := fun G H σ e f m D q =>
  h G H σ e f _ fun σ1 G1 H1 n1 f1 => k G1 H1 σ1 n1.k f1 (m.nx n1) D fun σ2 sl2 G2 H2 h2 n2 m2 f2 => q σ2 sl2 G2 H2 h2 (n1.p.trans n2) m2 f2
theorem ip_end (h : Nt K t sl sl1) (k : N sl1) : Ip K t sl ps N := fun G H σ e f m D q =>
  h G H σ e f _ fun σ1 G1 H1 n1 f1 => q σ1 sl1 G1 H1 k n1.p (m.nx n1) f1
theorem ip_asg {i : Nat} (h : Ep K te sl ps fun x => Ip K u (sl.set i (.d x)) ps N) : Ip K (tSeq (tAsg te (gName i)) u) sl ps N := fun G H σ e f m D q =>
  h G H σ e f m _ fun v x G1 H1 h1 n1 m1 r1 => h1 G1 H1 _ n1.k (frd_set (.d r1) i (FrD.mono n1.g f)) m1 D fun σ2 sl2 G2 H2 h2 n2 m2 f2 => q σ2 sl2 G2 H2 h2 (n1.trans n2) m2 f2
theorem ip_asg1 {i : Nat} (h : Ep K te sl ps fun x => N (sl.set i (.d x))) : Ip K (tAsg te (gName i)) sl ps N := fun G H σ e f m D q =>
  h G H σ e f m _ fun v x G1 H1 h1 n1 m1 r1 => q _ _ G1 H1 h1 n1 m1 (frd_set (.d r1) i (FrD.mono n1.g f))
theorem ip_cond {b : Bool} (h : EvT K tc sl b) (h1 : b = true → Ip K (tSeq t u) sl ps N) (h2 : b = false → Ip K u sl ps N) : Ip K (tSeq (tIfS tc t tNext) u) sl ps N := fun G H σ e f m D q => h G H σ e f _ fun G1 H1 n1 => by
  cases b with
  | true =>
    show t { D with nx := u D } σ H1
    exact h1 rfl G1 H1 σ n1.k (FrD.mono n1.g f) (m.nx n1) D fun σ2 sl2 G2 H2 h2 n2 m2 f2 => q σ2 sl2 G2 H2 h2 (n1.p.trans n2) m2 f2
  | false =>
    show u D σ H1
    exact h2 rfl G1 H1 σ n1.k (FrD.mono n1.g f) (m.nx n1) D fun σ2 sl2 G2 H2 h2 n2 m2 f2 => q σ2 sl2 G2 H2 h2 (n1.p.trans n2) m2 f2
theorem ip_no1 (h : EvT K tc sl false) (h2 : N sl) : Ip K (tIfS tc t tNext) sl ps N := ip_end (nt_if h (fun z => by cases z) fun _ => nt_next) h2
theorem nt_no (h : EvT K tc sl false) : Nt K (tIfS tc t tNext) sl sl := nt_if h (fun z => by cases z) fun _ => nt_next
/-- a new pot -/
theorem ip_pot {i : Nat} {ta : TA} {xs : List Dt} {E : XK} {C : List Dt → Prop} (h : EvA K ta sl xs) (hC : C xs) (k : ∀ p, Ip K u (sl.set i (.raw (.ref p))) (p :: ps) N) : Ip K (tSeq (tAsg (tCall (spNew K C) [] E ta) (gName i)) u) sl ps N := fun G H σ e f m D q =>
  h G H σ e f _ fun vs G1 H1 n1 r1 => ⟨xs, G1, n1.k, rps_nil r1, hC, fun p n G2 H2 n2 p1 g2 p2 => by
    have n12 := n1.trans n2
    have m2 : Pots (p :: ps) G2 H2 := fun c hc => by
      rcases List.mem_cons.mp hc with z | z
      · subst z
        exact ⟨g2, n, p2⟩
      · exact (m.nx n12) c z
    have hp : H p = none := by
      cases z : H p with
      | none => rfl
      | some o =>
        rw [n1.h p o z] at p1
        cases p1
    refine k p G2 H2 _ n2.k (frd_set (.raw _) i (FrD.mono n12.g f)) m2 D fun σ3 sl3 G3 H3 h3 n3 m3 f3 => q σ3 sl3 G3 H3 h3 ⟨n12.g.trans n3.g, n3.k, fun a o ha ea => ?_, fun a ha => n3.t a (ne_none n12.h ha), fun a h1 h2 => n3.f a (n12.f a h1 h2) (ne_none n12.h h2)⟩ (fun c hc => m3 c (List.mem_cons_of_mem _ hc)) f3
    have na : a ∉ p :: ps := fun z => by
      rcases List.mem_cons.mp z with z | z
      · rw [z, hp] at ea
        cases ea
      · exact ha z
    exact n3.h a o na (n12.h a o ea)⟩
theorem nt_ip (h : Ip K t sl [] N) (w : ∀ sl1, N sl1 → ∀ G σ, FrD K G σ sl1 → FrD K G σ sl2) : Nt K t sl sl2 := fun G H σ e f D q =>
  h G H σ e f .nil D fun σ1 sl1 G1 H1 h1 n1 _ f1 => q σ1 G1 H1 n1.nx (w sl1 h1 G1 σ1 f1)
theorem ir_asg {i : Nat} (h : Ep K te sl ps fun x => Ir K u (sl.set i (.d x)) ps R) : Ir K (tSeq (tAsg te (gName i)) u) sl ps R := fun G H σ e f m D q =>
  h G H σ e f m _ fun v x G1 H1 h1 n1 m1 r1 => h1 G1 H1 _ n1.k (frd_set (.d r1) i (FrD.mono n1.g f)) m1 D fun v x G2 H2 h2 n2 m2 r2 => q v x G2 H2 h2 (n1.trans n2) m2 r2
/-- the test is never true -/
theorem ip_chk {b : Bool} (h : EvT K tc sl b) (e : b = false) (h2 : Ip K u sl ps N) : Ip K (tSeq (tIfS tc t tNext) u) sl ps N := by
  subst e
  exact ip_cond h (fun z => by cases z) fun _ => h2
theorem ir_ret (h : Ep K te sl ps R) : Ir K (tRet te) sl ps R := fun G H σ e f m D q => h G H σ e f m _ q
theorem ir_cond {b : Bool} (h : EvT K tc sl b) (h1 : b = true → Ir K t sl ps R) (h2 : b = false → Ir K u sl ps R) : Ir K (tSeq (tIfS tc t tNext) u) sl ps R := fun G H σ e f m D q => h G H σ e f _ fun G1 H1 n1 => by
  cases b with
  | true =>
    show t { D with nx := u D } σ H1
    exact h1 rfl G1 H1 σ n1.k (FrD.mono n1.g f) (m.nx n1) _ fun v x G2 H2 h2 n2 m2 r2 => q v x G2 H2 h2 (n1.p.trans n2) m2 r2
  | false =>
    show u D σ H1
    exact h2 rfl G1 H1 σ n1.k (FrD.mono n1.g f) (m.nx n1) D fun v x G2 H2 h2 n2 m2 r2 => q v x G2 H2 h2 (n1.p.trans n2) m2 r2
/-- for .. in a list of data (written here) -/
theorem nt_forL {tl : TE} {g : TG} {ds : List Dt} (h : Ev K tl sl (.lst ds)) (hs : ∀ d ∈ ds, ∀ (G H : Hp) (σ : L2.St) v, Ex G H → FrD K G σ sl → Rp K G v d → ∀ D : Ends, (∀ σ2 G2 H2, Nx G H G2 H2 → FrD K G2 σ2 sl → D.nx σ2 H2) → g v σ H fun σ2 H2 => t D σ2 H2) :
    Nt K (tFor (iList K tl) g t) sl sl := fun G H σ k f D q => h G H σ k f _ fun v G1 H1 n1 r1 => by
  cases r1 with
  | lst hl rs =>
    rename_i a xs
    refine ⟨a, rfl, ⟨_, Evl.ex_l n1.k hl⟩, for_list (K := K) (a := a) (xs := xs) (fun i σ' H' => ∃ G', Nx G H G' H' ∧ Ex G1 G' ∧ FrD K G' σ' sl) ⟨G1, n1, Ex.refl _, FrD.mono n1.g f⟩ (fun i σ' H' _ ⟨G', n', e', _⟩ => Evl.ex_l n'.k (Evl.ex_l e' hl)) ?_ ?_⟩
    · rintro i x σ2 H2 hi ⟨G2, n2, e2, f2⟩
      obtain ⟨d, hd, rd⟩ : ∃ d, ds[i]? = some d ∧ Rp K G1 x d := by
        have hlen := rs.length
        have hi2 : i < xs.length := (List.getElem?_eq_some_iff.mp hi).1
        have hd : ds[i]? = some ds[i] := List.getElem?_eq_getElem (by omega)
        obtain ⟨v, hv, rv⟩ := rs.get hd
        rw [hi] at hv
        cases hv
        exact ⟨_, hd, rv⟩
      refine hs d (List.mem_of_getElem? hd) G2 H2 σ2 x n2.k f2 (rd.mono e2) _ fun σ3 G3 H3 n3 f3 => ⟨G3, n2.trans n3, e2.trans n3.g, f3⟩
    · rintro σ2 H2 ⟨G2, n2, e2, f2⟩
      exact q σ2 G2 H2 n2 f2
/-- for x in range(n), what the slots hold told by I -/
theorem ip_for {ta : TA} {j : Nat} {n : Int} (I : Nat → List Sl → Prop) (h : EvA K ta sl [.int n]) (hn : n ≤ 100000 ∧ -100000 ≤ n) (h0 : I 0 sl) (hs : ∀ (i : Nat) sl', (i : Int) < n → I i sl' → Ip K t (sl'.set j (.d (.int i))) ps (I (i + 1))) : Ip K (tFor (iRng1 ta) (gName j) t) sl ps (I n.toNat) := fun G H σ k f m D q => by
  refine h G H σ k f _ fun vs G1 H1 n1 r1 => ?_
  obtain ⟨v, rfl, r2⟩ := rps1 r1
  cases r2
  refine ⟨n, rfl, by omega, by omega, for_range (lo := 0) (n := n.toNat) (fun i σ' H' => ∃ G' sl', I i sl' ∧ NxP ps G H G' H' ∧ Pots ps G' H' ∧ FrD K G' σ' sl') ⟨G1, sl, h0, n1.p, m.nx n1, FrD.mono n1.g f⟩ ?_ ?_⟩
  · rintro i σ2 H2 hi ⟨G2, sl2, i2, n2, m2, f2⟩
    have e : (0 : Int) + (i : Int) = (i : Int) := Int.zero_add _
    rw [e]
    refine hs i sl2 (by omega) i2 G2 H2 _ n2.k (frd_set (.d (.int _)) j f2) m2 _ fun σ3 sl3 G3 H3 i3 n3 m3 f3 => ⟨G3, sl3, i3, n2.trans n3, m3, f3⟩
  · rintro σ2 H2 ⟨G2, sl2, i2, n2, m2, f2⟩
    exact q σ2 sl2 G2 H2 i2 n2 m2 f2
theorem ip_while (I : Nat → List Sl → Prop) (m0 : Nat) (h0 : I m0 sl) (hs : ∀ m sl', I m sl' → ∃ b, EvT K tc sl' b ∧ (b = true → Ip K t sl' ps fun sl2 => ∃ m', m' < m ∧ I m' sl2) ∧ (b = false → N sl')) : Ip K (tWhile tc t) sl ps N := fun G H σ k f m D q => by
  refine ⟨fun l σ' H' => ∃ G' sl', I l sl' ∧ NxP ps G H G' H' ∧ Pots ps G' H' ∧ FrD K G' σ' sl', ⟨m0, G, sl, h0, .refl k, m, f⟩, ?_⟩
  rintro l σ1 H1 ⟨G1, sl1, i1, n1, m1, f1⟩
  obtain ⟨b, hb, ht, hf⟩ := hs l sl1 i1
  refine hb G1 H1 σ1 n1.k f1 _ fun G2 H2 n2 => ?_
  cases b with
  | true =>
    refine ⟨fun σ' H' => ∃ G' sl' l', l' < l ∧ I l' sl' ∧ NxP ps G H G' H' ∧ Pots ps G' H' ∧ FrD K G' σ' sl', fun σ' H' ⟨G', sl', l', lt, i', n', m', f'⟩ => ⟨l', lt, G', sl', i', n', m', f'⟩, ?_⟩
    exact ht rfl G2 H2 σ1 n2.k (FrD.mono n2.g f1) (m1.nx n2) _ fun σ3 sl3 G3 H3 ⟨l', lt, i'⟩ n3 m3 f3 => ⟨G3, sl3, l', lt, i', (n1.trans n2.p).trans n3, m3, f3⟩
  | false =>
    exact q σ1 sl1 G2 H2 (hf rfl) (n1.trans n2.p) (m1.nx n2) (FrD.mono n2.g f1)
end
section
variable {P : Program} {w : World} {K : PySem.W.Frag} {mg : Str → Option Value} {base : Heap} {x : Str} {st : Stmt} {N ps : List Str} {k : Nat}
theorem Dd.newpot {C : List Dt → Prop} {t : TS} (D : Dd K mg x st ps) (S : FnScope N ps (defScope st)) (hl : ∀ ds, C ds → ds.length = ps.length)
    (h1 : ∀ (f : Addr) (cdv : Value) (A : Around) (outer : List Env) (s : Shared) (H : Hp) (E : XK), Room k (A.deeper (envOfC x (defScope st) s.heap.objs.size f cdv)) → PSs (cxOf CX0 P w K mg base N x (defScope st) f cdv A outer s H E).nox (defBody st) t)
    (h3 : ∀ ds, C ds → ∀ (G H : Hp) (σ : L2.St), Ex G H → FrD K G σ (ds.map Sl.d ++ List.replicate (N.length - ps.length) .no) → ∀ D : Ends, (∀ p n G2 H2, Nx G H G2 H2 → H p = none → G2 p = none → H2 p = some (.lst [.int n]) → D.rt (.ref p) H2) → t D σ H) : Has P w K mg base CX0 (k + 1) x ps (spNew K C) := by
  refine D.any S (fun vs H Q E h => ?_) h1 fun vs H Q E h => ?_
  · obtain ⟨ds, G, _, r, hC, _⟩ := h
    rw [r.length]
    exact hl ds hC
  · obtain ⟨ds, G, kG, r, hC, q⟩ := h
    exact h3 ds hC G H _ kG (start_ok r (hl ds hC)) _ q
/-- a def that draws from the pot that it is handed first -/
theorem Dd.draws {C : List Dt → Prop} {R : List Dt → Dt → Prop} {t : TS} (D : Dd K mg x st ps) (S : FnScope N ps (defScope st)) (hl : ∀ ds, C ds → ds.length + 1 = ps.length)
    (h1 : ∀ (f : Addr) (cdv : Value) (A : Around) (outer : List Env) (s : Shared) (H : Hp) (E : XK), Room k (A.deeper (envOfC x (defScope st) s.heap.objs.size f cdv)) → PSs (cxOf CX0 P w K mg base N x (defScope st) f cdv A outer s H E).nox (defBody st) t)
    (h2 : ∀ ds, C ds → ∀ p, Ir K t (Sl.raw (.ref p) :: (ds.map Sl.d ++ List.replicate (N.length - ps.length) .no)) [p] (R ds)) : Has P w K mg base CX0 (k + 1) x ps (spM K C R) := by
  refine D.any S (fun vs H Q E h => ?_) h1 fun vs H Q E h => ?_
  · obtain ⟨p, ws, ds, G, rfl, _, r, hC, _⟩ := h
    show ws.length + 1 = _
    rw [r.length]
    exact hl ds hC
  · obtain ⟨p, ws, ds, G, rfl, kG, r, hC, m, q⟩ := h
    have e : (V.ref p :: ws).length = ps.length := by
      show ws.length + 1 = _
      rw [r.length]
      exact hl ds hC
    have fr : FrD K G (L2.start N (.ref p :: ws)) (Sl.raw (.ref p) :: (ds.map Sl.d ++ List.replicate (N.length - ps.length) .no)) := by
      unfold L2.start
      rw [e]
      exact .cons (.raw _) (frd_start _ r)
    exact h2 ds hC p G H _ kG fr m _ q
end
end Z
namespace Z
open PySem PySem.Spec PyProof.Rows L2
/-! ### fractions: a rational number q as the data (top, bottom) -/
def fq (q : Rat) : Dt := .tup [.int q.num, .int (q.den : Int)]
/-- the sign-carrying divisor -/
def dvs (t b : Int) : Int := if b < 0 then -((Nat.gcd t.natAbs b.natAbs : Nat) : Int) else ((Nat.gcd t.natAbs b.natAbs : Nat) : Int)
theorem gcd_pos {t b : Int} (h : b ≠ 0) : 0 < Nat.gcd t.natAbs b.natAbs := Nat.gcd_pos_of_pos_right _ (Int.natAbs_pos.mpr h)
theorem dvs_ne {t b : Int} (h : b ≠ 0) : dvs t b ≠ 0 := by
  have := gcd_pos (t := t) h
  unfold dvs
  split <;> omega
theorem low_num {t b : Int} (h : b ≠ 0) : t.fdiv (dvs t b) = ((t : Rat) / (b : Rat)).num := by
  rw [← Rat.divInt_eq_div, Rat.num_divInt]
  have e : (Nat.gcd t.natAbs b.natAbs) = b.gcd t := by rw [Nat.gcd_comm]; rfl
  have dv : ((b.gcd t : Nat) : Int) ∣ t := Int.gcd_dvd_right _ _
  unfold dvs
  rw [e]
  split
  · rename_i hb
    rw [Int.fdiv_eq_ediv_of_dvd (Int.neg_dvd.mpr dv), Int.ediv_neg, Int.sign_eq_neg_one_of_neg hb, Int.neg_one_mul, Int.neg_ediv_of_dvd dv]
  · rw [Int.fdiv_eq_ediv_of_dvd dv, Int.sign_eq_one_of_pos (by omega), Int.one_mul]
theorem low_den {t b : Int} (h : b ≠ 0) : b.fdiv (dvs t b) = (((t : Rat) / (b : Rat)).den : Int) := by
  rw [← Rat.divInt_eq_div, Rat.den_divInt, if_neg h]
  have e : (Nat.gcd t.natAbs b.natAbs) = b.gcd t := by rw [Nat.gcd_comm]; rfl
  have dv : ((b.gcd t : Nat) : Int) ∣ b := Int.gcd_dvd_left _ _
  rw [Int.natCast_ediv]
  unfold dvs
  rw [e]
  split
  · rename_i hb
    rw [Int.fdiv_eq_ediv_of_dvd (Int.neg_dvd.mpr dv), Int.ediv_neg, show ((b.natAbs : Nat) : Int) = -b by omega, Int.neg_ediv_of_dvd dv]
  · rw [Int.fdiv_eq_ediv_of_dvd dv, show ((b.natAbs : Nat) : Int) = b by omega]
theorem low_fq {t b : Int} (h : b ≠ 0) : (Dt.tup [.int (t.fdiv (dvs t b)), .int (b.fdiv (dvs t b))]) = fq ((t : Rat) / (b : Rat)) := by
  rw [low_num h, low_den h]
  rfl
theorem den_pos (q : Rat) : (0 : Int) < (q.den : Int) := by
  have := q.den_pos
  omega
theorem den_ne (q : Rat) : (q.den : Int) ≠ 0 := by
  have := q.den_pos
  omega
theorem fq_self (q : Rat) : ((q.num : Rat) / ((q.den : Int) : Rat)) = q := by
  rw [← Rat.divInt_eq_div, Rat.num_divInt_den]
theorem q_add (x y : Rat) : (((x.num * (y.den : Int) + y.num * (x.den : Int) : Int) : Rat) / (((x.den : Int) * (y.den : Int) : Int) : Rat)) = x + y := by
  rw [← Rat.divInt_eq_div, ← Int.natCast_mul, Rat.divInt_ofNat, Rat.add_def']
theorem q_sub (x y : Rat) : (((x.num * (y.den : Int) - y.num * (x.den : Int) : Int) : Rat) / (((x.den : Int) * (y.den : Int) : Int) : Rat)) = x - y := by
  rw [← Rat.divInt_eq_div, ← Int.natCast_mul, Rat.divInt_ofNat, Rat.sub_def']
theorem q_mul (x y : Rat) : (((x.num * y.num : Int) : Rat) / (((x.den : Int) * (y.den : Int) : Int) : Rat)) = x * y := by
  rw [← Rat.divInt_eq_div, ← Int.natCast_mul, Rat.divInt_ofNat, Rat.mul_def']
theorem q_div (x y : Rat) : (((x.num * (y.den : Int) : Int) : Rat) / (((x.den : Int) * y.num : Int) : Rat)) = x / y := by
  rw [← Rat.divInt_eq_div, Rat.div_def, Rat.inv_def, ← Rat.divInt_mul_divInt, Rat.num_divInt_den]
theorem num_ne {q : Rat} : q.num ≠ 0 ↔ q ≠ 0 := not_congr Rat.num_eq_zero
/-! sizes -/
def Bt (n : Nat) (i : Int) : Prop := i.natAbs < 2 ^ n
def Bq (n : Nat) (q : Rat) : Prop := Bt n q.num ∧ Bt n (q.den : Int)
theorem Bt.mono {n m : Nat} {i : Int} (h : Bt n i) (le : n ≤ m) : Bt m i := Nat.lt_of_lt_of_le h (Nat.pow_le_pow_right (by decide) le)
theorem bt_mul {n m : Nat} {i j : Int} (h1 : Bt n i) (h2 : Bt m j) : Bt (n + m) (i * j) := by
  unfold Bt
  rw [Int.natAbs_mul, Nat.pow_add]
  exact Nat.mul_lt_mul'' h1 h2
theorem bt_add {n m k : Nat} {i j : Int} (h1 : Bt n i) (h2 : Bt m j) (hn : n + 1 ≤ k) (hm : m + 1 ≤ k) : Bt k (i + j) := by
  have a := h1.mono (show n ≤ k - 1 by omega)
  have b := h2.mono (show m ≤ k - 1 by omega)
  unfold Bt at *
  obtain ⟨l, rfl⟩ : ∃ l, k = l + 1 := ⟨k - 1, by omega⟩
  rw [Nat.add_sub_cancel] at a b
  rw [Nat.pow_succ]
  omega
theorem bt_neg {n : Nat} {i : Int} (h : Bt n i) : Bt n (-i) := by
  unfold Bt at *
  rw [Int.natAbs_neg]
  exact h
theorem bt_sub {n m k : Nat} {i j : Int} (h1 : Bt n i) (h2 : Bt m j) (hn : n + 1 ≤ k) (hm : m + 1 ≤ k) : Bt k (i - j) := by
  rw [Int.sub_eq_add_neg]
  exact bt_add h1 (bt_neg h2) hn hm
theorem log2_of {n : Nat} {i : Int} (h : Bt n i) (h0 : 0 < n) : i.natAbs.log2 < n := PySem.Flt.log2_lt_of h0 h
theorem mulok {n m : Nat} {i j : Int} (h1 : Bt n i) (h2 : Bt m j) (h : n + m + 2 ≤ 1000000) : IntMulOk i j := by
  have a := log2_of (h1.mono (Nat.le_succ n)) (Nat.succ_pos n)
  have b := log2_of (h2.mono (Nat.le_succ m)) (Nat.succ_pos m)
  exact CMulW.ok (show i.natAbs.log2 + j.natAbs.log2 < 1000000 by omega)
theorem divok {n : Nat} {i j : Int} (h0 : j ≠ 0) (h : Bt n j) (hn : n ≤ 9000) : CDivA i j := ⟨h0, by
  have a := log2_of (h.mono (Nat.le_succ n)) (Nat.succ_pos n)
  have b : j.natAbs.log2 < 9000 := by
    by_cases z : n = 0
    · subst z
      have : j.natAbs < 1 := h
      omega
    · have := log2_of h (by omega)
      omega
  exact b⟩
theorem bt_dvs {n : Nat} {t b : Int} (h : b ≠ 0) (hb : Bt n b) : Bt n (dvs t b) := by
  have h1 : Nat.gcd t.natAbs b.natAbs ≤ b.natAbs := Nat.gcd_le_right _ (Int.natAbs_pos.mpr h)
  unfold Bt at *
  unfold dvs
  split
  · rw [Int.natAbs_neg, Int.natAbs_natCast]
    omega
  · rw [Int.natAbs_natCast]
    omega
/-- the answer of a fraction in lowest terms is no longer than what it was made of -/
theorem bq_div {n : Nat} {t b : Int} (h : b ≠ 0) (ht : Bt n t) (hb : Bt n b) : Bq n ((t : Rat) / (b : Rat)) := by
  have hg := gcd_pos (t := t) h
  rw [← Rat.divInt_eq_div]
  constructor
  · unfold Bt at *
    rw [Rat.num_divInt]
    have e1 : (b.sign * t / ((b.gcd t : Nat) : Int)).natAbs ≤ (b.sign * t).natAbs := by
      rw [Int.natAbs_ediv_of_dvd (Int.dvd_mul_of_dvd_right (Int.gcd_dvd_right _ _))]
      exact Nat.div_le_self _ _
    rw [Int.natAbs_mul, Int.natAbs_sign_of_ne_zero h, Nat.one_mul] at e1
    omega
  · unfold Bt at *
    rw [Rat.den_divInt, if_neg h]
    have e1 : b.natAbs / b.gcd t ≤ b.natAbs := Nat.div_le_self _ _
    rw [Int.natAbs_natCast]
    omega
/-! == of such data -/
theorem py_fq (q : Rat) : py (fq q) = some (.tuple [.int q.num, .int (q.den : Int)]) := by
  simp only [fq, py, pys]
theorem sh_fq (a b : Int) : SeqAt.shaped (.tuple [.int a, .int b]) = true := by
  rfl
theorem eqv_fq (x y : Rat) : PyData.eqv (.tuple [.int x.num, .int (x.den : Int)]) (.tuple [.int y.num, .int (y.den : Int)]) = decide (x = y) := by
  simp only [PyData.eqv, PyData.eqvAll, Bool.and_true]
  by_cases h : x = y
  · subst h
    simp
  · rw [decide_eq_false h]
    by_cases h1 : x.num = y.num
    · have h2 : ¬ ((x.den : Int) = (y.den : Int)) := fun z => h (Rat.ext h1 (Int.ofNat.inj z))
      rw [beq_eq_false_iff_ne.mpr h2, Bool.and_false]
    · rw [beq_eq_false_iff_ne.mpr h1, Bool.false_and]
theorem r2_eqF {K : PySem.W.Frag} {x y : Rat} : R2D K (rEqD K) (fq x) (fq y) (.bl (decide (x = y))) := by
  have h := r2_eq (K := K) (py_fq x) (py_fq y) (sh_fq _ _) (sh_fq _ _)
  rwa [eqv_fq] at h
theorem ix0 {K : PySem.W.Frag} {a b : Dt} : R2D K (rIx K) (.tup [a, b]) (.int 0) a := r2_ixT rfl
theorem ix1 {K : PySem.W.Frag} {a b : Dt} : R2D K (rIx K) (.tup [a, b]) (.int 1) b := r2_ixT rfl
theorem fx0 {K : PySem.W.Frag} {q : Rat} : R2D K (rIx K) (fq q) (.int 0) (.int q.num) := r2_ixT rfl
theorem fx1 {K : PySem.W.Frag} {q : Rat} : R2D K (rIx K) (fq q) (.int 1) (.int (q.den : Int)) := r2_ixT rfl
/-! euclid -/
theorem fmod_nat (a b : Nat) : (a : Int).fmod (b : Int) = ((a % b : Nat) : Int) := by
  rw [Int.fmod_eq_emod_of_nonneg _ (Int.natCast_nonneg b)]
  rfl
def sq (n : Nat) : Nat := PySem.Float64.isqrt n
theorem mulL {i j : Int} (h : -(2 ^ 64) < i ∧ i < 2 ^ 64) : IntMulOk i j := CMul.ok (.inl h)
theorem mulR {i j : Int} (h : -(2 ^ 64) < j ∧ j < 2 ^ 64) : IntMulOk i j := CMul.ok (.inr h)
theorem fmod_bd {a b : Int} (h : 0 < b) : 0 ≤ a.fmod b ∧ a.fmod b < b := ⟨Int.fmod_nonneg_of_pos a h, Int.fmod_lt_of_pos a h⟩
/-- the root of a fraction, as data -/
def rootD (x : Rat) : Dt := if x.num < 0 then .non else if sq x.num.toNat * sq x.num.toNat = x.num.toNat ∧ sq x.den * sq x.den = x.den then .tup [.int (sq x.num.toNat : Int), .int (sq x.den : Int)] else .non
def R_low (ds : List Dt) (d : Dt) : Prop := ∃ t b : Int, ds = [.int t, .int b] ∧ b ≠ 0 ∧ Bt 9000 b ∧ d = fq ((t : Rat) / (b : Rat))
def R_sum (ds : List Dt) (d : Dt) : Prop := ∃ x y : Rat, ds = [fq x, fq y] ∧ Bq 4400 x ∧ Bq 4400 y ∧ d = fq (x + y)
def R_gap (ds : List Dt) (d : Dt) : Prop := ∃ x y : Rat, ds = [fq x, fq y] ∧ Bq 4400 x ∧ Bq 4400 y ∧ d = fq (x - y)
def R_prod (ds : List Dt) (d : Dt) : Prop := ∃ x y : Rat, ds = [fq x, fq y] ∧ Bq 4400 x ∧ Bq 4400 y ∧ d = fq (x * y)
def R_quot (ds : List Dt) (d : Dt) : Prop := ∃ x y : Rat, ds = [fq x, fq y] ∧ Bq 4400 x ∧ Bq 4400 y ∧ y ≠ 0 ∧ d = fq (x / y)
def R_less (ds : List Dt) (d : Dt) : Prop := ∃ x y : Rat, ds = [fq x, fq y] ∧ Bq 4400 x ∧ Bq 4400 y ∧ d = .bl (decide (x < y))
theorem r2_eqS {K : PySem.W.Frag} {a b : Str} (ha : SeqAt.shaped (.str a) = true) (hb : SeqAt.shaped (.str b) = true) : R2D K (rEqD K) (.str a) (.str b) (.bl (a == b)) := by
  have h := r2_eq (K := K) (x := .str a) (y := .str b) (p := .str a) (q := .str b) rfl rfl ha hb
  rwa [PyData.eqv] at h
theorem r2_neS {K : PySem.W.Frag} {a b : Str} (ha : SeqAt.shaped (.str a) = true) (hb : SeqAt.shaped (.str b) = true) : R2D K (rNeD K) (.str a) (.str b) (.bl (!(a == b))) := by
  have h := r2_ne (K := K) (x := .str a) (y := .str b) (p := .str a) (q := .str b) rfl rfl ha hb
  rwa [PyData.eqv] at h
theorem r2_eqB {K : PySem.W.Frag} {a b : Bool} : R2D K (rEqD K) (.bl a) (.bl b) (.bl (a == b)) := by
  have h := r2_eq (K := K) (x := .bl a) (y := .bl b) (p := .bool a) (q := .bool b) rfl rfl rfl rfl
  rwa [PyData.eqv] at h
theorem r2_neB {K : PySem.W.Frag} {a b : Bool} : R2D K (rNeD K) (.bl a) (.bl b) (.bl (!(a == b))) := by
  have h := r2_ne (K := K) (x := .bl a) (y := .bl b) (p := .bool a) (q := .bool b) rfl rfl rfl rfl
  rwa [PyData.eqv] at h
theorem bq_add {n m : Nat} {x y : Rat} (h1 : Bq n x) (h2 : Bq m y) : Bq (n + m + 1) (x + y) := by
  rw [← q_add]
  exact bq_div (Int.mul_ne_zero (den_ne x) (den_ne y)) (bt_add (bt_mul h1.1 h2.2) (bt_mul h2.1 h1.2) (by omega) (by omega)) ((bt_mul h1.2 h2.2).mono (by omega))
theorem bq_sub {n m : Nat} {x y : Rat} (h1 : Bq n x) (h2 : Bq m y) : Bq (n + m + 1) (x - y) := by
  rw [← q_sub]
  exact bq_div (Int.mul_ne_zero (den_ne x) (den_ne y)) (bt_sub (bt_mul h1.1 h2.2) (bt_mul h2.1 h1.2) (by omega) (by omega)) ((bt_mul h1.2 h2.2).mono (by omega))
theorem bq_mul {n m : Nat} {x y : Rat} (h1 : Bq n x) (h2 : Bq m y) : Bq (n + m) (x * y) := by
  rw [← q_mul]
  exact bq_div (Int.mul_ne_zero (den_ne x) (den_ne y)) (bt_mul h1.1 h2.1) (bt_mul h1.2 h2.2)
theorem bq_quo {n m : Nat} {x y : Rat} (h1 : Bq n x) (h2 : Bq m y) (y0 : y ≠ 0) : Bq (n + m) (x / y) := by
  rw [← q_div]
  exact bq_div (Int.mul_ne_zero (den_ne x) (num_ne.mpr y0)) (bt_mul h1.1 h2.2) (bt_mul h1.2 h2.1)
theorem Bq.mono {n m : Nat} {q : Rat} (h : Bq n q) (le : n ≤ m) : Bq m q := ⟨h.1.mono le, h.2.mono le⟩
theorem bq_one : Bq 1 1 := ⟨by show Int.natAbs 1 < 2 ^ 1; decide, by show Int.natAbs 1 < 2 ^ 1; decide⟩
theorem bq_zero : Bq 1 0 := ⟨by show Int.natAbs 0 < 2 ^ 1; decide, by show Int.natAbs 1 < 2 ^ 1; decide⟩
theorem bq_neg {n : Nat} {q : Rat} (h : Bq n q) : Bq n (-q) := ⟨by rw [Rat.neg_num]; exact bt_neg h.1, h.2⟩
theorem low_ok {t b : Int} (h : b ≠ 0) (hb : Bt 9000 b) : R_low [.int t, .int b] (fq ((t : Rat) / (b : Rat))) := ⟨t, b, rfl, h, hb, rfl⟩
theorem sum_ok {x y : Rat} (h1 : Bq 4400 x) (h2 : Bq 4400 y) : R_sum [fq x, fq y] (fq (x + y)) := ⟨x, y, rfl, h1, h2, rfl⟩
theorem gap_ok {x y : Rat} (h1 : Bq 4400 x) (h2 : Bq 4400 y) : R_gap [fq x, fq y] (fq (x - y)) := ⟨x, y, rfl, h1, h2, rfl⟩
theorem prod_ok {x y : Rat} (h1 : Bq 4400 x) (h2 : Bq 4400 y) : R_prod [fq x, fq y] (fq (x * y)) := ⟨x, y, rfl, h1, h2, rfl⟩
theorem less_ok {x y : Rat} (h1 : Bq 4400 x) (h2 : Bq 4400 y) : R_less [fq x, fq y] (.bl (decide (x < y))) := ⟨x, y, rfl, h1, h2, rfl⟩
theorem quot_ok {x y : Rat} (h1 : Bq 4400 x) (h2 : Bq 4400 y) (h : y ≠ 0) : R_quot [fq x, fq y] (fq (x / y)) := ⟨x, y, rfl, h1, h2, h, rfl⟩
end Z
namespace Z
open PySem PySem.Spec PyProof.Rows L2
open Evl (Ex)
/-! ### list + list of any lists that can be read; count and index of truths -/
def rCatS (K : PySem.W.Frag) : R2 := fun x y H Q => ∃ l b xs zs, x = .ref l ∧ y = .ref b ∧ SqL K H l xs ∧ SqL K H b zs ∧ xs.length + zs.length ≤ sizeLine ∧ ∀ p, H p = none → Q (.ref p) (upd H p (.lst (xs ++ zs)))
theorem catK {X : Cx} {K : PySem.W.Frag} (eK : X.K = K) : OpR X (binaryOp .Add) (rCatS K) := by
  subst eK
  intro pins s σ H x y v u Q I rx ry h
  obtain ⟨l, b, xs, zs, rfl, rfl, h1, h2, hz, q⟩ := h
  cases rx
  cases ry
  obtain ⟨i1, r1, ⟨⟨c1, d1, a1, s1⟩, n1, g1, e1, _, k1⟩, _⟩ := I.list h1
  obtain ⟨i2, r2, ⟨⟨c2, d2, a2, s2⟩, n2, g2, e2, _, k2⟩, _⟩ := I.list h2
  dsimp only at e1 k1 e2 k2
  subst e1 k1 e2 k2
  have l1 := r1.length
  have l2 := r2.length
  have ea : i1.toArray ++ i2.toArray = (i1 ++ i2).toArray := by simp
  refine concat_meets ⟨_, g1, rfl⟩ ⟨_, g2, rfl⟩ noFill_list_add seq_list_add PySem.F.slot_list_add PySem.F.entry_list_add (PySem.F.args_list_add_2 _ _)
    (list_addW l b i1.toArray i2.toArray n1 n2 d1 d2 s1 s2 (by rw [List.size_toArray, List.size_toArray]; omega)) ⟨g1, g2, ?_⟩
  rw [ea]
  exact ⟨.ref _, _, I.lnew (t' := s.toks) (r1.append r2) (by rw [List.length_append]; omega), rfl, q _ I.fresh⟩
def rCntD (K : PySem.W.Frag) : V → List V → Hp → VK → Prop := fun x xs H Q => ∃ (p : Addr) (bs : List Bool) (b : Bool), x = .ref p ∧ xs = [.bl b] ∧ SqL K H p (bs.map V.bl) ∧ Q (.int (bs.count b : Nat)) H
theorem bools_dp {K : PySem.W.Frag} {H : Hp} : ∀ bs : List Bool, DpAll K H (bs.map V.bl) (bs.map PyData.bool)
  | [] => .nil
  | b :: r => .cons (.bl b) (bools_dp r)
theorem bools_plain : ∀ bs : List Bool, PyData.plainAll (bs.map PyData.bool) = true
  | [] => rfl
  | b :: r => by
    show (PyData.plain (.bool b) && PyData.plainAll (r.map PyData.bool)) = true
    rw [bools_plain r]
    rfl
theorem bools_count (b : Bool) : ∀ bs : List Bool, (bs.map PyData.bool).countP (fun y => PyData.eqv y (.bool b)) = bs.count b
  | [] => rfl
  | c :: r => by
    rw [List.map_cons, List.countP_cons, List.count_cons, bools_count b r]
    rfl
theorem cntK {X : Cx} {K : PySem.W.Frag} (eK : X.K = K) (hu : X.A.units + 64 < cLine) : MtR X "list.count" (rCntD K) := by
  subst eK
  intro pins s σ H x xs v us Q I rx rxs h
  obtain ⟨p, bs, b, rfl, rfl, hs, q⟩ := h
  cases rx
  cases rxs with
  | cons ry rt =>
    cases rt
    obtain ⟨its, rv, ⟨o, n, ho, hc, hdn, hd⟩, hlen⟩ := I.list hs
    obtain ⟨a1, rd⟩ := Dp.readsAll I _ _ its (bools_dp bs) rv
    obtain ⟨a2, rb⟩ := Dp.reads I (.bool b) _ _ (Dp.bl b) ry
    refine SeqAt.count_list_data (l := p) (vs := its.toArray) ⟨o, ho, hc, n, hd⟩ (show ReadsAll s.heap its.toArray.toList _ _ by simpa using rd) rb (bools_plain bs) rfl ?_ ?_
    · have e : (PyData.bool b).depth ≤ 1 := Nat.le_of_ble_eq_true rfl
      have e2 : min (PyData.depthAll (bs.map PyData.bool)) (PyData.bool b).depth ≤ (PyData.bool b).depth := Nat.min_le_right _ _
      omega
    · rw [bools_count]
      exact ⟨.int _, H, I.tok _, ⟨_, rfl⟩, q⟩
theorem idxK {X : Cx} {K : PySem.W.Frag} (eK : X.K = K) : MtR X "list.index" (rIndex K) := eK ▸ mt_index
section
variable {K : PySem.W.Frag} {sl : List Sl} {ta tb te tc : TE} {x y z : Dt}
theorem r2_cat {xs ys : List Dt} (h : xs.length + ys.length ≤ 100000) : R2D K (rCatS K) (.lst xs) (.lst ys) (.lst (xs ++ ys)) := fun G H k v w r1 r2 Q q => by
  cases r1 with
  | lst h1 s1 =>
    cases r2 with
    | lst h2 s2 =>
      refine ⟨_, _, _, _, rfl, rfl, Evl.ex_l k h1, Evl.ex_l k h2, by rw [s1.length, s2.length]; exact sz_ok h, fun p hp => ?_⟩
      exact q _ _ _ (.new k hp) (.lst (.inl (.inl upd_same)) ((s1.append s2).mono (Ex.new (free_of k hp))))
theorem rps_bools {H : Hp} {vs : List V} : ∀ {bs : List Bool}, Rps K H vs (bs.map Dt.bl) → vs = bs.map V.bl
  | [], h => by cases h; rfl
  | b :: r, h => by
    cases h with
    | cons h1 h2 =>
      cases h1
      rw [rps_bools h2]
      rfl
theorem ev_count {bs : List Bool} {b : Bool} (h : Ev K te sl (.lst (bs.map Dt.bl))) : Ev K (tBM K "list" (rCntD K) te (tCons (tC (.bl b)) tNil)) sl (.int (bs.count b : Nat)) := fun G H σ k f Q q =>
  h G H σ k f _ fun v G1 H1 n1 r1 => by
    cases r1 with
    | lst hs rs =>
      have e := rps_bools rs
      subst e
      exact ⟨.inl ⟨rfl, _, Evl.ex_l n1.k hs⟩, _, bs, b, rfl, rfl, Evl.ex_l n1.k hs, q _ G1 H1 n1 (.int _)⟩
theorem ev_index {bs : List Bool} {j : Nat} (h : Ev K te sl (.lst (bs.map Dt.bl))) (hj : bs[j]? = some true) (hno : ∀ m, m < j → bs[m]? = some false) : Ev K (tBM K "list" (rIndex K) te (tCons (tC (.bl true)) tNil)) sl (.int j) := fun G H σ k f Q q =>
  h G H σ k f _ fun v G1 H1 n1 r1 => by
    cases r1 with
    | lst hs rs =>
      have e := rps_bools rs
      subst e
      refine ⟨.inl ⟨rfl, _, Evl.ex_l n1.k hs⟩, _, _, .bl true, j, .bl true, rfl, rfl, Evl.ex_l n1.k hs, rfl, ?_, by rw [List.getElem?_map, hj]; rfl, rfl, fun m z hm hz => ?_, q _ G1 H1 n1 (.int _)⟩
      · rw [List.all_map]
        exact List.all_eq_true.mpr fun _ _ => rfl
      · rw [List.getElem?_map, hno m hm] at hz
        cases hz
        rfl
end
/-! ### the exception that a suite holds, handed to a def -/
theorem isE {X : Cx} {K : PySem.W.Frag} {D a : Addr} {oe : Obj} (eK : X.K = K) (hp : (a, oe) ∈ X.pn) (C : ExcC K D) (hz : Zc (.ref D) none oe) (hf : ∃ vs, oe.data = .fields vs) : CallR X (.builtin "isinstance") (rIsE K D a) := by
  subst eK
  intro pins s σ H xs us Q I r h
  obtain ⟨c, cv, b, rfl, hcv, e, q⟩ := h
  cases r with
  | cons rx rr =>
    cases rr with
    | cons rt rr =>
      cases rr
      cases rx
      have ec := hcv _ rt
      subst ec
      have hget := (I.pin (a, oe) (List.mem_append.mpr (.inl hp))).1
      obtain ⟨vs, hv⟩ := hf
      have J : PySem.W.InstAt s.heap a oe D none := by
        obtain ⟨oc, od, oda, osl⟩ := oe
        obtain ⟨h1, h2⟩ := hz
        dsimp only at h1 h2 hv
        subst h1 h2 hv
        exact ⟨hget, rfl, rfl, trivial⟩
      exact PySem.W.kia_one (PySem.W.handS_kitx_exc C.hg C.hk C.hs C.hd C.ha C.hn C.ht C.hm) I.kIn J e (fun z => nomatch z) fun tk => ⟨.bl b, H, I.tok tk, rfl, q⟩
theorem ev_isE {K : PySem.W.Frag} {sl : List Sl} {i : Nat} {a D : Addr} {c : V} {cv : Value} {b : Bool} (hi : sl[i]? = some (.raw (.ref a))) (hc : ∀ u, RelV c u → u = cv) (e : PySem.W.kitOne K (.ref D) cv = some b) : Ev K (tCB (rIsE K D a) (tCons (tVar i) (tCons (tC c) tNil))) sl (.bl b) := fun G H σ k f Q q =>
  ⟨.ref a, frd_raw f hi, c, cv, b, rfl, hc, e, q _ G H (.refl k) (.bl b)⟩
/-- called with the exception at p.1, an instance of D, a def hands back the text ans -/
structure FnE (P : Program) (w : World) (K : PySem.W.Frag) (mg : Str → Option Value) (base : Heap) (k : Nat) (f : Addr) (fd : FuncData) (ps : List Str) (D : Addr) (ans : Str) : Prop where
  run : ∀ (A : Around) (outer : List Env) (s : Shared) (H : Hp) (us : List Value) (p : Addr × Obj) (Q : VK), L2H.RoomH k A → Zc (.ref D) none p.2 → (∃ vs, p.2.data = .fields vs) → L2H.PinOk outer H s p → Env0 P w K mg base A outer s H → BindsTo s fd ⟨us, []⟩ (ps.zip us) → us = [.ref p.1] → (∀ H2, Ex H H2 → Q (.str ans) H2) →
    codeAny (model P w) A (.call (.ref f) ⟨us, []⟩) (CR CX0 outer P w H s Q E0) s
section
variable {P : Program} {w : World} {K : PySem.W.Frag} {mg : Str → Option Value} {base : Heap} {x y : Str} {st : Stmt} {N : List Str} {k : Nat}
theorem fnE_of {f D : Addr} {fd : FuncData} {ans : Str} {t : Addr → TS} (F : Fun K x x st f fd) (S : FnScope N [y] (defScope st))
    (h1 : ∀ (cdv : Value) (A : Around) (outer : List Env) (s : Shared) (H : Hp) (a : Addr) (oe : Obj), L2H.RoomH k (A.deeper (envOfC x (defScope st) s.heap.objs.size f cdv)) → Zc (.ref D) none oe → (∃ vs, oe.data = .fields vs) → PSs (L2H.cxH CX0 P w K mg base N x (defScope st) f cdv A outer s H E0 (a, oe)) (defBody st) (t a))
    (h2 : ∀ a, Rt K (t a) (Sl.raw (.ref a) :: List.replicate (N.length - 1) .no) (.str ans)) : FnE P w K mg base (k + 1) f fd [y] D ans := by
  obtain ⟨oc, od, kV, doc, pm, an, cdv, ct, osl, rfl, lk, hcd⟩ := F.ex
  refine ⟨fun A outer s H us p Q hr hz hf pin env0 hb hus hq => ?_⟩
  subst hus
  have inK : K.In s.heap := env0.mod.kin.keeps fun b o e => (env0.bs b o e).1
  have lim : s.heap.NoLimit := env0.mod.nolimit.keeps fun b o e => (env0.bs b o e).1
  have kinds : ∀ z ∈ ([y] : List Str).zip [Value.ref p.1], (defScope st).names.lookup z.1 = some .local ∨ ((defScope st).names.lookup z.1 = some .cell ∧ ((cellsFrom (s.heap.objs.size + 1) (defScope st).names []).lookup z.1).isSome = true) := fun ⟨n, v⟩ hy => by
    rcases S.par n (List.of_mem_zip hy).1 with a | a
    · exact .inl a
    · exact .inr ⟨a, PySem.W.cellsFrom_some _ _ _ (.inl a)⟩
  refine codeAny_call_function hr.depth (inK _ _ lk) rfl S.co S.gen rfl (PySem.W.codeRec_of inK hcd) (hb _ _ _ _ ?_)
  refine wpAny_newFunctionEnv_cells S.kind kinds fun en hen s2 xx => ?_
  subst hen
  refine ⟨lim.keeps xx.toInCall.keep, codeAny_func ?_⟩
  have r : Vals [V.ref p.1] [Value.ref p.1] := .cons rfl .nil
  have I : Inv (L2H.cxH CX0 P w K mg base N x (defScope st) f cdv A outer s H E0 p) [] (L2.start N [.ref p.1]) H s2 := L2H.inv_startH S pin env0 rfl r xx
  have ht := h1 cdv A outer s H p.1 p.2 (hr.deeper _) hz hf
  have read : t p.1 { nx := fun _ _ => False, rt := Q } (L2.start N [.ref p.1]) H := h2 p.1 H H _ (Ex.refl H) (by
    show FrD K H (some (V.ref p.1) :: ([] ++ List.replicate (N.length - 1) none)) _
    exact .cons (.raw _) (frd_start _ .nil)) _ fun v G2 H2 n2 r2 => by
      cases r2
      exact hq H2 n2.h
  refine wpAny_mono (ht.run [] s2 _ H _ I read) (fun fl s' hs => ?_) fun e s' hs => hs
  cases fl with
  | ret u =>
    obtain ⟨v, σ', H', J, rv, q⟩ := hs
    exact ⟨v, H', J.os, J.bare, J.base, J.hok, rv, q⟩
  | next =>
    obtain ⟨_, _, _, q⟩ := hs
    exact False.elim q
  | brk =>
    obtain ⟨_, _, _, q⟩ := hs
    exact False.elim q
  | cont =>
    obtain ⟨_, _, _, q⟩ := hs
    exact False.elim q
end
/-- such a def, by its name; Kd tells for which classes what it answers -/
structure HasE (P : Program) (w : World) (K : PySem.W.Frag) (mg : Str → Option Value) (base : Heap) (k : Nat) (x y : Str) (Kd : Addr → Str → Prop) : Prop where
  ex : ∃ (f : Addr) (fd : FuncData), (∀ D ans, Kd D ans → FnE P w K mg base k f fd [y] D ans) ∧ mg x = some (.ref f) ∧ PySem.W.keepIn K (.ref f) = true ∧ Binds K fd [y] []
/-- the call of such a def with the suite's exception -/
def tKind (Kd : Addr → Str → Prop) (i : Nat) (a : Addr) (cls : Value) (d : Option Addr) : TE := fun σ H Q => ∃ D ans, cls = .ref D ∧ d = none ∧ Kd D ans ∧ σ[i]? = some (some (.ref a)) ∧ ∀ H2, Ex H H2 → Q (.str ans) H2
theorem pe_kind {X : Cx} {Kd : Addr → Str → Prop} {k j i : Nat} {x y n : Str} {a : Addr} {oe : Obj} {cls : Value} {d : Option Addr} {q pos pn : Pos} (hF : HasE X.prog X.w X.K X.mg X.base k x y Kd) (hr : L2H.RoomH j X.A) (hkj : k ≤ j)
    (hp : (a, oe) ∈ X.pn) (hz : Zc cls d oe) (hf : ∃ vs, oe.data = .fields vs) (hN : X.N[i]? = some n) (hv : Vis X.env.scope n) (hg : Gl X x := by rfl)
    (hdb : (x == ("__debug__" : Str)) = false := by decide) (hd : (n == ("__debug__" : Str)) = false := by decide) (hcd : (n == ("__classdict__" : Str)) = false := by decide) (hs : starEach [Expr.Name n pn] X.env = [(false, eval (.Name n pn) X.env)] := by rfl) :
    PE X (.Call (.Name x q) [.Name n pn] [] pos) (tKind Kd i a cls d) := by
  obtain ⟨f, fd, hF, hm, hk, hb⟩ := hF.ex
  refine ⟨fun pins s σ H Q I h => ?_⟩
  obtain ⟨D, ans, rfl, rfl, hKd, hσ, hq⟩ := h
  refine wpAny_Call_Name_kw (ld_glob I hg hm ?_ hdb)
  have ha : PA X [Expr.Name n pn] (tCons (tVar i) tNil) := pa_cons (pe_var hN hv hd hcd) pa_nil hs
  refine PySem.W.callWith_K (h₀ := X.base) I.ok.mod.kin hk (thn (ha.run pos pins s σ H (fun vs H1 => vs = [.ref a] ∧ H1 = H) I ⟨.ref a, hσ, rfl, rfl⟩) fun us s1 ⟨vs, H1, I1, r, ev, eH⟩ => ⟨I1.kIn, ?_⟩) hs rfl
  subst ev eH
  have P1 := I1.pin (a, oe) (List.mem_append_left _ hp)
  have pin : L2H.PinOk X.stack H1 s1 (a, oe) := ⟨P1.1, P1.2.1, fun hmm => (List.mem_cons.mp (I1.stkSub a hmm)).elim P1.2.2.1 P1.2.2.2.1, P1.2.2.2.2⟩
  cases r with
  | cons ru rn =>
    cases rn
    cases ru
    have b := hb s1 [.ref a] I1.kIn rfl
    refine wpAny_call (codeAny_mono ((hF D ans hKd).run X.A X.stack s1 H1 _ (a, oe) Q ⟨by have := hr.dp; omega, by have := hr.un; omega⟩ hz hf pin I1.env0 b rfl hq) fun rr s' hh => ?_)
    cases rr with
    | error e => exact False.elim hh
    | ok fl =>
      cases fl with
      | ret u => exact I1.after hh
      | next => exact False.elim hh
      | brk => exact False.elim hh
      | cont => exact False.elim hh
theorem roomS {j : Nat} {A : Around} {v : Option Value} (hr : Room j A) : L2H.RoomH j (A.mark v) := ⟨hr.dp, hr.un⟩
theorem unH {j : Nat} {A : Around} (hr : L2H.RoomH j A) : A.units + 64 < cLine := by
  have := hr.un
  omega
theorem bmK {X : Cx} {K : PySem.W.Frag} {c : Expr} {to : TE} {t : TA} {T : String} {r : V → List V → Hp → VK → Prop} (eK : X.K = K) (h : PE X c (tBM X.K T r to t)) : PE X c (tBM K T r to t) := eK ▸ h
/-! ### one of several defs, picked out of a list, called -/
structure FnAt (P : Program) (w : World) (K : PySem.W.Frag) (mg : Str → Option Value) (base : Heap) (CX : CXT) (k : Nat) (f : Addr) (sp : Sp) : Prop where
  ex : ∃ (fd : FuncData) (ps : List Str), FnOk P w K mg base CX k f fd ps sp ∧ PySem.W.keepIn K (.ref f) = true ∧ Binds K fd ps []
/-- a def that lets nothing out may stand among such as do -/
theorem FnAt.calm {P : Program} {w : World} {K : PySem.W.Frag} {mg : Str → Option Value} {base : Heap} {k : Nat} {f : Addr} {sp : Sp} (h : FnAt P w K mg base CX0 k f sp) : FnAt P w K mg base (L2.CX P w) k f sp := by
  obtain ⟨fd, ps, F, kp, b⟩ := h.ex
  refine ⟨fd, ps, ⟨F.len, fun A outer s H args us vs Q E hr he hb hv hs => codeAny_mono (F.run A outer s H args us vs Q E hr he hb hv hs) fun r s' hh => ?_⟩, kp, b⟩
  cases r with
  | error e => exact False.elim hh
  | ok fl =>
    cases fl with
    | ret u => exact hh
    | next => exact False.elim hh
    | brk => exact False.elim hh
    | cont => exact False.elim hh
/-! ### an own class that may be raised -/
structure Cl (K : PySem.W.Frag) (mg : Str → Option Value) (x : Str) (C : Addr) : Prop where
  g : mg x = some (.ref C)
  k : PySem.W.keepIn K (.ref C) = true
  b : PySem.W.subIn K (.ref C) (.type "BaseException") = some true
  t : PySem.W.typeIn K (.ref C) = some (.type "type")
  x : PySem.W.excIn K C [.type "ValueError", .type "Exception", .type "BaseException", .type "object"] "ValueError.__new__" = true
section
variable {X : Cx} {CX : CXT} {k j : Nat} {x : Str} {ps : List Str} {sp : Sp} {E : L2.St → XK} {p pos : Pos} {e : Expr} {es : List Expr} {t : TA}
theorem pe_hS (c : Has X.prog X.w X.K X.mg X.base CX k x ps sp) (hr : Room j X.A) (hk : k ≤ j) (hx : ∀ σ, PassesAt CX X σ (E σ)) (ha : PA X (e :: es) t) (hg : Gl X x := by rfl)
    (hdb : (x == ("__debug__" : Str)) = false := by decide) (he : starEach (e :: es) X.env = (false, eval e X.env) :: starEach es X.env := by rfl) (hpl : (backTo pos (starEach es X.env)).any (·.1) = false := by rfl) :
    PE X (.Call (.Name x p) (e :: es) [] pos) (tCallS sp E t) := by
  obtain ⟨f, fd, F, hm, kp, b⟩ := c.ex
  exact pe_callS F (hr.mono hk) hg hm kp b hx ha hdb he hpl
end
/-- a def that may raise, told by its data: it hands back x (None also by its end), or raises cls -/
def Rx (K : PySem.W.Frag) (ts : XK → TS) (sl : List Sl) (x : Option Dt) (cls : Value) : Prop := ∀ (G H : Hp) (σ : L2.St), Ex G H → FrD K G σ sl → ∀ (D : Ends) (E : XK), (∀ d, x = some d → ∀ v G2 H2, Nx G H G2 H2 → Rp K G2 v d → D.rt v H2) → (x = some .non → ∀ σ2 G2 H2, Nx G H G2 H2 → D.nx σ2 H2) → (x = none → ∀ G2 H2, Nx G H G2 H2 → E cls none H2) → ts E D σ H
abbrev tRs (C : Addr) (E : XK) : TS := fun _ σ H => (fun (_ : L2.St) (H : Hp) (Q : XK) => Q (.ref C) none H) σ H fun cls d H' => (fun (cls : Value) (d : Option Addr) (_ : L2.St) (H : Hp) => E cls d H) cls d σ H'
section
variable {K : PySem.W.Frag} {sl sl1 : List Sl} {te : TE} {tc : TT} {ta : TA} {t : TS} {u : XK → TS} {x : Option Dt} {d : Dt} {c : Value} {C : Addr} {xs : List Dt} {R : List Dt → Dt → Prop} {XF : List Dt → Value → Prop} {b : Bool}
theorem rx_rt (h : Rt K t sl d) : Rx K (fun _ => t) sl (some d) c := fun G H σ k f D E q _ _ => h G H σ k f D (q d rfl)
theorem rx_nt (h : Nt K t sl sl1) (g : Rx K u sl1 x c) : Rx K (fun E => tSeq t (u E)) sl x c := fun G H σ k f D E q1 q2 q3 =>
  h G H σ k f _ fun σ1 G1 H1 n1 f1 => g G1 H1 σ1 n1.k f1 D E (fun d e v G2 H2 n2 r2 => q1 d e v G2 H2 (n1.trans n2) r2) (fun e σ2 G2 H2 n2 => q2 e σ2 G2 H2 (n1.trans n2)) fun e G2 H2 n2 => q3 e G2 H2 (n1.trans n2)
theorem rx_ok (h : EvA K ta sl xs) (hr : R xs d) (g : Rx K u sl x c) : Rx K (fun E => tSeq (tDrop (tCall (spX K R XF) [] E ta)) (u E)) sl x c := fun G H σ k f D E q1 q2 q3 =>
  h G H σ k f _ fun vs G1 H1 n1 r1 => ⟨xs, G1, n1.k, rps_nil r1, .inl ⟨d, hr, fun v G2 H2 n2 r2 => by
    have n12 := n1.trans n2
    exact g G2 H2 σ n2.k (FrD.mono n12.g f) D E (fun d e v G3 H3 n3 r3 => q1 d e v G3 H3 (n12.trans n3) r3) (fun e σ2 G3 H3 n3 => q2 e σ2 G3 H3 (n12.trans n3)) fun e G3 H3 n3 => q3 e G3 H3 (n12.trans n3)⟩⟩
theorem rx_out (h : EvA K ta sl xs) (hr : XF xs c) : Rx K (fun E => tSeq (tDrop (tCall (spX K R XF) [] E ta)) (u E)) sl none c := fun G H σ k f D E q1 q2 q3 =>
  h G H σ k f _ fun vs G1 H1 n1 r1 => ⟨xs, G1, n1.k, rps_nil r1, .inr ⟨c, hr, fun G2 H2 n2 => q3 rfl G2 H2 (n1.trans n2)⟩⟩
theorem rx_no1 {s : XK → TS} (h : EvT K tc sl b) (e : b = false) : Rx K (fun E => tIfS tc (s E) tNext) sl (some .non) c := fun G H σ k f D E q1 q2 q3 => by
  subst e
  exact h G H σ k f _ fun G1 H1 n1 => q2 rfl σ G1 H1 n1
theorem rx_raise1 (h : EvT K tc sl b) (e : b = true) : Rx K (fun E => tIfS tc (tRs C E) tNext) sl none (.ref C) := fun G H σ k f D E q1 q2 q3 => by
  subst e
  exact h G H σ k f _ fun G1 H1 n1 => q3 rfl G1 H1 n1
end
section
variable {P : Program} {w : World} {K : PySem.W.Frag} {mg : Str → Option Value} {base : Heap} {x : Str} {st : Stmt} {N ps : List Str} {k : Nat}
/-- a def that may raise: where R tells an answer it hands it back, else XF's class -/
theorem Dd.raises {R : List Dt → Dt → Prop} {XF : List Dt → Value → Prop} {t : XK → TS} (D : Dd K mg x st ps) (S : FnScope N ps (defScope st)) (hl : ∀ ds d, R ds d → ds.length = ps.length) (hl2 : ∀ ds c, XF ds c → ds.length = ps.length)
    (h1 : ∀ (f : Addr) (cdv : Value) (A : Around) (outer : List Env) (s : Shared) (H : Hp) (E : XK), Room k (A.deeper (envOfC x (defScope st) s.heap.objs.size f cdv)) → PSs (cxOf (L2.CX P w) P w K mg base N x (defScope st) f cdv A outer s H E) (defBody st) (t E))
    (h2 : ∀ ds d, R ds d → Rx K t (ds.map Sl.d ++ List.replicate (N.length - ps.length) .no) (some d) .none) (h3 : ∀ ds c, XF ds c → Rx K t (ds.map Sl.d ++ List.replicate (N.length - ps.length) .no) none c) : Has P w K mg base (L2.CX P w) (k + 1) x ps (spX K R XF) := by
  obtain ⟨f, fd, F, hm, b⟩ := D.ex
  refine ⟨f, fd, F.okX S (fun vs H Q E h => ?_) (fun cdv A outer s H vs Q E hr h => ⟨t E, h1 f cdv A outer s H E hr, ?_⟩), hm, F.kp, b⟩
  · obtain ⟨ds, G, _, r, h⟩ := h
    rw [r.length]
    rcases h with ⟨d, hR, _⟩ | ⟨c, hX, _⟩
    · exact hl ds d hR
    · exact hl2 ds c hX
  · obtain ⟨ds, G, kG, r, h⟩ := h
    rcases h with ⟨d, hR, q⟩ | ⟨c, hX, q⟩
    · exact h2 ds d hR G H _ kG (start_ok r (hl ds d hR)) _ E (fun d' e v G2 H2 n2 r2 => by cases e; exact q v G2 H2 n2 r2) (fun e σ2 G2 H2 n2 => by cases e; exact q .non G2 H2 n2 .non) (fun z => by cases z)
    · exact h3 ds c hX G H _ kG (start_ok r (hl2 ds c hX)) _ E (fun d' e => by cases e) (fun e => by cases e) fun _ => q
end
theorem kit_self {K : PySem.W.Frag} {t : Value} : PySem.W.kitOne K t t = some true := by
  unfold PySem.W.kitOne
  rw [if_pos (beq_self_eq_true t)]
theorem kitCls_of {K : PySem.W.Frag} {t : Value} {C : Addr} {b : Bool} (hc : PySem.W.isClsIn K C = true) (ht : PySem.W.typeIn K (.ref C) = some (.type "type")) (hs : PySem.W.subIn K t (.ref C) = some b) : PySem.W.kitCls K t (.ref C) = some b := by
  have e : ((PySem.W.clsIn K C).isSome && PySem.W.typeIn K (.ref C) == some (.type "type")) = true := by
    rw [show (PySem.W.clsIn K C).isSome = true from hc, ht] <;> rfl
  exact (if_pos e).trans hs
theorem kit_not {K : PySem.W.Frag} {D C : Addr} (hc : PySem.W.isClsIn K C = true) (ht : PySem.W.typeIn K (.ref C) = some (.type "type")) (hs : PySem.W.subIn K (.ref D) (.ref C) = some false) (sD : PySem.W.subIn K (.ref D) (.ref D) = some true) : PySem.W.kitOne K (.ref D) (.ref C) = some false := by
  unfold PySem.W.kitOne
  by_cases h : ((Value.ref D) == (Value.ref C)) = true
  · have e : D = C := Value.ref.inj (beq_iff_eq.mp h)
    rw [e] at hs sD
    rw [hs] at sD
    cases sD
  · rw [if_neg h]
    exact kitCls_of hc ht hs
theorem kit_val {K : PySem.W.Frag} {D : Addr} (hs : PySem.W.subIn K (.ref D) (.type "ValueError") = some true) : PySem.W.kitOne K (.ref D) (.type "ValueError") = some true := by
  unfold PySem.W.kitOne
  rw [if_neg (by intro h; cases beq_iff_eq.mp h)]
  have e : PySem.W.kitMeta "ValueError" = true := by decide +kernel
  unfold PySem.W.kitCls
  dsimp only
  rw [e]
  exact (if_pos rfl).trans hs
theorem exm_own {K : PySem.W.Frag} {t : Value} {C : Addr} (hb : PySem.W.subIn K (.ref C) (.type "BaseException") = some true) (hc : PySem.W.isClsIn K C = true) (ht : PySem.W.typeIn K (.ref C) = some (.type "type")) (hs : PySem.W.subIn K t (.ref C) = some true) : PySem.W.exmOne K t (.ref C) = some true := by
  unfold PySem.W.exmOne
  rw [hb]
  exact (if_pos (beq_self_eq_true _)).trans (kitCls_of hc ht hs)
theorem frd_len {K : PySem.W.Frag} {G : Hp} {σ : L2.St} {sl : List Sl} (f : FrD K G σ sl) : σ.length = sl.length := Paired.length f
theorem passC {X : Cx} {E : XK} (tk : Takes X (fun cls d _ H => E cls d H)) : Passes (L2.CX X.prog X.w) X E := passes_call tk fun _ _ _ _ h => h
end Z
namespace Z
open PySem PySem.Spec PyProof.Rows L2
open Evl (Ex)
/-! ### more displays and calls: {}, str(n), list(t), t + u, all([..]), a comprehension over a list of data -/
def tDct : TE := fun _ H Q => ∀ p, H p = none → Q (.ref p) (upd H p (.dK []))
theorem pe_dct {X : Cx} {pos : Pos} : PE X (.Dict [] [] pos) tDct := pe_dnewK
def rStrI : List V → Hp → VK → Prop := fun xs H Q => ∃ i : Int, xs = [.int i] ∧ i.natAbs.log2 < 1920 ∧ Q (.str (toString i)) H
theorem cr_str {X : Cx} : CallR X (.type "str") rStrI := call_str_int
def rListOf (K : PySem.W.Frag) : List V → Hp → VK → Prop := fun xs H Q => ∃ p ys, xs = [.ref p] ∧ (SqL K H p ys ∨ SqT K H p ys) ∧ ∀ l, H l = none → Q (.ref l) (upd H l (.lst ys))
theorem lofK {X : Cx} {K : PySem.W.Frag} (e : X.K = K) : CallR X (.type "list") (rListOf K) := e ▸ call_list_of
theorem allK {X : Cx} {K : PySem.W.Frag} (e : X.K = K) (hc : X.calm = true) : CallR X (.builtin "all") (rAll K) := e ▸ cr_all hc
section
variable {K : PySem.W.Frag} {sl : List Sl} {ta tb te tc tl : TE} {x y z : Dt}
theorem ev_dct : Ev K tDct sl .dct := fun G H σ k f Q q => fun p hp => q _ _ _ (.new k hp) (.dct upd_same)
theorem rc_str {i : Int} (h : i.natAbs.log2 < 1920) : RcD K rStrI [.int i] (.str (toString i)) := fun G H k vs r Q q => by
  obtain ⟨v, rfl, h1⟩ := rps1 r
  cases h1
  exact ⟨i, rfl, h, q _ G H (.refl k) (.str _)⟩
theorem rc_listL {ds : List Dt} : RcD K (rListOf K) [.lst ds] (.lst ds) := fun G H k vs r Q q => by
  obtain ⟨v, rfl, h1⟩ := rps1 r
  cases h1 with
  | lst hs rs => exact ⟨_, _, rfl, .inl (Evl.ex_l k hs), fun l hl => q _ _ _ (.new k hl) (.lst (.inl (.inl upd_same)) (rs.mono (Ex.new (free_of k hl))))⟩
theorem rc_all {bs : List Bool} : RcD K (rAll K) [.lst (bs.map Dt.bl)] (.bl (bs.all id)) := fun G H k vs r Q q => by
  obtain ⟨v, rfl, h1⟩ := rps1 r
  cases h1 with
  | lst hs rs =>
    have e := rps_bools rs
    subst e
    exact ⟨_, bs, rfl, Evl.ex_l k hs, q _ G H (.refl k) (.bl _)⟩
theorem frd_wipe {G : Hp} : ∀ {σ : L2.St} {sl : List Sl} (i : Nat), FrD K G σ sl → FrD K G (σ.set i none) (sl.set i .no)
  | _, _, _, .nil => .nil
  | _, _, 0, .cons _ t => .cons (.no _) t
  | _, _, i + 1, .cons r t => .cons r (frd_wipe i t)
theorem Rps.snoc {G : Hp} {vs : List V} {ds : List Dt} {v : V} {d : Dt} (h : Rps K G vs ds) (r : Rp K G v d) : Rps K G (vs ++ [v]) (ds ++ [d]) := h.append (.cons r .nil)
/-- [te for x in tl], x in slot i -/
theorem ev_lc {i : Nat} {ds : List Dt} (f : Dt → Dt) (h : Ev K tl sl (.lst ds)) (hn : ds.length ≤ 90000) (he : ∀ d ∈ ds, Ev K te ((sl.set i .no).set i (.d d)) (f d)) : Ev K (tLc (iList K tl) (gName i) tYes te [i]) sl (.lst (ds.map f)) := fun G H σ k fr Q q =>
  h G H σ k fr _ fun v G1 H1 n1 r1 => by
    cases r1 with
    | lst hs rs =>
      rename_i a xs
      have hlen := rs.length
      refine ⟨a, rfl, ⟨_, Evl.ex_l n1.k hs⟩, fun Dl hD => ?_⟩
      have gD : G1 Dl = none := free_of n1.k hD
      refine lc_list (K := K) (a := a) (xs := xs) (fun j H' => ∃ G' vs, Ex G1 G' ∧ Ex H1 H' ∧ Ex G' H' ∧ (∀ c, G1 c = none → H1 c ≠ none → G' c = none) ∧ G' Dl = none ∧ H' Dl = some (.lst vs) ∧ Rps K G' vs ((ds.map f).take j))
        ⟨G1, [], Ex.refl _, Ex.new hD, n1.k.trans (Ex.new hD), fun _ z _ => z, gD, upd_same, .nil⟩ (fun j H' _ ⟨G', vs, e1, e2, _⟩ => Evl.ex_l (n1.k.trans e2) hs) ?_ ?_
      · rintro j x H' hj ⟨G', vs, e1, e2, e3, e4, e5, e6, e7⟩
        have hj2 : j < xs.length := (List.getElem?_eq_some_iff.mp hj).1
        have hd : ds[j]? = some ds[j] := List.getElem?_eq_getElem (by omega)
        obtain ⟨x', hx', rx⟩ := rs.get hd
        rw [hj] at hx'
        cases hx'
        refine ⟨?_, ?_⟩
        · show ((wipe σ [i]).set i (some x)).set i none = σ.set i none
          show (((σ.set i none)).set i (some x)).set i none = σ.set i none
          rw [List.set_set, List.set_set]
        · have fr1 : FrD K G' ((σ.set i none).set i (some x)) ((sl.set i .no).set i (.d ds[j])) := frd_set (.d (rx.mono e1)) i (frd_wipe i (FrD.mono (n1.g.trans e1) fr))
          refine he ds[j] (List.getElem_mem _) G' H' _ e3 fr1 _ fun u G2 H2 n2 r2 => ?_
          have g2D : G2 Dl = none := n2.f Dl e5 (by rw [e6]; intro z; cases z)
          have hl := e7.length
          refine ⟨vs, n2.h Dl _ e6, Nat.lt_of_lt_of_le (m := 100000) (by rw [hl, List.length_take, List.length_map]; omega) (by decide), G2, vs ++ [u], e1.trans n2.g, Evl.Ex.mut (e2.trans n2.h) hD, Evl.Ex.mut n2.k g2D, fun c c1 c2 => n2.f c (e4 c c1 c2) (ne_none e2 c2), g2D, upd_same, ?_⟩
          have et : (ds.map f).take (j + 1) = (ds.map f).take j ++ [f ds[j]] := by
            rw [List.take_add_one, List.getElem?_map, hd]
            rfl
          rw [et]
          exact (e7.mono n2.g).snoc r2
      · rintro H' ⟨G', vs, e1, e2, e3, e4, e5, e6, e7⟩
        rw [hlen, show ds.length = (ds.map f).length from (List.length_map ..).symm, List.take_length] at e7
        refine q _ (upd G' Dl (.lst vs)) H' (n1.trans ⟨e1.trans (Ex.new e5), e2, fun b o hb => ?_, fun c c1 c2 => ?_⟩) (.lst (.inl (.inl upd_same)) (e7.mono (Ex.new e5)))
        · by_cases z : b = Dl
          · subst z
            rw [upd_same] at hb
            rw [e6]
            exact hb
          · rw [upd_ne z] at hb
            exact e3 b o hb
        · have z : c ≠ Dl := fun z => by
            rw [z] at c2
            exact c2 hD
          rw [upd_ne z]
          exact e4 c c1 c2
end
/-! ### what a fraction is, of anything -/
def isWh : Dt → Bool
  | .int _ => true
  | _ => false
def isFr : Dt → Bool
  | .tup [.int t, .int b] => decide (0 < b) && (((Nat.gcd t.natAbs b.natAbs : Nat) : Int) == 1)
  | _ => false
theorem isFr_len {ds : List Dt} (h : ds.length ≠ 2) : isFr (.tup ds) = false := by
  unfold isFr
  split
  · rename_i t b e
    injection e with e
    rw [e] at h
    exact absurd rfl h
  · rfl
theorem kb_tup (x : Dt) : ∃ b, kitB (tyN x) "tuple" = some b ∧ (b = true ↔ ∃ ds, x = .tup ds) := by
  cases x with
  | tup ds => exact ⟨true, (by simp only [tyN]; decide +kernel), by simp⟩
  | _ => exact ⟨false, (by simp only [tyN]; decide +kernel), by simp⟩
theorem kb_whole (x : Dt) : ∃ a b, kitB (tyN x) "int" = some a ∧ kitB (tyN x) "bool" = some b ∧ (a && !b) = isWh x := by
  cases x with
  | int i => exact ⟨true, false, (by simp only [tyN]; decide +kernel), (by simp only [tyN]; decide +kernel), rfl⟩
  | bl b => exact ⟨true, true, (by simp only [tyN]; decide +kernel), (by simp only [tyN]; decide +kernel), rfl⟩
  | _ => exact ⟨false, false, (by simp only [tyN]; decide +kernel), (by simp only [tyN]; decide +kernel), rfl⟩
theorem isWh_iff {x : Dt} : isWh x = true ↔ ∃ i, x = .int i := by
  cases x <;> simp [isWh]
theorem two_of {α : Type} {ds : List α} (h : ds.length = 2) : ∃ x y, ds = [x, y] := by
  match ds, h with
  | [x, y], _ => exact ⟨x, y, rfl⟩
/-- a pair of whole numbers with a bottom of a size that // serves -/
def Sz (x : Dt) : Prop := ∀ t b : Int, x = .tup [.int t, .int b] → Bt 9000 b
theorem sz_fq {q : Rat} (h : Bt 9000 (q.den : Int)) : Sz (fq q) := fun t b e => by
  injection e with e
  injection e with e1 e2
  injection e2 with e2 _
  injection e2 with e2
  rw [← e2]
  exact h
theorem isFr_pair {t b : Int} (h : 0 < b) : decide (((t : Rat) / (b : Rat)).num = t ∧ ((((t : Rat) / (b : Rat)).den : Nat) : Int) = b) = (((Nat.gcd t.natAbs b.natAbs : Nat) : Int) == 1) := by
  have h0 : b ≠ 0 := by omega
  rw [← low_num h0, ← low_den h0]
  have e : dvs t b = ((Nat.gcd t.natAbs b.natAbs : Nat) : Int) := if_neg (by omega)
  have gp := gcd_pos (t := t) h0
  rw [e]
  by_cases g1 : Nat.gcd t.natAbs b.natAbs = 1
  · rw [g1]
    simp
  · have hb : ¬ b.fdiv ((Nat.gcd t.natAbs b.natAbs : Nat) : Int) = b := by
      rw [Int.fdiv_eq_ediv_of_nonneg _ (by omega)]
      have : b / ((Nat.gcd t.natAbs b.natAbs : Nat) : Int) < b := Int.ediv_lt_self_of_pos_of_ne_one h (by omega) |> fun z => z
      omega
    rw [decide_eq_false (fun z => hb z.2)]
    exact (beq_eq_false_iff_ne.mpr (by omega)).symm
theorem eqv_pair (a b c d : Int) : PyData.eqv (.tuple [.int a, .int b]) (.tuple [.int c, .int d]) = decide (a = c ∧ b = d) := by
  simp only [PyData.eqv, PyData.eqvAll, Bool.and_true]
  rw [Bool.eq_iff_iff]
  simp
/-- for x in a list of data (written here), x in slot i -/
theorem nt_for1 {K : PySem.W.Frag} {sl : List Sl} {t : TS} {tl : TE} {i : Nat} {ds : List Dt} (h : Ev K tl sl (.lst ds)) (C : Dt → Prop) (hd : ∀ d ∈ ds, C d) (hw : ∀ d : Dt, C d → Paired Wk (sl.set i (.d d)) sl) (hs : ∀ d, C d → Nt K t (sl.set i (.d d)) (sl.set i (.d d))) :
    Nt K (tFor (iList K tl) (gName i) t) sl sl := nt_forL h fun d hm G H σ v k f r D q =>
  hs d (hd d hm) G H _ k (frd_set (.d r) i f) D fun σ2 G2 H2 n2 f2 => q σ2 G2 H2 n2 (frd_wk f2 (hw d (hd d hm)))
/-! ### is True, is not True -/
theorem r2_isB {K : PySem.W.Frag} {a b : Bool} : R2D K rIsB (.bl a) (.bl b) (.bl (decide (a = b))) := fun G H k v w r1 r2 Q q => by
  cases r1
  cases r2
  exact ⟨a, b, rfl, rfl, q _ G H (.refl k) (.bl _)⟩
theorem r2_notB {K : PySem.W.Frag} {a b : Bool} : R2D K rNotB (.bl a) (.bl b) (.bl (!decide (a = b))) := fun G H k v w r1 r2 Q q => by
  cases r1
  cases r2
  exact ⟨a, b, rfl, rfl, q _ G H (.refl k) (.bl _)⟩
/-! ### the loop over the cells -/
end Z
namespace Z
open PySem PySem.Spec PyProof.Rows L2
open Evl (Ex)
/-! ### speeds -/
theorem r2_neF {K : PySem.W.Frag} {x y : Rat} : R2D K (rNeD K) (fq x) (fq y) (.bl (!decide (x = y))) := by
  have h := r2_ne (K := K) (py_fq x) (py_fq y) (sh_fq _ _) (sh_fq _ _)
  rwa [eqv_fq] at h
def Sp (q : Rat) : Prop := -1 < q ∧ q < 1
theorem isFr_fq (q : Rat) : isFr (fq q) = true := by
  show (decide (0 < (q.den : Int)) && (((Nat.gcd q.num.natAbs (q.den : Int).natAbs : Nat) : Int) == 1)) = true
  have := q.reduced
  unfold Nat.Coprime at this
  rw [decide_eq_true (den_pos q), Int.natAbs_natCast, this]
  rfl
theorem isFr_iff {x : Dt} : isFr x = true ↔ ∃ q : Rat, x = fq q := by
  constructor
  · intro h
    match x, h with
    | .tup [.int t, .int b], h =>
      have h : (decide (0 < b) && (((Nat.gcd t.natAbs b.natAbs : Nat) : Int) == 1)) = true := h
      rw [Bool.and_eq_true, decide_eq_true_eq, beq_iff_eq] at h
      have hb : ((b.natAbs : Nat) : Int) = b := by omega
      refine ⟨⟨t, b.natAbs, by omega, by unfold Nat.Coprime; omega⟩, ?_⟩
      show _ = Dt.tup [.int t, .int (b.natAbs : Int)]
      rw [hb]
  · rintro ⟨q, rfl⟩
    exact isFr_fq q
@[irreducible] def jn (x y : Rat) : Rat := (x + y) / (1 + x * y)
theorem jn_def (x y : Rat) : jn x y = (x + y) / (1 + x * y) := by unfold jn; rfl
theorem jn_low (x y : Rat) (h : 1 + x * y ≠ 0) : ((x.num * (y.den : Int) + y.num * (x.den : Int) : Int) : Rat) / (((x.den : Int) * (y.den : Int) + x.num * y.num : Int) : Rat) = jn x y := by
  have e := fq_self x
  have e2 := fq_self y
  have d0 : ((x.den : Int) : Rat) ≠ 0 := by
    have := den_ne x
    exact_mod_cast this
  have d1 : ((y.den : Int) : Rat) ≠ 0 := by
    have := den_ne y
    exact_mod_cast this
  rw [Rat.intCast_add, Rat.intCast_add, Rat.intCast_mul, Rat.intCast_mul, Rat.intCast_mul, Rat.intCast_mul, jn_def]
  generalize (x.num : Rat) = n at *
  generalize ((x.den : Int) : Rat) = b at *
  generalize (y.num : Rat) = m at *
  generalize ((y.den : Int) : Rat) = c at *
  subst e
  subst e2
  grind
theorem jn_low_ne (x y : Rat) (h : 1 + x * y ≠ 0) : (x.den : Int) * (y.den : Int) + x.num * y.num ≠ 0 := fun z => by
  have e := fq_self x
  have e2 := fq_self y
  have d0 : ((x.den : Int) : Rat) ≠ 0 := by
    have := den_ne x
    exact_mod_cast this
  have d1 : ((y.den : Int) : Rat) ≠ 0 := by
    have := den_ne y
    exact_mod_cast this
  have z2 : (((x.den : Int) * (y.den : Int) + x.num * y.num : Int) : Rat) = 0 := by
    rw [z]
    rfl
  rw [Rat.intCast_add, Rat.intCast_mul, Rat.intCast_mul] at z2
  generalize (x.num : Rat) = n at *
  generalize ((x.den : Int) : Rat) = b at *
  generalize (y.num : Rat) = m at *
  generalize ((y.den : Int) : Rat) = c at *
  subst e
  subst e2
  grind
theorem bq_jn {n m : Nat} {x y : Rat} (h1 : Bq n x) (h2 : Bq m y) (h : 1 + x * y ≠ 0) : Bq (n + m + 1) (jn x y) := by
  rw [← jn_low x y h]
  exact bq_div (jn_low_ne x y h) (bt_add (bt_mul h1.1 h2.2) (bt_mul h2.1 h1.2) (by omega) (by omega)) (bt_add (bt_mul h1.2 h2.2) (bt_mul h1.1 h2.1) (by omega) (by omega))
/-- sizes for which two speeds may be put together -/
def Jb (x y : Rat) : Prop := ∃ n m, Bq n x ∧ Bq m y ∧ n + m + 2 ≤ 4400
def R_joined (ds : List Dt) (d : Dt) : Prop := ∃ x y : Rat, ds = [fq x, fq y] ∧ Jb x y ∧ 1 + x * y ≠ 0 ∧ d = fq (jn x y)
theorem joined_ok {x y : Rat} (h1 : Jb x y) (h : 1 + x * y ≠ 0) : R_joined [fq x, fq y] (fq (jn x y)) := ⟨x, y, rfl, h1, h, rfl⟩
/-! ### drawn out of a list -/
/-! ### plain speeds by a stretch s: (s s - 1) / (s s + 1) -/
abbrev pl (s : Rat) : Rat := (s * s - 1) / (s * s + 1)
/-! ### inside a try whose handler hands the exception to the def that names its kind -/
section
variable {K : PySem.W.Frag} {sl : List Sl} {ti : TE} {ta : TA} {fs : List Addr} {j : Nat} {f : Addr} {menu : List (Addr × L2.Sp)} {R : List Dt → Dt → Prop} {XF : List Dt → Value → Prop} {xs : List Dt} {d : Dt} {c : Value} {G H : Hp} {σ : L2.St} {E : L2.St → XK} {Q : VK}
theorem callS_ok (ha : EvA K ta sl xs) (hr : R xs d) (kx : Ex G H) (fr : FrD K G σ sl) (q : ∀ v G2 H2, Nx G H G2 H2 → Rp K G2 v d → Q v H2) : tCallS (spX K R XF) E ta σ H Q :=
  ha G H σ kx fr _ fun vs G2 H2 n2 r2 => ⟨xs, G2, n2.k, r2, .inl ⟨d, hr, fun v G3 H3 n3 r3 => q v G3 H3 (n2.trans n3) r3⟩⟩
theorem callS_out (ha : EvA K ta sl xs) (hx : XF xs c) (kx : Ex G H) (fr : FrD K G σ sl) (q : ∀ G2 H2, Nx G H G2 H2 → E σ c none H2) : tCallS (spX K R XF) E ta σ H Q :=
  ha G H σ kx fr _ fun vs G2 H2 n2 r2 => ⟨xs, G2, n2.k, r2, .inr ⟨c, hx, fun G3 H3 n3 => q G3 H3 (n2.trans n3)⟩⟩
theorem was_kind {M : Value} {i : Nat} {C : Addr} {Kd : Addr → Str → Prop} {ans : Str} {Wo : WX} {D : Ends} (he : PySem.W.exmOne K (.ref C) M = some true) (hk : Kd C ans) (hi : i < σ.length) (kx : Ex G H) (q : ∀ v G2 H2, Nx G H G2 H2 → Rp K G2 v (.str ans) → D.rt v H2) : wAs K M i (fun a cls d => tRet (tKind Kd i a cls d)) Wo D (.ref C) none σ H :=
  ⟨true, he, fun _ a ha => ⟨_, _, rfl, rfl, hk, List.getElem?_set_self hi, fun H3 e3 => q _ G H3 ⟨Ex.refl _, e3, kx.trans e3, fun _ z _ => z⟩ (.str _)⟩, fun z => by cases z⟩
end
/-! ### so often -/
/-! ### statements that go on or hand back -/
theorem kb_ss : kitB "str" "str" = some true := by decide +kernel
theorem kb_is : kitB "int" "str" = some false := by decide +kernel
/-! ### for .. in a list of data, pots drawn from inside -/
/-! ### a display, so many times -/
/-! ### beats and stretches -/
end Z
namespace Z
open PySem PySem.Spec PyProof.Rows L2 HT
open Evl (Ex)
/-! ### t[::-1] of a tuple -/
/-! ### int(a truth) -/
def rIntB : List V → Hp → VK → Prop := fun xs H Q => (∃ i, xs = [.int i] ∧ Q (.int i) H) ∨ ∃ k, xs = [.bl k] ∧ Q (.int (if k then 1 else 0)) H
theorem cr_int {X : Cx} : CallR X (.type "int") rIntB := call_int1
theorem rc_intB {K : PySem.W.Frag} {b : Bool} : RcD K rIntB [.bl b] (.int (if b then 1 else 0)) := fun G H k vs r Q q => by
  obtain ⟨v, rfl, h⟩ := rps1 r
  cases h
  exact .inr ⟨b, rfl, q _ G H (.refl k) (.int _)⟩
/-! ### speeds: in any turn, orders -/
/-! ### plain ones together -/
end Z
namespace Z
open PySem PySem.Spec PyProof.Rows L2 RZ
open Evl (Ex)
/-! ### [.. for a, b in zip(t, u)] -/
theorem wipe2 (σ : L2.St) {i j : Nat} (x y : V) : wipe ((((wipe σ [i, j]).set i (some x)).set j (some y))) [i, j] = wipe σ [i, j] := by
  show ((((((σ.set j none).set i none).set i (some x)).set j (some y)).set j none).set i none) = (σ.set j none).set i none
  apply List.ext_getElem?
  intro n
  simp only [List.getElem?_set, List.length_set]
  by_cases h1 : j = n <;> by_cases h2 : i = n <;> simp [h1, h2]
/-! ### a def that calls itself -/
theorem Dd.nil {P : Program} {w : World} {K : PySem.W.Frag} {mg : Str → Option Value} {base : Heap} {x : Str} {st : Stmt} {ps : List Str} {k : Nat} (D : Dd K mg x st ps) (S : True) {R : List Dt → Dt → Prop} (h : ∀ ds d, ¬ R ds d) : Has P w K mg base CX0 k x ps (spP K R) := by
  obtain ⟨f, fd, F, hm, b⟩ := D.ex
  have no : ∀ {vs H Q E}, spP K R vs H Q E → False := fun hs => by
    obtain ⟨ds, x, G, _, _, hR, _⟩ := hs
    exact h ds x hR
  exact ⟨f, fd, ⟨fun _ _ _ _ hs => (no hs).elim, fun A outer s H args us vs Q E hr he hb hv hs => (no hs).elim⟩, hm, F.kp, b⟩
/-! ### what a seat of speed v, beat b at (t0, p0) tells of (t, p), and back -/
def hapD (t p : Rat) : Dt := .tup [fq t, fq p]
/-- a plain speed with its beat -/
structure Pl (v b : Rat) : Prop where
  s : Sp v
  p : 0 < b
  e : b * b = 1 - v * v
theorem Pl.ne {v b : Rat} (h : Pl v b) : b ≠ 0 := by
  have := h.p
  grind
end Z
namespace Z
open PySem PySem.Spec PyProof.Rows L2 RZ
open Evl (Ex)
/-! ### names of the top for a number, a text, a tuple of two numbers -/
theorem pe_globX {X : Cx} {x : Str} {v : V} {pos : Pos} (hg : Gl X x) (h : ∃ u, X.mg x = some u ∧ RelV v u) (hd : (x == ("__debug__" : Str)) = false := by decide) : PE X (.Name x pos) (tC v) := by
  obtain ⟨u, hm, r⟩ := h
  exact pe_glob hg hm r hd
/-! ### a def that may raise, whose pieces all carry the wish E -/
/-- what raises c -/
def EvX (K : PySem.W.Frag) (te : XK → TE) (sl : List Sl) (c : Value) : Prop := ∀ (G H : Hp) (σ : L2.St), Ex G H → FrD K G σ sl → ∀ (E : XK) (Q : VK), (∀ G2 H2, Nx G H G2 H2 → E c none H2) → te E σ H Q
def EvXA (K : PySem.W.Frag) (te : XK → TA) (sl : List Sl) (c : Value) : Prop := ∀ (G H : Hp) (σ : L2.St), Ex G H → FrD K G σ sl → ∀ (E : XK) (Q : List V → Hp → Prop), (∀ G2 H2, Nx G H G2 H2 → E c none H2) → te E σ H Q
section
variable {K : PySem.W.Frag} {sl sl1 sl2 : List Sl} {c : Value} {t u : XK → TS} {x : Option Dt} {d : Dt} {b : Bool} {xs : List Dt}
theorem rx_all (h : ∀ E, Rt K (t E) sl d) : Rx K t sl (some d) c := fun G H σ k f D E q _ _ => h E G H σ k f D (q d rfl)
theorem rx_ntE {s : XK → TS} (h : ∀ E, Nt K (s E) sl sl1) (g : Rx K u sl1 x c) : Rx K (fun E => tSeq (s E) (u E)) sl x c := fun G H σ k f D E q1 q2 q3 =>
  h E G H σ k f _ fun σ1 G1 H1 n1 f1 => g G1 H1 σ1 n1.k f1 D E (fun d e v G2 H2 n2 r2 => q1 d e v G2 H2 (n1.trans n2) r2) (fun e σ2 G2 H2 n2 => q2 e σ2 G2 H2 (n1.trans n2)) fun e G2 H2 n2 => q3 e G2 H2 (n1.trans n2)
theorem rx_noE {tc : XK → TT} {s : XK → TS} (h : ∀ E, EvT K (tc E) sl b) (e : b = false) (g : Rx K u sl x c) : Rx K (fun E => tSeq (tIfS (tc E) (s E) tNext) (u E)) sl x c := fun G H σ k f D E q1 q2 q3 => by
  subst e
  exact h E G H σ k f _ fun G1 H1 n1 => g G1 H1 σ n1.k (FrD.mono n1.g f) D E (fun d e v G2 H2 n2 r2 => q1 d e v G2 H2 (n1.trans n2) r2) (fun e σ2 G2 H2 n2 => q2 e σ2 G2 H2 (n1.trans n2)) fun e G2 H2 n2 => q3 e G2 H2 (n1.trans n2)
theorem rx_raiseE {C : Addr} {tc : XK → TT} (h : ∀ E, EvT K (tc E) sl b) (e : b = true) : Rx K (fun E => tSeq (tIfS (tc E) (tRs C E) tNext) (u E)) sl none (.ref C) := fun G H σ k f D E q1 q2 q3 => by
  subst e
  exact h E G H σ k f _ fun G1 H1 n1 => q3 rfl G1 H1 n1
theorem evx_call {R : List Dt → Dt → Prop} {XF : List Dt → Value → Prop} {ta : XK → TA} (h : ∀ E, EvA K (ta E) sl xs) (hx : XF xs c) : EvX K (fun E => tCall (spX K R XF) [] E (ta E)) sl c := fun G H σ k f E Q q =>
  h E G H σ k f _ fun vs G1 H1 n1 r1 => ⟨xs, G1, n1.k, rps_nil r1, .inr ⟨c, hx, fun G2 H2 n2 => q G2 H2 (n1.trans n2)⟩⟩
theorem evxa_head {ta : XK → TE} {tr : XK → TA} (h : EvX K ta sl c) : EvXA K (fun E => tCons (ta E) (tr E)) sl c := fun G H σ k f E Q q => h G H σ k f E _ q
theorem evxa_tail {ta : XK → TE} {tr : XK → TA} {y : Dt} (h : ∀ E, Ev K (ta E) sl y) (g : EvXA K tr sl c) : EvXA K (fun E => tCons (ta E) (tr E)) sl c := fun G H σ k f E Q q =>
  h E G H σ k f _ fun v G1 H1 n1 _ => g G1 H1 σ n1.k (FrD.mono n1.g f) E _ fun G2 H2 n2 => q G2 H2 (n1.trans n2)
theorem evx_tup {ta : XK → TA} (h : EvXA K ta sl c) : EvX K (fun E => tTup (ta E)) sl c := fun G H σ k f E Q q => h G H σ k f E _ q
theorem rx_retX {te : XK → TE} (h : EvX K te sl c) : Rx K (fun E => tRet (te E)) sl none c := fun G H σ k f D E q1 q2 q3 => h G H σ k f E _ (q3 rfl)
theorem rx_asgX {te : XK → TE} {g : TG} (h : EvX K te sl c) : Rx K (fun E => tSeq (tAsg (te E) g) (u E)) sl none c := fun G H σ k f D E q1 q2 q3 => h G H σ k f E _ (q3 rfl)
end
/-! ### a plain speed between two -/
end Z
namespace Z
open PySem PySem.Spec PyProof.Rows L2 RZ
open Evl (Ex)
/-! ### the same data, compared -/
mutual
theorem eqv_self : ∀ {d : Dt} {p : PyData}, py d = some p → PyData.eqv p p = true
  | .non, _, e => by cases e; simp only [PyData.eqv]
  | .bl b, _, e => by cases e; simp [PyData.eqv]
  | .int i, _, e => by cases e; simp [PyData.eqv]
  | .str x, _, e => by cases e; simp [PyData.eqv]
  | .tup ds, _, e => by
    cases q : pys ds with
    | none => simp only [py, q] at e; cases e
    | some xs =>
      simp only [py, q] at e
      cases e
      have := eqvs_self q
      simpa only [PyData.eqv] using this
  | .lst ds, _, e => by
    cases q : pys ds with
    | none => simp only [py, q] at e; cases e
    | some xs =>
      simp only [py, q] at e
      cases e
      have := eqvs_self q
      simpa only [PyData.eqv] using this
  | .dct, _, e => by simp only [py] at e; cases e
theorem eqvs_self : ∀ {ds : List Dt} {xs : List PyData}, pys ds = some xs → PyData.eqvAll xs xs = true
  | [], _, e => by cases e; simp only [PyData.eqvAll]
  | d :: ds, _, e => by
    cases q : py d with
    | none => simp only [pys, q] at e; cases e
    | some x =>
      cases q2 : pys ds with
      | none => simp only [pys, q, q2] at e; cases e
      | some xs =>
        simp only [pys, q, q2] at e
        cases e
        simp only [PyData.eqvAll, Bool.and_eq_true]
        exact ⟨eqv_self q, eqvs_self q2⟩
end
theorem r2_eqSelf {K : PySem.W.Frag} {x y : Dt} {p : PyData} (e : x = y) (h : py x = some p) (s : SeqAt.shaped p = true) : R2D K (rEqD K) x y (.bl true) := by
  subst e
  have := r2_eq (K := K) h h s s
  rwa [eqv_self h] at this
theorem r2_neSelf {K : PySem.W.Frag} {x y : Dt} {p : PyData} (e : x = y) (h : py x = some p) (s : SeqAt.shaped p = true) : R2D K (rNeD K) x y (.bl false) := by
  subst e
  have := r2_ne (K := K) h h s s
  rwa [eqv_self h] at this
theorem py_hap (t p : Rat) : py (hapD t p) = some (.tuple [.tuple [.int t.num, .int (t.den : Int)], .tuple [.int p.num, .int (p.den : Int)]]) := by
  simp only [hapD, fq, py, pys]
theorem sh_hap (a b c d : Int) : SeqAt.shaped (.tuple [.tuple [.int a, .int b], .tuple [.int c, .int d]]) = true := by rfl
/-! ### what is a seat -/
/-! ### sizes of what is told -/
/-! ### clocks, places, meetings -/
theorem rps_take {K : PySem.W.Frag} {H : Hp} : ∀ {vs : List V} {ds : List Dt}, Rps K H vs ds → ∀ n, Rps K H (vs.take n) (ds.take n)
  | _, _, .nil, n => by
    rw [List.take_nil, List.take_nil]
    exact .nil
  | _, _, .cons h t, 0 => .nil
  | _, _, .cons h t, n + 1 => .cons h (rps_take t n)
/-! ### slices of a tuple -/
/-! ### seats of seats -/
end Z
namespace Z
open PySem PySem.Spec PyProof.Rows L2 RZ
open Evl (Ex)
/-! ### a, b, c = a tuple of three; a loop that draws, then the rest -/
section
variable {K : PySem.W.Frag} {sl sl1 sl2 : List Sl} {te : TE} {tc : TT} {x y z : Dt} {t u : TS} {ps : List Addr} {N : List Sl → Prop} {R : Dt → Prop}
theorem ir_ip (h : Ip K t sl ps N) (k : ∀ s, N s → Ir K u s ps R) : Ir K (tSeq t u) sl ps R := fun G H σ e f m D q =>
  h G H σ e f m _ fun σ1 s1 G1 H1 hn n1 m1 f1 => k s1 hn G1 H1 σ1 n1.k f1 m1 D fun v x G2 H2 hr n2 m2 r2 => q v x G2 H2 hr (n1.trans n2) m2 r2
end
/-! ### try: what is done, what is told of it -/
inductive Oc where
  | ret (d : Dt)
  | go
  | out (c : Value)
def Tb (K : PySem.W.Frag) (tb : WX → TS) (sl : List Sl) (o : Oc) : Prop := ∀ (G H : Hp) (σ : L2.St), Ex G H → FrD K G σ sl → ∀ (D : Ends) (W : WX), (∀ d, o = .ret d → ∀ v G2 H2, Nx G H G2 H2 → Rp K G2 v d → D.rt v H2) → (o = .go → ∀ G2 H2, Nx G H G2 H2 → D.nx σ H2) → (∀ c, o = .out c → ∀ G2 H2, Nx G H G2 H2 → W c none σ H2) → tb W D σ H
def TeX (K : PySem.W.Frag) (te : WX → TE) (sl : List Sl) (c : Value) : Prop := ∀ (G H : Hp) (σ : L2.St), Ex G H → FrD K G σ sl → ∀ (W : WX) (Q : VK), (∀ G2 H2, Nx G H G2 H2 → W c none σ H2) → te W σ H Q
section
variable {K : PySem.W.Frag} {sl : List Sl} {te : WX → TE} {tc : TT} {t u : WX → TS} {d : Dt} {c : Value} {o : Oc} {b : Bool} {xs : List Dt} {R : List Dt → Dt → Prop} {XF : List Dt → Value → Prop} {ta : TA} {ti : TE} {j : Nat} {fs : List Addr} {f : Addr} {menu : List (Addr × L2.Sp)}
theorem ev_callS {E : L2.St → XK} (h : EvA K ta sl xs) (hr : R xs d) : Ev K (tCallS (spX K R XF) E ta) sl d := fun G H σ k f Q q => callS_ok h hr k f q
theorem tx_callS (h : EvA K ta sl xs) (hx : XF xs c) : TeX K (fun W => tCallS (spX K R XF) (fun σ c d H => W c d σ H) ta) sl c := fun G H σ k f W Q q => callS_out h hx k f q
theorem tb_ret (h : ∀ W, Ev K (te W) sl d) : Tb K (fun W => tRet (te W)) sl (.ret d) := fun G H σ k f D W q _ _ => h W G H σ k f _ (q d rfl)
theorem tb_retX (h : TeX K te sl c) : Tb K (fun W => tRet (te W)) sl (.out c) := fun G H σ k f D W _ _ q => h G H σ k f W _ (q c rfl)
/-- if c: .. return; then the rest -/
theorem tb_cond (h : EvT K tc sl b) (h1 : b = true → Tb K t sl o ∧ o ≠ .go) (h2 : b = false → Tb K u sl o) : Tb K (fun W => tSeq (tIfS tc (t W) tNext) (u W)) sl o := fun G H σ k f D W q1 q2 q3 => h G H σ k f _ fun G1 H1 n1 => by
  cases b with
  | true =>
    obtain ⟨g1, g2⟩ := h1 rfl
    show t W { D with nx := u W D } σ H1
    exact g1 G1 H1 σ n1.k (FrD.mono n1.g f) _ W (fun d e v G2 H2 n2 r2 => q1 d e v G2 H2 (n1.trans n2) r2) (fun e => absurd e g2) fun c e G2 H2 n2 => q3 c e G2 H2 (n1.trans n2)
  | false =>
    show u W D σ H1
    exact h2 rfl G1 H1 σ n1.k (FrD.mono n1.g f) D W (fun d e v G2 H2 n2 r2 => q1 d e v G2 H2 (n1.trans n2) r2) (fun e G2 H2 n2 => q2 e G2 H2 (n1.trans n2)) fun c e G2 H2 n2 => q3 c e G2 H2 (n1.trans n2)
def OkO (K : PySem.W.Frag) (M : Value) (Kd : Addr → Str → Prop) (o : Oc) (go : Option Dt) (d : Dt) : Prop := match o with
  | .ret x => x = d
  | .go => go = some d
  | .out c => ∃ C ans, c = .ref C ∧ PySem.W.exmOne K (.ref C) M = some true ∧ Kd C ans ∧ d = .str ans
/-- the statement try, its body's reading apart -/
def tTry (K : PySem.W.Frag) (M : Value) (i : Nat) (ts : Addr → Value → Option Addr → TS) (Wo : WX) (tb : WX → TS) : TS := fun D σ H => tb (wAs K M i ts Wo D) D σ H
theorem tryT {X : Cx} {st : Stmt} {tb : WX → TS} {c : Value} {i : Nat} {ts : Addr → Value → Option Addr → TS} {Wout : WX} (eK : X.K = K) (h : PS X st (fun D σ H => tb (wAs X.K c i ts Wout D) D σ H)) : PS X st (tTry K c i ts Wout tb) := eK ▸ h
theorem rt_try {M : Value} {i : Nat} {Kd : Addr → Str → Prop} (h : Tb K t sl o) (hi : i < sl.length) (ok : OkO K M Kd o none d) : Rt K (tTry K M i (fun a cls dd => tRet (tKind Kd i a cls dd)) (fun _ _ _ _ => False) t) sl d := fun G H σ k f D q =>
  h G H σ k f D _ (fun x e v G2 H2 n2 r2 => by
    subst e
    cases ok
    exact q v G2 H2 n2 r2) (fun e => by
    subst e
    cases ok) fun c e G2 H2 n2 => by
    subst e
    obtain ⟨C, ans, rfl, h1, h2, rfl⟩ := ok
    exact was_kind h1 h2 (by rw [frd_len f]; exact hi) n2.k fun v G3 H3 n3 r3 => q v G3 H3 (n2.trans n3) r3
end
/-! ### rods and gates -/
/-! what the program and the suite say of rods -/
end Z
namespace Z
open PySem PySem.Spec PyProof.Rows L2 RZ
open Evl (Ex)
/-! ### the loop over the cells, other names ahead of it -/
theorem nt_wk {K : PySem.W.Frag} {t : TS} {sl sl0 sl2 : List Sl} (hw : Paired Wk sl sl0) (h : Nt K t sl0 sl2) : Nt K t sl sl2 := fun G H σ k f D q => h G H σ k (frd_wk f hw) D q
theorem nt_cellsX {K : PySem.W.Frag} {t : TS} {ns : List Int} {M : Int} {j : Nat} {sl sl0 : List Sl} (hns : ns.length ≤ 63) (hM : M ≤ 63) (hw : Paired Wk sl sl0) (h0 : sl0[0]? = some (.d (.lst (ns.map Dt.int)))) (hs : ∀ i : Nat, Ip K t (sl0.set j (.d (.int i))) [] fun s => Paired Wk s sl0) :
    Nt K (tFor (iRng1 (tCons (tCB rMax2 (tCons (tC (.int 1)) (tCons (tCB rMin2 (tCons (tCB (rLenS K) (tCons (tVar 0) tNil)) (tCons (tC (.int M)) tNil))) tNil))) tNil)) (gName j) t) sl sl0 := by
  refine nt_wk hw (nt_for (n := max 1 (min (ns.length : Int) M)) (fun _ => sl0) ?_ (by omega) rfl (fun i hi => nt_ip (hs i) ?_))
  · refine ea_cons (ev_is (ev_cb (ea_cons ev_int (ea_cons (ev_cb (ea_cons (ev_cb (ea_cons (ev_var h0) ea_nil) rc_lenL) (ea_cons ev_int ea_nil)) rc_min) ea_nil)) rc_max) ?_) ea_nil
    rw [List.length_map]
  · intro s hw2 G σ h
    exact frd_wk h hw2
/-! ### haps compared; what one hap is to another -/
def wordS (l g : Rat) : Str := if l = 0 ∧ g = 0 then "same" else if ¬ l < g.abs then "later" else if ¬ -l < g.abs then "earlier" else "beside"
end Z
namespace Z
open PySem PySem.Spec PyProof.Rows L2 RZ
open Evl (Ex)
/-! ### a list that is made here and grows, p; frozen when it is handed on -/
theorem nmem {c p : Addr} {ps : List Addr} (hc : c ∈ ps) (hp : p ∉ ps) : c ≠ p := fun z => hp (by rw [← z]; exact hc)
structure NxL (p : Addr) (ps : List Addr) (G H G2 H2 : Hp) : Prop where
  g : Ex G G2
  k : Ex G2 H2
  h : ∀ a o, a ∉ p :: ps → H a = some o → H2 a = some o
  t : ∀ a, H a ≠ none → H2 a ≠ none
  f : ∀ a, a ≠ p → G a = none → H a ≠ none → G2 a = none
theorem NxP.l {p : Addr} {ps : List Addr} {G H G2 H2 : Hp} (n : NxP ps G H G2 H2) : NxL p ps G H G2 H2 := ⟨n.g, n.k, fun a o ha e => n.h a o (fun z => ha (List.mem_cons_of_mem _ z)) e, n.t, fun a _ h1 h2 => n.f a h1 h2⟩
theorem NxL.trans {p : Addr} {ps : List Addr} {G H G2 H2 G3 H3 : Hp} (a : NxL p ps G H G2 H2) (b : NxL p ps G2 H2 G3 H3) : NxL p ps G H G3 H3 :=
  ⟨a.g.trans b.g, b.k, fun x o hx e => b.h x o hx (a.h x o hx e), fun x h => b.t x (a.t x h), fun x hx h1 h2 => b.f x hx (a.f x hx h1 h2) (a.t x h2)⟩
def Ls (K : PySem.W.Frag) (p : Addr) (ds : List Dt) (G H : Hp) : Prop := G p = none ∧ ∃ vs, H p = some (.lst vs) ∧ Rps K G vs ds
theorem Ls.nx {K : PySem.W.Frag} {p : Addr} {ds : List Dt} {G H G2 H2 : Hp} (m : Ls K p ds G H) (n : Nx G H G2 H2) : Ls K p ds G2 H2 := by
  obtain ⟨g, vs, h, r⟩ := m
  exact ⟨n.f p g (by rw [h]; intro z; cases z), vs, n.h p _ h, r.mono n.g⟩
def Il (K : PySem.W.Frag) (t : TS) (sl : List Sl) (ps : List Addr) (p : Addr) (ds : List Dt) (N : List Sl → List Dt → Prop) : Prop := p ∉ ps → ∀ (G H : Hp) (σ : L2.St), Ex G H → FrD K G σ sl → Pots ps G H → Ls K p ds G H → ∀ D : Ends, (∀ σ2 sl2 ds2 G2 H2, N sl2 ds2 → NxL p ps G H G2 H2 → Pots ps G2 H2 → Ls K p ds2 G2 H2 → FrD K G2 σ2 sl2 → D.nx σ2 H2) → t D σ H
def Rk (K : PySem.W.Frag) (t : TS) (sl : List Sl) (p : Addr) (ds : List Dt) (x : Dt) : Prop := ∀ (G H : Hp) (σ : L2.St), Ex G H → FrD K G σ sl → Ls K p ds G H → ∀ D : Ends, (∀ v G2 H2, NxL p [] G H G2 H2 → Rp K G2 v x → D.rt v H2) → t D σ H
section
variable {K : PySem.W.Frag} {sl sl1 : List Sl} {s t u : TS} {ps : List Addr} {p : Addr} {ds : List Dt} {d x : Dt} {N : List Sl → List Dt → Prop} {M : List Sl → Prop} {ta : TA} {i : Nat}
theorem il_nt (h : Nt K s sl sl1) (k : Il K u sl1 ps p ds N) : Il K (tSeq s u) sl ps p ds N := fun hp G H σ e f m l D q =>
  h G H σ e f _ fun σ1 G1 H1 n1 f1 => k hp G1 H1 σ1 n1.k f1 (m.nx n1) (l.nx n1) D fun σ2 sl2 ds2 G2 H2 h2 n2 => q σ2 sl2 ds2 G2 H2 h2 (n1.p.l.trans n2)
theorem il_app1 (hi : sl[i]? = some (.raw (.ref p))) (h : EvA K ta sl [d]) (hn : ds.length < 100000) (k : N sl (ds ++ [d])) : Il K (tDrop (tBM K "list" rAppend (tVar i) ta)) sl ps p ds N := fun hp G H σ e f m l D q => by
  obtain ⟨lg, vs, lh, lr⟩ := l
  refine ⟨.ref p, frd_raw f hi, .inl ⟨rfl, vs, .inl (.inl lh)⟩, ?_⟩
  refine h G H σ e f _ fun us G1 H1 n1 r1 => ?_
  obtain ⟨y, rfl, ry⟩ := rps1 r1
  have g1 := n1.f p lg (by rw [lh]; intro z; cases z)
  refine ⟨p, vs, y, rfl, rfl, n1.h p _ lh, ?_, ?_⟩
  · have := lr.length
    exact Nat.lt_of_lt_of_le (m := 100000) (by omega) (by decide)
  have ne : ∀ {b : Addr} {o : HO}, G1 b = some o → b ≠ p := fun e1 z => by
    rw [z, g1] at e1
    cases e1
  refine q σ sl (ds ++ [d]) G1 _ k ⟨n1.g, fun b o e1 => ?_, fun b o hb e1 => ?_, fun b hb => ?_, fun b _ h1 h2 => n1.f b h1 h2⟩ (fun c hc => ?_) ⟨g1, _, upd_same, (lr.mono n1.g).snoc ry⟩ (FrD.mono n1.g f)
  · rw [upd_ne (ne e1)]
    exact n1.k b o e1
  · rw [upd_ne (fun z => hb (by rw [z]; exact List.mem_cons_self))]
    exact n1.h b o e1
  · by_cases z : b = p
    · rw [z, upd_same]
      intro y
      cases y
    · rw [upd_ne z]
      exact ne_none n1.h hb
  · obtain ⟨a1, n, a2⟩ := (m.nx n1) c hc
    refine ⟨a1, n, ?_⟩
    rw [upd_ne (nmem hc hp)]
    exact a2
theorem fz {G H : Hp} (e : Ex G H) (l : Ls K p ds G H) (m : Pots ps G H) (hp : p ∉ ps) : ∃ G2, NxL p ps G H G2 H ∧ Rp K G2 (.ref p) (.lst ds) ∧ Pots ps G2 H := by
  obtain ⟨lg, vs, lh, lr⟩ := l
  refine ⟨upd G p (.lst vs), ⟨Ex.new lg, fun b o e1 => ?_, fun b o _ e1 => e1, fun b hb => hb, fun b hb h1 h2 => ?_⟩, .lst (.inl (.inl upd_same)) (lr.mono (Ex.new lg)), fun c hc => ?_⟩
  · by_cases z : b = p
    · subst z
      rw [upd_same] at e1
      rw [lh]
      exact e1
    · rw [upd_ne z] at e1
      exact e b o e1
  · rw [upd_ne hb]
    exact h1
  · obtain ⟨a1, n, a2⟩ := m c hc
    exact ⟨by rw [upd_ne (nmem hc hp)]; exact a1, n, a2⟩
theorem frd_fz {G G2 : Hp} {σ : L2.St} (f : FrD K G σ sl) (g : Ex G G2) (hi : sl[i]? = some (.raw (.ref p))) (r : Rp K G2 (.ref p) (.lst ds)) : FrD K G2 σ (sl.set i (.d (.lst ds))) := by
  have f2 := frd_set (.d r) i (FrD.mono g f)
  have e : σ.set i (some (.ref p)) = σ := by
    have h := frd_raw f hi
    apply List.ext_getElem?
    intro n
    rw [List.getElem?_set]
    by_cases z : i = n
    · subst z
      rw [if_pos rfl]
      split
      · exact h.symm
      · rename_i c
        rw [List.getElem?_eq_none (by omega)]
    · rw [if_neg z]
  rwa [e] at f2
theorem rk_fz (hi : sl[i]? = some (.raw (.ref p))) (k : Rt K u (sl.set i (.d (.lst ds))) x) : Rk K u sl p ds x := fun G H σ e f l D q => by
  obtain ⟨G2, n2, r2, m2⟩ := fz e l (Pots.nil) (fun z => by cases z)
  exact k G2 H σ n2.k (frd_fz f n2.g hi r2) D fun v G3 H3 n3 => q v G3 H3 (n2.trans n3.p.l)
theorem nxL_out {G H G2 H2 : Hp} {vs : List V} (hp : H p = none) (n : NxL p ps G (upd H p (.lst vs)) G2 H2) : NxP ps G H G2 H2 := by
  have ne : ∀ {a : Addr}, H a ≠ none → a ≠ p := fun h z => h (z ▸ hp)
  refine ⟨n.g, n.k, fun a o ha e => ?_, fun a ha => n.t a ?_, fun a h1 h2 => n.f a (ne h2) h1 ?_⟩
  · have na : a ≠ p := ne (by rw [e]; intro z; cases z)
    refine n.h a o (fun z => ?_) ?_
    · rcases List.mem_cons.mp z with z | z
      · exact na z
      · exact ha z
    · rw [upd_ne na]
      exact e
  · rw [upd_ne (ne ha)]
    exact ha
  · rw [upd_ne (ne h2)]
    exact h2
theorem ls_new {G H : Hp} (e : Ex G H) (hp : H p = none) : Ex G (upd H p (.lst [])) ∧ Ls K p [] G (upd H p (.lst [])) := ⟨e.trans (Ex.new hp), free_of e hp, [], upd_same, .nil⟩
theorem rt_mk (k : ∀ p, Rk K u (sl.set i (.raw (.ref p))) p [] x) : Rt K (tSeq (tAsg (tLst tNil) (gName i)) u) sl x := fun G H σ e f D q => by
  refine ⟨by decide, fun p hp => ?_⟩
  obtain ⟨e2, l⟩ := ls_new (K := K) e hp
  exact k p G _ _ e2 (frd_set (.raw _) i f) l D fun v G3 H3 n3 => q v G3 H3 (nxL_out hp n3).nx
end
/-! ### a < b < c, tested -/
end Z
namespace Z
open PySem PySem.Spec PyProof.Rows L2 RZ
/-- what a set holds once the first i were handed to it -/
structure Met (ks : List (Addr × NestedKey)) (i : Nat) (L : List (Addr × NestedKey)) : Prop where
  from' : ∀ p ∈ L, p ∈ ks.take i
  each : ∀ p ∈ ks.take i, p.2 ∈ L.map (·.2)
  le : L.length ≤ i
theorem take_snoc {α : Type} {l : List α} {i : Nat} {x : α} (h : l[i]? = some x) : l.take (i + 1) = l.take i ++ [x] := by
  rw [List.take_succ, h, Option.toList_some]
theorem Met.new {ks L M : List (Addr × NestedKey)} {i : Nat} {x : Addr × NestedKey} (g : Met ks i L) (h : ks[i]? = some x) (pm : M.Perm (x :: L)) : Met ks (i + 1) M where
  from' p hp := by
    rw [take_snoc h, List.mem_append, List.mem_singleton]
    rcases List.mem_cons.mp (pm.mem_iff.mp hp) with z | z
    · exact .inr z
    · exact .inl (g.from' p z)
  each p hp := by
    rw [(pm.map (·.2)).mem_iff, List.map_cons, List.mem_cons]
    rw [take_snoc h, List.mem_append, List.mem_singleton] at hp
    rcases hp with z | z
    · exact .inr (g.each p z)
    · rw [z]; exact .inl rfl
  le := by rw [pm.length_eq, List.length_cons]; exact Nat.succ_le_succ g.le
end Z
namespace Z
open PySem PySem.Spec PyProof.Rows L2 RZ
open Evl (Ex)
/-! ### comprehensions over enumerate(list), with a test -/
/-- a list of haps, as data -/
def hapsD (ts : List (Rat × Rat)) : Dt := .lst (ts.map fun p => hapD p.1 p.2)
end Z
namespace Z
open PySem PySem.Spec PyProof.Rows L2 RZ
open Evl (Ex)
/-! ### what seats tell, wider -/
/-! ### flashes -/
def hf : Rat := ⟨1, 2, by decide, by decide⟩
/-! ### beats -/
/-! ### the stretch of two seats -/
/-! ### bounces -/
end Z
namespace Z
open PySem PySem.Spec PyProof.Rows L2 RZ
open Evl (Ex)
/-! ### zip of two lists -/
/-! ### data with lists, so deep -/
/-! ### a new list is handed back -/
def Ef (K : PySem.W.Frag) (te : TE) (sl : List Sl) (es : List Dt) : Prop := ∀ (G H : Hp) (σ : L2.St), Ex G H → FrD K G σ sl → ∀ Q : VK, (∀ p ws G2 H2, H p = none → Nx G H G2 H2 → G2 p = none → H2 p = some (.lst ws) → Rps K G2 ws es → Q (.ref p) H2) → te σ H Q
/-- [te for x in tl], x in slot i, item by item -/
theorem ef_lcP {K : PySem.W.Frag} {sl : List Sl} {te tl : TE} {i : Nat} {ds es : List Dt} (hes : es.length = ds.length) (h : Ev K tl sl (.lst ds)) (hn : ds.length ≤ 90000) (he : ∀ (k : Nat) (d e : Dt), ds[k]? = some d → es[k]? = some e → Ev K te ((sl.set i .no).set i (.d d)) e) : Ef K (tLc (iList K tl) (gName i) tYes te [i]) sl es := fun G H σ k fr Q q =>
  h G H σ k fr _ fun v G1 H1 n1 r1 => by
    cases r1 with
    | lst hs rs =>
      rename_i a xs
      have hlen := rs.length
      refine ⟨a, rfl, ⟨_, Evl.ex_l n1.k hs⟩, fun Dl hD => ?_⟩
      have gD : G1 Dl = none := free_of n1.k hD
      refine lc_list (K := K) (a := a) (xs := xs) (fun j H' => ∃ G' vs, Ex G1 G' ∧ Ex H1 H' ∧ Ex G' H' ∧ (∀ c, G1 c = none → H1 c ≠ none → G' c = none) ∧ G' Dl = none ∧ H' Dl = some (.lst vs) ∧ Rps K G' vs (es.take j))
        ⟨G1, [], Ex.refl _, Ex.new hD, n1.k.trans (Ex.new hD), fun _ z _ => z, gD, upd_same, .nil⟩ (fun j H' _ ⟨G', vs, e1, e2, _⟩ => Evl.ex_l (n1.k.trans e2) hs) ?_ ?_
      · rintro j x H' hj ⟨G', vs, e1, e2, e3, e4, e5, e6, e7⟩
        have hj2 : j < xs.length := (List.getElem?_eq_some_iff.mp hj).1
        have hd : ds[j]? = some ds[j] := List.getElem?_eq_getElem (by omega)
        obtain ⟨x', hx', rx⟩ := rs.get hd
        rw [hj] at hx'
        cases hx'
        refine ⟨?_, ?_⟩
        · show ((wipe σ [i]).set i (some x)).set i none = σ.set i none
          show (((σ.set i none)).set i (some x)).set i none = σ.set i none
          rw [List.set_set, List.set_set]
        · have fr1 : FrD K G' ((σ.set i none).set i (some x)) ((sl.set i .no).set i (.d ds[j])) := frd_set (.d (rx.mono e1)) i (frd_wipe i (FrD.mono (n1.g.trans e1) fr))
          have hd2 : es[j]? = some es[j] := List.getElem?_eq_getElem (by omega)
          refine he j ds[j] es[j] hd hd2 G' H' _ e3 fr1 _ fun u G2 H2 n2 r2 => ?_
          have g2D : G2 Dl = none := n2.f Dl e5 (by rw [e6]; intro z; cases z)
          have hl := e7.length
          refine ⟨vs, n2.h Dl _ e6, Nat.lt_of_lt_of_le (m := 100000) (by rw [hl, List.length_take]; omega) (by decide), G2, vs ++ [u], e1.trans n2.g, Evl.Ex.mut (e2.trans n2.h) hD, Evl.Ex.mut n2.k g2D, fun c c1 c2 => n2.f c (e4 c c1 c2) (ne_none e2 c2), g2D, upd_same, ?_⟩
          have et : es.take (j + 1) = es.take j ++ [es[j]] := by
            rw [List.take_add_one, hd2]
            rfl
          rw [et]
          exact (e7.mono n2.g).snoc r2
      · rintro H' ⟨G', vs, e1, e2, e3, e4, e5, e6, e7⟩
        rw [hlen, show ds.length = es.length from hes.symm, List.take_length] at e7
        have hp : H Dl = none := by
          cases z : H Dl with
          | none => rfl
          | some o =>
            rw [n1.h Dl o z] at hD
            cases hD
        exact q Dl vs G' H' hp (n1.trans ⟨e1, e2, e3, e4⟩) e5 e6 e7
def spXL (K : PySem.W.Frag) (R : List Dt → List Dt → Prop) (X : List Dt → Value → Prop) : L2.Sp := fun vs H Q E => ∃ (ds : List Dt) (G : Hp), Ex G H ∧ Rps K G vs ds ∧
  ((∃ es, R ds es ∧ ∀ p ws G2 H2, H p = none → Nx G H G2 H2 → G2 p = none → H2 p = some (.lst ws) → Rps K G2 ws es → Q (.ref p) H2) ∨ (∃ cls, X ds cls ∧ ∀ G2 H2, Nx G H G2 H2 → E cls none H2))
def Rf (K : PySem.W.Frag) (t : TS) (sl : List Sl) (es : List Dt) : Prop := ∀ (G H : Hp) (σ : L2.St), Ex G H → FrD K G σ sl → ∀ D : Ends, (∀ p ws G2 H2, H p = none → Nx G H G2 H2 → G2 p = none → H2 p = some (.lst ws) → Rps K G2 ws es → D.rt (.ref p) H2) → t D σ H
theorem none_of {H H1 : Hp} {p : Addr} (e : Ex H H1) (h : H1 p = none) : H p = none := by
  cases z : H p with
  | none => rfl
  | some o =>
    rw [e p o z] at h
    cases h
section
variable {K : PySem.W.Frag} {sl sl1 : List Sl} {te : TE} {t : TS} {u : XK → TS} {ps : List Addr} {p : Addr} {ds es xs : List Dt} {d : Dt} {M : List Sl → Prop} {ta : TA} {tc : TT} {v : TS} {i : Nat} {R : List Dt → Dt → Prop} {RL : List Dt → List Dt → Prop} {XF : List Dt → Value → Prop}
theorem rf_ret (h : Ef K te sl es) : Rf K (tRet te) sl es := fun G H σ k f D q => h G H σ k f _ q
theorem rf_nt (h : Nt K t sl sl1) (g : Rf K v sl1 es) : Rf K (tSeq t v) sl es := fun G H σ k f D q => h G H σ k f _ fun σ1 G1 H1 n1 f1 => g G1 H1 σ1 n1.k f1 D fun p ws G2 H2 hp n2 => q p ws G2 H2 (none_of n1.h hp) (n1.trans n2)
theorem rf_drop {E : XK} (h : EvA K ta sl xs) (hr : R xs d) (g : Rf K v sl es) : Rf K (tSeq (tDrop (tCall (spX K R XF) [] E ta)) v) sl es := rf_nt (nt_drop (ev_callX h hr)) g
end
end Z
namespace Z
open PySem PySem.Spec PyProof.Rows L2 RZ
open Evl (Ex)
/-! ### in, not in; comprehensions over a list, with a test -/
theorem inK {X : Cx} {K : PySem.W.Frag} {k : Nat} (eK : X.K = K) (hr : Room k X.A) : OpR X (compareOp .In) (rInD K) := eK ▸ op_inD (by have := hr.un; omega)
theorem notInK {X : Cx} {K : PySem.W.Frag} {k : Nat} (eK : X.K = K) (hr : Room k X.A) : OpR X (compareOp .NotIn) (rNotInD K) := eK ▸ op_notInD (by have := hr.un; omega)
theorem pys_lst {ds : List Dt} {ps : List PyData} (h : pys ds = some ps) : py (.lst ds) = some (.list ps) := by rw [py, h]
theorem r2_in {K : PySem.W.Frag} {x : Dt} {ds : List Dt} {d : PyData} {ps : List PyData} (hx : py x = some d) (hy : pys ds = some ps) (sx : SeqAt.shaped d = true) (sy : SeqAt.shaped (.list ps) = true) : R2D K (rInD K) x (.lst ds) (.bl (ps.any fun z => PyData.eqv z d)) := fun G H k v w r1 r2 Q q =>
  ⟨d, ps, (r1.mono k).dp hx, (r2.mono k).dp (pys_lst hy), sx, sy, q _ G H (.refl k) (.bl _)⟩
theorem r2_notIn {K : PySem.W.Frag} {x : Dt} {ds : List Dt} {d : PyData} {ps : List PyData} (hx : py x = some d) (hy : pys ds = some ps) (sx : SeqAt.shaped d = true) (sy : SeqAt.shaped (.list ps) = true) : R2D K (rNotInD K) x (.lst ds) (.bl (!ps.any fun z => PyData.eqv z d)) := fun G H k v w r1 r2 Q q =>
  ⟨d, ps, (r1.mono k).dp hx, (r2.mono k).dp (pys_lst hy), sx, sy, q _ G H (.refl k) (.bl _)⟩
theorem sh_list : ∀ {ps : List PyData}, (∀ p ∈ ps, p.canLay0 = true ∧ p.depth ≤ 8) → PyData.canLayAll0 ps = true ∧ PyData.depthAll ps ≤ 8
  | [], _ => ⟨rfl, Nat.zero_le _⟩
  | p :: ps, h => by
    obtain ⟨a, b⟩ := h p List.mem_cons_self
    obtain ⟨c, d⟩ := sh_list fun q m => h q (List.mem_cons_of_mem _ m)
    exact ⟨by rw [PyData.canLayAll0, a, c]; rfl, by rw [PyData.depthAll]; omega⟩
theorem sh_lst {ps : List PyData} (h : ∀ p ∈ ps, p.canLay0 = true ∧ p.depth ≤ 8) : SeqAt.shaped (.list ps) = true := by
  obtain ⟨a, b⟩ := sh_list h
  unfold SeqAt.shaped
  rw [Bool.and_eq_true, decide_eq_true_eq, PyData.canLay0, PyData.depth]
  exact ⟨a, by omega⟩
/-! ### lists of unlike haps, and what each can reach -/
theorem atI_k {α : Type} (ds : List α) {k : Nat} (h : k < ds.length) : atI ds (k : Nat) = ds[k]? := by
  unfold atI ixN
  rw [if_pos (by omega), if_pos (by omega), Int.toNat_natCast, Option.bind_some]
end Z
namespace Z
open PySem PySem.Spec PyProof.Rows L2 RZ
open Evl (Ex)
/-! ### new lists of new lists handed back -/
theorem freeze {K : PySem.W.Frag} {G H G2 H2 : Hp} {p : Addr} {ws : List V} {es : List Dt} (hp : H p = none) (n : Nx G H G2 H2) (g : G2 p = none) (h : H2 p = some (.lst ws)) (r : Rps K G2 ws es) : Nx G H (upd G2 p (.lst ws)) H2 ∧ Rp K (upd G2 p (.lst ws)) (.ref p) (.lst es) :=
  ⟨⟨n.g.trans (Ex.new g), n.h, fun b o hb => by
    by_cases z : b = p
    · subst z
      rw [upd_same] at hb
      rw [h]
      exact hb
    · exact n.k b o (by rwa [upd_ne z] at hb), fun c c1 c2 => by
    rw [upd_ne fun z => c2 (by rw [z]; exact hp)]
    exact n.f c c1 c2⟩, .lst (.inl (.inl upd_same)) (r.mono (Ex.new g))⟩
end Z
namespace Z
open PySem PySem.Spec PyProof.Rows L2 RZ
open Evl (Ex)
/-! ### lists that grow by draws -/
theorem Ls.np {K : PySem.W.Frag} {p : Addr} {ps : List Addr} {ds : List Dt} {G H G2 H2 : Hp} (m : Ls K p ds G H) (n : NxP ps G H G2 H2) (hp : p ∉ ps) : Ls K p ds G2 H2 := by
  obtain ⟨g, vs, h, r⟩ := m
  exact ⟨n.f p g (by rw [h]; intro z; cases z), vs, n.h p _ hp h, r.mono n.g⟩
/-- a list grows, and the def hands something on -/
def Irk (K : PySem.W.Frag) (t : TS) (sl : List Sl) (ps : List Addr) (p : Addr) (ds : List Dt) (R : Dt → Prop) : Prop := p ∉ ps → ∀ (G H : Hp) (σ : L2.St), Ex G H → FrD K G σ sl → Pots ps G H → Ls K p ds G H → ∀ D : Ends, (∀ v x G2 H2, R x → NxL p ps G H G2 H2 → Pots ps G2 H2 → Rp K G2 v x → D.rt v H2) → t D σ H
section
variable {K : PySem.W.Frag} {sl sl1 : List Sl} {s t u : TS} {ps : List Addr} {p : Addr} {ds : List Dt} {N : List Sl → List Dt → Prop} {M : List Sl → Prop} {R : Dt → Prop} {tc : TT} {i : Nat}
theorem il_ip (h : Ip K s sl ps M) (k : ∀ s1, M s1 → Il K u s1 ps p ds N) : Il K (tSeq s u) sl ps p ds N := fun hp G H σ e f m l D q =>
  h G H σ e f m _ fun σ1 s1 G1 H1 h1 n1 m1 f1 => k s1 h1 hp G1 H1 σ1 n1.k f1 m1 (l.np n1 hp) D fun σ2 sl2 ds2 G2 H2 h2 n2 => q σ2 sl2 ds2 G2 H2 h2 (n1.l.trans n2)
theorem irk_il (h : Il K s sl ps p ds N) (k : ∀ s1 d2, N s1 d2 → Irk K u s1 ps p d2 R) : Irk K (tSeq s u) sl ps p ds R := fun hp G H σ e f m l D q =>
  h hp G H σ e f m l _ fun σ1 s1 d1 G1 H1 h1 n1 m1 l1 f1 => k s1 d1 h1 hp G1 H1 σ1 n1.k f1 m1 l1 D fun v x G2 H2 hx n2 => q v x G2 H2 hx (n1.trans n2)
theorem irk_ret (hi : sl[i]? = some (.raw (.ref p))) (hR : R (.lst ds)) : Irk K (tRet (tVar i)) sl ps p ds R := fun hp G H σ e f m l D q => by
  obtain ⟨G2, n2, r2, m2⟩ := fz e l m hp
  exact ⟨.ref p, frd_raw f hi, q _ _ G2 H hR n2 m2 r2⟩
theorem ir_mkL (k : ∀ p, Irk K u (sl.set i (.raw (.ref p))) ps p [] R) : Ir K (tSeq (tAsg (tLst tNil) (gName i)) u) sl ps R := fun G H σ e f m D q => by
  refine ⟨by decide, fun p hp => ?_⟩
  obtain ⟨e2, l⟩ := ls_new (K := K) e hp
  have nps : p ∉ ps := fun z => by
    obtain ⟨_, n, h⟩ := m p z
    rw [hp] at h
    cases h
  refine k p nps G _ _ e2 (frd_set (.raw _) i f) (fun c hc => ?_) l D fun v x G3 H3 hx n3 => q v x G3 H3 hx (nxL_out hp n3)
  obtain ⟨a1, n, a2⟩ := m c hc
  exact ⟨a1, n, by rw [upd_ne (nmem hc nps)]; exact a2⟩
/-- if a test that looks at the list: it grows, or not -/
theorem il_ifL {b : Bool} (hi : sl[i]? = some (.raw (.ref p))) (h : EvT K tc (sl.set i (.d (.lst ds))) b) (k1 : b = true → Il K t sl ps p ds N) (k0 : b = false → N sl ds) : Il K (tIfS tc t tNext) sl ps p ds N := fun hp G H σ e f m l D q => by
  obtain ⟨G2, n2, r2, _⟩ := fz e l m hp
  refine h G2 H σ n2.k (frd_fz f n2.g hi r2) _ fun G3 H3 n3 => ?_
  obtain ⟨lg, vs, lh, lr⟩ := l
  have nx : NxL p ps G H G H3 := ⟨Ex.refl _, fun a o ha => n3.k a o (n3.g a o (n2.g a o ha)), fun a o _ ha => n3.h a o ha, fun a ha => ne_none n3.h ha, fun a _ ha _ => ha⟩
  have m3 : Pots ps G H3 := fun c hc => by
    obtain ⟨a1, n, a2⟩ := m c hc
    exact ⟨a1, n, n3.h c _ a2⟩
  have l3 : Ls K p ds G H3 := ⟨lg, vs, n3.h p _ lh, lr⟩
  cases b with
  | true =>
    show t D σ H3
    exact k1 rfl hp G H3 σ nx.k f m3 l3 D fun σ4 sl4 d4 G4 H4 h4 n4 => q σ4 sl4 d4 G4 H4 h4 (nx.trans n4)
  | false => exact q σ sl ds G H3 (k0 rfl) nx m3 l3 f
/-- for x in range(n), n drawn, with a list that grows -/
theorem il_forE {ta : TA} {j : Nat} {C : Nat → Prop} (I : Nat → List Sl → List Dt → Prop) (h : EpA K ta sl ps fun xs => ∃ n : Nat, xs = [.int (n : Nat)] ∧ n ≤ 100000 ∧ C n) (h0 : I 0 sl ds) (hs : ∀ (k : Nat) s d, (∃ n, C n ∧ k < n) → I k s d → Il K t (s.set j (.d (.int (k : Nat)))) ps p d (I (k + 1))) : Il K (tFor (iRng1 ta) (gName j) t) sl ps p ds (fun s d => ∃ n, C n ∧ I n s d) := fun hp G H σ k f m l D q => by
  refine h G H σ k f m _ fun vs xs G1 H1 ⟨n, ex, hn, hC⟩ n1 m1 r1 => ?_
  subst ex
  obtain ⟨v, rfl, r2⟩ := rps1 r1
  cases r2
  refine ⟨(n : Nat), rfl, by omega, by omega, for_range (lo := 0) (n := n) (fun i σ' H' => ∃ G' s' d', I i s' d' ∧ NxL p ps G H G' H' ∧ Pots ps G' H' ∧ Ls K p d' G' H' ∧ FrD K G' σ' s') ⟨G1, sl, ds, h0, n1.l, m1, l.np n1 hp, FrD.mono n1.g f⟩ ?_ ?_⟩
  · rintro i σ2 H2 hi ⟨G2, sl2, d2, i2, n2, m2, l2, f2⟩
    rw [show (0 : Int) + (i : Nat) = (i : Nat) by omega]
    exact hs i sl2 d2 ⟨n, hC, by omega⟩ i2 hp G2 H2 _ n2.k (frd_set (.d (.int _)) j f2) m2 l2 _ fun σ3 sl3 d3 G3 H3 i3 n3 m3 l3 f3 => ⟨G3, sl3, d3, i3, n2.trans n3, m3, l3, f3⟩
  · rintro σ2 H2 ⟨G2, sl2, d2, i2, n2, m2, l2, f2⟩
    exact q σ2 sl2 d2 G2 H2 ⟨n, hC, i2⟩ n2 m2 l2 f2
end
/-! ### a hap, in or not in a list of haps -/
def hapP (p : Rat × Rat) : PyData := .tuple [.tuple [.int p.1.num, .int (p.1.den : Int)], .tuple [.int p.2.num, .int (p.2.den : Int)]]
theorem pys_haps : ∀ ts : List (Rat × Rat), pys (ts.map fun p => hapD p.1 p.2) = some (ts.map hapP)
  | [] => rfl
  | p :: ts => by
    rw [List.map_cons, pys, pys_haps ts]
    rfl
theorem eqv_haps (p q : Rat × Rat) : PyData.eqv (hapP p) (hapP q) = decide (p = q) := by
  have e : PyData.eqv (hapP p) (hapP q) = (PyData.eqv (.tuple [.int p.1.num, .int (p.1.den : Int)]) (.tuple [.int q.1.num, .int (q.1.den : Int)]) && (PyData.eqv (.tuple [.int p.2.num, .int (p.2.den : Int)]) (.tuple [.int q.2.num, .int (q.2.den : Int)]) && true)) := by
    simp only [hapP, PyData.eqv, PyData.eqvAll]
  rw [e, eqv_fq, eqv_fq, Bool.and_true, ← Bool.decide_and]
  exact decide_eq_decide.mpr ⟨fun ⟨a, b⟩ => Prod.ext a b, fun h => ⟨congrArg Prod.fst h, congrArg Prod.snd h⟩⟩
theorem any_haps (o : Rat × Rat) : ∀ ts : List (Rat × Rat), ((ts.map hapP).any fun z => PyData.eqv z (hapP o)) = ts.contains o
  | [] => rfl
  | p :: ts => by
    rw [List.map_cons, List.any_cons, any_haps o ts, List.contains_cons, eqv_haps]
    congr 1
    by_cases h : p = o
    · rw [h]; simp
    · rw [decide_eq_false h, beq_eq_false_iff_ne.mpr fun z => h z.symm]
theorem r2_notInH {K : PySem.W.Frag} {t r : Rat} {ts : List (Rat × Rat)} : R2D K (rNotInD K) (hapD t r) (.lst (ts.map fun p => hapD p.1 p.2)) (.bl (!ts.contains (t, r))) := by
  have h := r2_notIn (K := K) (x := hapD t r) (py_hap t r) (pys_haps ts) (sh_hap _ _ _ _) (sh_lst fun d m => by
    obtain ⟨o, _, rfl⟩ := List.mem_map.mp m
    exact ⟨rfl, by simp [hapP, PyData.depth, PyData.depthAll]⟩)
  have e := any_haps (t, r) ts
  unfold hapP at e h
  rw [← e]
  exact h
end Z
namespace Z
open PySem PySem.Spec PyProof.Rows L2 RZ
open Evl (Ex)
/-! ### a new list of new lists is looked at, and its first one is written to -/
/-! ### lists of numbers -/
theorem ev_ef {K : PySem.W.Frag} {te : TE} {sl : List Sl} {es : List Dt} (h : Ef K te sl es) : Ev K te sl (.lst es) := fun G H σ k f Q q => h G H σ k f _ fun p ws G2 H2 hp n g h2 r =>
  have z := freeze hp n g h2 r
  q _ _ _ z.1 z.2
theorem ef_call {K : PySem.W.Frag} {sl : List Sl} {ta : TA} {xs es : List Dt} {E : XK} {R : List Dt → List Dt → Prop} {XF : List Dt → Value → Prop} (h : EvA K ta sl xs) (hr : R xs es) : Ef K (tCall (spXL K R XF) [] E ta) sl es := fun G H σ k f Q q =>
  h G H σ k f _ fun us G1 H1 n1 r1 => ⟨xs, G1, n1.k, rps_nil r1, .inl ⟨es, hr, fun p ws G2 H2 hp n2 g2 h2 r2 => q p ws G2 H2 (none_of n1.h hp) (n1.trans n2) g2 h2 r2⟩⟩
theorem ev_callF {K : PySem.W.Frag} {sl : List Sl} {ta : TA} {xs es : List Dt} {E : XK} {R : List Dt → List Dt → Prop} {XF : List Dt → Value → Prop} (h : EvA K ta sl xs) (hr : R xs es) : Ev K (tCall (spXL K R XF) [] E ta) sl (.lst es) := ev_ef (ef_call h hr)
end Z
namespace Z
open PySem PySem.Spec PyProof.Rows L2 RZ
open Evl (Ex)
/-! ### several lists that a def makes and changes: os; all else is frozen -/
abbrev Os := List (Addr × List Dt)
def Ow (K : PySem.W.Frag) (os : Os) (G H : Hp) : Prop := ∀ x ∈ os, Ls K x.1 x.2 G H
def Dj (ps : List Addr) (os : Os) : Prop := (os.map Prod.fst).Nodup ∧ ∀ x ∈ os, x.1 ∉ ps
structure St0 (K : PySem.W.Frag) (ps : List Addr) (sl : List Sl) (os : Os) (G H : Hp) (σ : L2.St) : Prop where
  k : Ex G H
  f : FrD K G σ sl
  m : Pots ps G H
  o : Ow K os G H
  d : Dj ps os
structure Stp (ps : List Addr) (os : Os) (G H : Hp) (os2 : Os) (G2 H2 : Hp) : Prop where
  g : Ex G G2
  h : ∀ a o, a ∉ ps → (∀ x ∈ os, x.1 ≠ a) → H a = some o → H2 a = some o
  t : ∀ a, H a ≠ none → H2 a ≠ none
  f : ∀ a, a ∉ ps → (∀ x ∈ os, x.1 ≠ a) → G a = none → H a ≠ none → G2 a = none
  n : ∀ x ∈ os2, (∃ y ∈ os, y.1 = x.1) ∨ H x.1 = none
theorem some_ne {α : Type} {o : Option α} {x : α} (h : o = some x) : o ≠ none := by
  rw [h]
  intro z
  cases z
theorem Stp.trans {ps : List Addr} {os os1 os2 : Os} {G H G1 H1 G2 H2 : Hp} (a : Stp ps os G H os1 G1 H1) (b : Stp ps os1 G1 H1 os2 G2 H2) : Stp ps os G H os2 G2 H2 := by
  have ne : ∀ c, (∀ x ∈ os, x.1 ≠ c) → H c ≠ none → ∀ x ∈ os1, x.1 ≠ c := fun c hc hh x hx e => by
    rcases a.n x hx with ⟨y, hy, ey⟩ | hn
    · exact hc y hy (ey.trans e)
    · exact hh (e ▸ hn)
  refine ⟨a.g.trans b.g, fun c o h1 h2 e => b.h c o h1 (ne c h2 (some_ne e)) (a.h c o h1 h2 e), fun c h => b.t c (a.t c h), fun c h1 h2 h3 h4 => b.f c h1 (ne c h2 h4) (a.f c h1 h2 h3 h4) (a.t c h4), fun x hx => ?_⟩
  rcases b.n x hx with ⟨y, hy, ey⟩ | hn
  · rw [← ey]
    exact a.n y hy
  · refine .inr ?_
    cases z : H x.1 with
    | none => rfl
    | some o => exact absurd hn (a.t _ (some_ne z))
theorem Stp.refl {ps : List Addr} {os : Os} {G H : Hp} : Stp ps os G H os G H := ⟨Ex.refl _, fun _ _ _ _ e => e, fun _ h => h, fun _ _ _ h _ => h, fun x hx => .inl ⟨x, hx, rfl⟩⟩
theorem Ow.nx {K : PySem.W.Frag} {os : Os} {G H G2 H2 : Hp} (m : Ow K os G H) (n : Nx G H G2 H2) : Ow K os G2 H2 := fun x hx => (m x hx).nx n
theorem Ow.np {K : PySem.W.Frag} {ps : List Addr} {os : Os} {G H G2 H2 : Hp} (m : Ow K os G H) (n : NxP ps G H G2 H2) (d : Dj ps os) : Ow K os G2 H2 := fun x hx => (m x hx).np n (d.2 x hx)
/-! what the slots show while nothing is changed -/
section
variable {K : PySem.W.Frag} {sl sl1 : List Sl} {s t u : TS} {ps : List Addr} {os : Os} {p : Addr} {ds es xs : List Dt} {d x : Dt} {N N1 : List Sl → Os → Prop} {M : List Sl → Prop} {R : Dt → Prop} {ta : TA} {te tl : TE} {tc : TT} {i j k : Nat} {vs : List (Nat × Addr × List Dt)} {G H : Hp} {σ : L2.St}
def isTu : HO → Bool
  | .tup _ => true
  | .frz _ (.tup _) => true
  | _ => false
def tups (G2 G : Hp) : Hp := fun a => match G2 a with
  | some o => if isTu o then some o else G a
  | none => G a
/-! the rules -/
theorem St0.nx (a : St0 K ps sl os G H σ) {G1 H1 : Hp} {σ1 : L2.St} (n : Nx G H G1 H1) (f : FrD K G1 σ1 sl1) : St0 K ps sl1 os G1 H1 σ1 := ⟨n.k, f, a.m.nx n, a.o.nx n, a.d⟩
/-! a list is written to -/
/-- what a method does to a list -/
def BmD (K : PySem.W.Frag) (r : V → List V → Hp → VK → Prop) (ds as ds' : List Dt) (x : Dt) : Prop := ∀ (G H : Hp) (p : Addr) (ws us : List V), Ex G H → G p = none → H p = some (.lst ws) → Rps K G ws ds → Rps K G us as → ∀ Q : VK, (∀ y ws', Rps K G ws' ds' → Rp K G y x → Q y (upd H p (.lst ws'))) → r (.ref p) us H Q
variable {rm : V → List V → Hp → VK → Prop} {as ds' : List Dt}
theorem Rps.set {K : PySem.W.Frag} {G : Hp} {v : V} {d : Dt} (h : Rp K G v d) : ∀ {ws : List V} {es : List Dt} (m : Nat), Rps K G ws es → Rps K G (ws.set m v) (es.set m d)
  | _, _, 0, .cons _ r => .cons h r
  | _, _, m + 1, .cons a r => .cons a (Rps.set h m r)
  | _, _, 0, .nil => .nil
  | _, _, m + 1, .nil => .nil
/-! loops -/
/-- a list that is there, and no own one: it stays -/
theorem stay {a : Addr} {xs : List V} {G1 H1 G2 H2 : Hp} {os1 os2 : Os} (hs : SqL K G1 a xs) (g : Ex G1 G2) (k : Ex G2 H2) : SqL K H2 a xs := Evl.ex_l k (Evl.ex_l g hs)
/-! out of it -/
theorem rt_ir {y : Dt} (h : Ir K t sl [] (fun x => x = y)) : Rt K t sl y := fun G H σ e f D q => h G H σ e f .nil D fun v x G2 H2 ex n2 _ r2 => q v G2 H2 n2.nx (ex ▸ r2)
end
end Z
namespace Z
open PySem PySem.Spec PyProof.Rows L2 RZ
open Evl (Ex)
/-! ### lists of ints -/
section
variable {K : PySem.W.Frag} {sl : List Sl} {te tb : TE} {ta : TA} {n : Nat}
/-! methods -/
theorem bm_append {ds : List Dt} {d : Dt} (h : ds.length < 100000) : BmD K rAppend ds [d] (ds ++ [d]) .non := fun G H p ws us k g hp r ru Q q => by
  obtain ⟨y, rfl, ry⟩ := rps1 ru
  refine ⟨p, ws, y, rfl, rfl, hp, ?_, q .non _ (r.snoc ry) .non⟩
  have := r.length
  exact Nat.lt_of_lt_of_le (m := 100000) (by omega) (by decide)
end
/-! ### how many steps: the height of a hap -/
def rch (ts : List (Rat × Rat)) (i j : Nat) : Bool := wordS ((ts.getD j (0, 0)).1 - (ts.getD i (0, 0)).1) ((ts.getD j (0, 0)).2 - (ts.getD i (0, 0)).2) == "later"
def preds (ts : List (Rat × Rat)) (j : Nat) : List Nat := (List.range ts.length).filter fun i => rch ts i j
def mx (l : List Nat) : Nat := l.foldr max 0
def hS (ts : List (Rat × Rat)) : Nat → Nat → Nat
  | 0, _ => 0
  | k + 1, j => 1 + mx ((preds ts j).map (hS ts k))
end Z
namespace Z
open PySem PySem.Spec PyProof.Rows L2 RZ
open Evl (Ex)
/-- [te for x, y in list of pairs], made anew -/
theorem ef_lc2 {K : PySem.W.Frag} {sl : List Sl} {te tl : TE} {i j : Nat} {as bs es : List Dt} (hb : bs.length = as.length) (hes : es.length = as.length) (h : Ev K tl sl (.lst (List.zipWith (fun a b => .tup [a, b]) as bs))) (hn : as.length ≤ 90000)
    (he : ∀ (k : Nat) (a b e : Dt), as[k]? = some a → bs[k]? = some b → es[k]? = some e → Ev K te ((((sl.set j .no).set i .no).set i (.d a)).set j (.d b)) e) : Ef K (tLc (iList K tl) (gTup K 2 (gCons (gName i) (gCons (gName j) gNil))) tYes te [i, j]) sl es := fun G H σ k fr Q q =>
  h G H σ k fr _ fun v G1 H1 n1 r1 => by
    cases r1 with
    | lst hs rs =>
      rename_i a xs
      have hlen : xs.length = as.length := by
        have := rs.length
        rw [List.length_zipWith] at this
        omega
      refine ⟨a, rfl, ⟨_, Evl.ex_l n1.k hs⟩, fun Dl hD => ?_⟩
      have gD : G1 Dl = none := free_of n1.k hD
      refine lc_list (K := K) (a := a) (xs := xs) (fun m H' => ∃ G' vs, Ex G1 G' ∧ Ex H1 H' ∧ Ex G' H' ∧ (∀ c, G1 c = none → H1 c ≠ none → G' c = none) ∧ G' Dl = none ∧ H' Dl = some (.lst vs) ∧ Rps K G' vs (es.take m))
        ⟨G1, [], Ex.refl _, Ex.new hD, n1.k.trans (Ex.new hD), fun _ z _ => z, gD, upd_same, .nil⟩ (fun m H' _ ⟨G', vs, e1, e2, _⟩ => Evl.ex_l (n1.k.trans e2) hs) ?_ ?_
      · rintro m x H' hm ⟨G', vs, e1, e2, e3, e4, e5, e6, e7⟩
        have hm2 : m < xs.length := (List.getElem?_eq_some_iff.mp hm).1
        have hda : as[m]? = some as[m] := List.getElem?_eq_getElem (by omega)
        have hdb : bs[m]? = some bs[m] := List.getElem?_eq_getElem (by omega)
        have hde : es[m]? = some es[m] := List.getElem?_eq_getElem (by omega)
        obtain ⟨x', hx', rx⟩ := rs.get (i := m) (d := .tup [as[m], bs[m]]) (by rw [List.getElem?_zipWith, hda, hdb])
        rw [hm] at hx'
        cases hx'
        cases rx with
        | tup ht rt =>
          obtain ⟨u, w, rfl, ra, rb⟩ := rps2 rt
          refine ⟨_, _, rfl, exT (n1.k.trans e2) ht, rfl, u, [w], rfl, w, [], rfl, rfl, wipe2 σ u w, ?_⟩
          have fr0 : FrD K G' ((wipe σ [i, j])) ((sl.set j .no).set i .no) := frd_wipe i (frd_wipe j (FrD.mono (n1.g.trans e1) fr))
          have fr1 := frd_set (s := .d bs[m]) (.d (rb.mono e1)) j (frd_set (s := .d as[m]) (.d (ra.mono e1)) i fr0)
          refine he m _ _ _ hda hdb hde _ _ _ e3 fr1 _ fun u2 G3 H3 n3 r3 => ?_
          have g3D : G3 Dl = none := n3.f Dl e5 (by rw [e6]; intro z; cases z)
          have hl := e7.length
          refine ⟨vs, n3.h Dl _ e6, Nat.lt_of_lt_of_le (m := 100000) (by rw [hl, List.length_take]; omega) (by decide), G3, vs ++ [u2], e1.trans n3.g, Evl.Ex.mut (e2.trans n3.h) hD, Evl.Ex.mut n3.k g3D, fun c c1 c2 => n3.f c (e4 c c1 c2) (ne_none e2 c2), g3D, upd_same, ?_⟩
          have et : es.take (m + 1) = es.take m ++ [es[m]] := by
            rw [List.take_add_one, hde]
            rfl
          rw [et]
          exact (e7.mono n3.g).snoc r3
      · rintro H' ⟨G', vs, e1, e2, e3, e4, e5, e6, e7⟩
        rw [hlen, ← hes, List.take_length] at e7
        exact q Dl vs G' H' (none_of n1.h hD) (n1.trans ⟨e1, e2, e3, e4⟩) e5 e6 e7
theorem haps_zip : ∀ ts : List (Rat × Rat), (ts.map fun p => hapD p.1 p.2) = List.zipWith (fun a b => Dt.tup [a, b]) (ts.map fun p => fq p.1) (ts.map fun p => fq p.2)
  | [] => rfl
  | p :: ts => by
    rw [List.map_cons, haps_zip ts]
    rfl
/-! ### how haps stand by their times from a speed -/
end Z
namespace Z
open PySem PySem.Spec PyProof.Rows L2 RZ
open Evl (Ex)
theorem slLK {X : Cx} {K : PySem.W.Frag} (e : X.K = K) : SlR X (rSlL K) := e ▸ sl_list
/-- t[:n] of a list, made anew -/
theorem ef_slL {K : PySem.W.Frag} {sl : List Sl} {te th : TE} {ds : List Dt} {n : Nat} (h : Ev K te sl (.lst ds)) (hb : Ev K th sl (.int (n : Nat))) : Ef K (tSl (rSlL K) te tNoPart (tPart th)) sl (ds.take n) := fun G H σ k f Q q =>
  h G H σ k f _ fun v G1 H1 n1 r1 => by
    cases r1 with
    | lst hs rs =>
      rename_i a xs
      refine hb G1 H1 σ n1.k (FrD.mono n1.g f) _ fun w G2 H2 n2 r2 => ?_
      cases r2
      have e1 : HT.sIx xs.length xs.length (some (n : Int)) = min n xs.length := HT.sIx_nat _ _ _
      have e2 : cutV xs none (some (n : Int)) = xs.take n := by
        unfold cutV
        rw [e1]
        show xs.take (min n xs.length) = xs.take n
        rw [← List.take_take, List.take_length]
      refine ⟨n, rfl, a, xs, rfl, Evl.ex_l (n2.g.trans n2.k) hs, fun p hp => ?_⟩
      rw [e2]
      have n12 := n1.trans n2
      have hp0 := none_of n12.h hp
      have g2 : G2 p = none := free_of n2.k hp
      exact q p _ G2 _ hp0 ⟨n12.g, fun b o eb => by
        rw [upd_ne fun z => by rw [z, hp0] at eb; cases eb]
        exact n12.h b o eb, fun b o eb => by
        rw [upd_ne fun z => by rw [z, g2] at eb; cases eb]
        exact n2.k b o eb, n12.f⟩ g2 upd_same (rps_take (rs.mono n2.g) n)
/-- tuple(x) of a list: a new tuple; of a tuple: itself -/
def kTup (K : PySem.W.Frag) (x : V) (H : Hp) (Q : VK) : Prop :=
  (∃ p xs, x = .ref p ∧ SqL K H p xs ∧ ∀ q (o : Obj), H q = none → o.dict = none → Q (.ref q) (upd H q (.frz o (.tup xs)))) ∨ (∃ p xs, x = .ref p ∧ SqT K H p xs ∧ Q (.ref p) H)
theorem rl_tuple {X : Cx} (pins : List (Addr × Obj)) (s : Shared) (σ : L2.St) (H : Hp) (x : V) (v : Value) (Q : VK) (I : Inv X pins σ H s) (r : RelV x v) (h : kTup X.K x H Q) :
    wpAny (model X.prog X.w) X.A (call (.type "tuple") [v]) (EP X pins σ Q) X.xe s := by
  rcases h with ⟨p, xs, rfl, hs, q⟩ | ⟨p, xs, rfl, hs, q⟩
  · obtain rfl : v = .ref p := r
    obtain ⟨its, rv, pl, hz⟩ := I.list hs
    refine call_tuple_list pl.isList (fun h' hk => ?_) (by rw [List.size_toArray, ← rv.length]; exact hz)
    have I1 : Inv X pins σ H { s with heap := h' } := I.kept (t' := s.toks) hk
    have I2 : Inv X pins σ (upd H h'.objs.size (.frz { cls := .type "tuple", data := .seq its.toArray } (.tup xs))) { s with heap := h'.push { cls := .type "tuple", data := .seq its.toArray } } :=
      I1.laid (t' := s.toks) (fun b o e => Heap.get?_push_of_some _ e) (Nat.le_refl _) (show ObjOk X.prog X.w _ _ _ (.frz _ (.tup xs)) from ⟨Heap.get?_push_size _ rfl, hz, its, rv, IsTup.new _ _⟩)
    exact ⟨.ref h'.objs.size, _, I2, rfl, q _ _ (I1.hok.fresh (Nat.le_refl _)) rfl⟩
  · obtain rfl : v = .ref p := r
    obtain ⟨its, rv, pl, hz⟩ := I.tuple hs
    exact call_tuple_tup pl ⟨.ref p, H, I, rfl, q⟩
theorem pe_tupleOf {X : Cx} {a : Expr} {ta : TE} {p pos : Pos} (hg : Gl X "tuple") (hm : X.mg "tuple" = none) (ha : PE X a ta) (na : starEach [a] X.env = (false, eval a X.env) :: starEach [] X.env := by rfl) :
    PE X (.Call (.Name "tuple" p) [a] [] pos) (tThen ta (kTup X.K)) := by
  refine ⟨fun pins s σ H Q I h => ?_⟩
  exact Call_ (ld_blt I hg hm boot_tuple (PyProof.Rows.callWith_type1 (one_arg ha I h (fun v s2 x H2 I2 r q => rl_tuple pins s2 σ H2 x v Q I2 r q) na) na))
/-- tuple(list) -/
theorem ev_tupOf {K : PySem.W.Frag} {sl : List Sl} {te : TE} {ds : List Dt} (h : Ev K te sl (.lst ds)) : Ev K (tThen te (kTup K)) sl (.tup ds) := fun G H σ k f Q q =>
  h G H σ k f _ fun v G1 H1 n1 r1 => by
    cases r1 with
    | lst hs rs => exact .inl ⟨_, _, rfl, Evl.ex_l n1.k hs, fun p o hp ho => q _ _ _ (n1.trans (.new n1.k hp)) (.tup (sqx_new ho) (rs.mono (Ex.new (free_of n1.k hp))))⟩
theorem tupOfK {X : Cx} {K : PySem.W.Frag} (e : X.K = K) {p pos : Pos} {a : Expr} {ta : TE} (hg : Gl X "tuple") (hm : X.mg "tuple" = none) (ha : PE X a ta) (na : starEach [a] X.env = (false, eval a X.env) :: starEach [] X.env := by rfl) :
    PE X (.Call (.Name "tuple" p) [a] [] pos) (tThen ta (kTup K)) := e ▸ pe_tupleOf hg hm ha na
/-! ### fractions, in or not in a list -/
/-! ### the speeds from which two haps beside one another are at one time -/
/-! ### compared with itself: lists of lists of numbers, lists of haps -/
end Z
namespace Z
open PySem PySem.Spec PyProof.Rows L2 RZ
open Evl (Ex)
theorem py_hapsD (ts : List (Rat × Rat)) : ∃ p, py (hapsD ts) = some p ∧ SeqAt.shaped p = true := ⟨_, by unfold hapsD; rw [py, pys_haps], sh_lst fun d m => by
  obtain ⟨o, _, rfl⟩ := List.mem_map.mp m
  exact ⟨rfl, by simp [hapP, PyData.depth, PyData.depthAll]⟩⟩
/-! ### what are no haps -/
end Z
namespace Z
open PySem PySem.Spec PyProof.Rows L2 RZ
/-! ### the paper of an order -/
def HapsB (ts : List (Rat × Rat)) : Prop := ts.length ≤ 8 ∧ ∀ p ∈ ts, Bq 90 p.1 ∧ Bq 12 p.2
end Z
namespace Z
open PySem PySem.Spec PyProof.Rows L2 RZ
/-! ### sizes of bounds: times are far off but halves -/
def HapsH (ts : List (Rat × Rat)) : Prop := ts.length ≤ 8 ∧ ∀ p ∈ ts, Bq 90 p.1 ∧ Bq 4 p.2 ∧ p.1.den ≤ 2
theorem HapsH.b {ts : List (Rat × Rat)} (h : HapsH ts) : HapsB ts := ⟨h.1, fun p m => ⟨(h.2 p m).1, (h.2 p m).2.1.mono (by decide)⟩⟩
/-! ### the lowest and the highest speed -/
end Z
namespace Z
open PySem PySem.Spec PyProof.Rows L2 RZ
theorem den_le {t b : Int} (h : b ≠ 0) : ((t : Rat) / (b : Rat)).den ≤ b.natAbs := by
  rw [← Rat.divInt_eq_div, Rat.den_divInt, if_neg h]
  exact Nat.div_le_self _ _
end Z
namespace Z
open PySem PySem.Spec PyProof.Rows L2 RZ
open Evl (Ex)
/-! ### comprehensions whose items are drawn -/
theorem nxL_app {p : Addr} {ps : List Addr} {G H : Hp} {vs : List V} (k : Ex G H) (g : G p = none) (h : H p ≠ none) : NxL p ps G H G (upd H p (.lst vs)) := by
  have ne : ∀ {b : Addr} {o : HO}, G b = some o → b ≠ p := fun e1 z => by
    rw [z, g] at e1
    cases e1
  refine ⟨Ex.refl _, fun b o e1 => ?_, fun b o hb e1 => ?_, fun b hb => ?_, fun b _ h1 _ => h1⟩
  · rw [upd_ne (ne e1)]
    exact k b o e1
  · rw [upd_ne (fun z => hb (by rw [z]; exact List.mem_cons_self))]
    exact e1
  · by_cases z : b = p
    · rw [z, upd_same]
      intro y
      cases y
    · rw [upd_ne z]
      exact hb
/-- [te for x in range(n)], x in slot i, each item drawn -/
theorem ep_lcR {K : PySem.W.Frag} {sl : List Sl} {ps : List Addr} {te : TE} {tr : TA} {i n : Nat} {C : Dt → Prop} {R : Dt → Prop} (h : EvA K tr sl [.int (n : Nat)]) (hn : n ≤ 1000) (he : ∀ k, k < n → Ep K te ((sl.set i .no).set i (.d (.int (0 + (k : Nat))))) ps C) (hR : ∀ es : List Dt, es.length = n → (∀ d ∈ es, C d) → R (.lst es)) :
    Ep K (tLc (iRng1 tr) (gName i) tYes te [i]) sl ps R := fun G H σ k fr m Q q =>
  h G H σ k fr _ fun v G1 H1 n1 r1 => by
    obtain ⟨va, rfl, ra⟩ := rps1 r1
    cases ra
    refine ⟨(n : Nat), rfl, by omega, by omega, fun Dl hD => ?_⟩
    have m1 := m.nx n1
    have hps : Dl ∉ ps := fun z => by
      obtain ⟨_, o, ho⟩ := m1 Dl z
      rw [hD] at ho
      cases ho
    have mD : Pots ps G1 (upd H1 Dl (.lst [])) := fun p hp => by
      obtain ⟨a, o, ho⟩ := m1 p hp
      exact ⟨a, o, (upd_ne (fun z : p = Dl => hps (by rw [← z]; exact hp))).trans ho⟩
    obtain ⟨e0, l0⟩ := ls_new (K := K) n1.k hD
    refine lc_range (fun j H' => ∃ G' es, NxL Dl ps G1 (upd H1 Dl (.lst [])) G' H' ∧ Pots ps G' H' ∧ Ls K Dl es G' H' ∧ es.length = j ∧ ∀ d ∈ es, C d)
      ⟨G1, [], NxP.l (NxP.refl e0), mD, l0, rfl, fun d hd => by cases hd⟩ ?_ ?_
    · rintro j H' hj ⟨G', es, nl, m', l', hlen, hC⟩
      rw [Int.toNat_natCast] at hj
      refine ⟨?_, ?_⟩
      · show ((wipe σ [i]).set i (some (.int (0 + j)))).set i none = σ.set i none
        show (((σ.set i none)).set i (some (.int (0 + j)))).set i none = σ.set i none
        rw [List.set_set, List.set_set]
      · have fr1 : FrD K G' ((σ.set i none).set i (some (.int (0 + j)))) ((sl.set i .no).set i (.d (.int (0 + j)))) := frd_set (.d (.int _)) i (frd_wipe i (FrD.mono (n1.g.trans nl.g) fr))
        refine he j hj G' H' _ nl.k fr1 m' _ fun u x G2 H2 hx n2 m2 r2 => ?_
        have l2 := l'.np n2 hps
        obtain ⟨g2, acc, h2, racc⟩ := l2
        have hl := racc.length
        have na := nxL_app (ps := ps) (vs := acc ++ [u]) n2.k g2 (show H2 Dl ≠ none by rw [h2]; intro z; cases z)
        refine ⟨acc, h2, Nat.lt_of_lt_of_le (m := 100000) (by omega) (by decide), G2, es ++ [x], nl.trans (n2.l.trans na), fun p hp => ?_, ⟨g2, acc ++ [u], upd_same, racc.snoc r2⟩, by rw [List.length_append, hlen]; rfl, fun d hd => ?_⟩
        · obtain ⟨a, o, ho⟩ := m2 p hp
          exact ⟨a, o, (upd_ne (fun z : p = Dl => hps (by rw [← z]; exact hp))).trans ho⟩
        · rcases List.mem_append.mp hd with z | z
          · exact hC d z
          · rw [List.mem_singleton.mp z]
            exact hx
    · rintro H' ⟨G', es, nl, m', l', hlen, hC⟩
      rw [Int.toNat_natCast] at hlen
      obtain ⟨G2, n3, r3, m3⟩ := fz nl.k l' m' hps
      exact q _ _ G2 H' (hR es hlen hC) (n1.p.trans (nxL_out hD (nl.trans n3))) m3 r3
end Z
namespace Z
open PySem PySem.Spec PyProof.Rows L2 RZ
open Evl (Ex)
/-! ### xs.extend(a new list), xs owned -/
/-! ### {k: v} -/
/-! ### slices of texts -/
theorem ev_slSto {K : PySem.W.Frag} {sl : List Sl} {te th : TE} {s : Str} {n : Int} (h : Ev K te sl (.str s)) (hb : Ev K th sl (.int n)) (hn : s.length ≤ 100000) : Ev K (tSl rSlS te tNoPart (tPart th)) sl (.str (cutS s none (some n))) := fun G H σ k f Q q =>
  h G H σ k f _ fun v G1 H1 n1 r1 => by
    cases r1
    refine hb G1 H1 σ n1.k (FrD.mono n1.g f) _ fun w G2 H2 n2 r2 => ?_
    cases r2
    exact ⟨n, rfl, s, rfl, sz_ok hn, q _ G2 H2 (n1.trans n2) (.str _)⟩
theorem ev_slSfrom {K : PySem.W.Frag} {sl : List Sl} {te th : TE} {s : Str} {n : Int} (h : Ev K te sl (.str s)) (hb : Ev K th sl (.int n)) (hn : s.length ≤ 100000) : Ev K (tSl rSlS te (tPart th) tNoPart) sl (.str (cutS s (some n) none)) := fun G H σ k f Q q =>
  h G H σ k f _ fun v G1 H1 n1 r1 => by
    cases r1
    refine hb G1 H1 σ n1.k (FrD.mono n1.g f) _ fun w G2 H2 n2 r2 => ?_
    cases r2
    exact ⟨n, rfl, s, rfl, sz_ok hn, q _ G2 H2 (n1.trans n2) (.str _)⟩
/-! ### lists of texts compared -/
/-! ### all rows of so many numbers, from -1 to m -/
end Z
namespace Z
open PySem PySem.Spec PyProof.Rows L2 RZ HandSPX
open Evl (Ex)
/-! ### a call's exception out of a comprehension -/
/-- the block's context where calls may let an exception out -/
abbrev blkE (X : Cx) (s : Shared) (H : Hp) (scope : Scope) (cenv : Env) (fp : List Addr) (E : XK) : Cx :=
  { X.blk s H scope cenv fp with xe := fun u s' => ∃ (pins : List (Addr × Obj)) (σ : L2.St) (H' : Hp) (sB : Shared), Inv (X.blk s H scope cenv fp) pins σ H' sB ∧ L2.CX X.prog X.w X.stack H' sB E u s' }
theorem inv_xe {Y : Cx} {xe : Value → Shared → Prop} {pins : List (Addr × Obj)} {σ : L2.St} {H : Hp} {s : Shared} (I : Inv Y pins σ H s) : Inv { Y with xe := xe } pins σ H s :=
  ⟨Cx.Ok.toTry I.ok Y.pn xe, I.os, I.bare, I.base, I.loc, I.cell, I.free, I.freeC, I.pin, I.hok, I.len⟩
theorem inv_ex {Y : Cx} {xe : Value → Shared → Prop} {pins : List (Addr × Obj)} {σ : L2.St} {H : Hp} {s : Shared} (I : Inv { Y with xe := xe } pins σ H s) : Inv Y pins σ H s :=
  ⟨Cx.Ok.ofTry (X := Y) (pn := Y.pn) (xe := xe) I.ok, I.os, I.bare, I.base, I.loc, I.cell, I.free, I.freeC, I.pin, I.hok, I.len⟩
theorem passB {X : Cx} {s : Shared} {H : Hp} {scope : Scope} {cenv : Env} {fp : List Addr} {E : XK} : Passes (L2.CX X.prog X.w) (blkE X s H scope cenv fp E) E := fun pins σ H' sB _ _ I c => ⟨pins, σ, H', sB, inv_ex I, c⟩
section
variable {X : Cx} {pins : List (Addr × Obj)} {σ : L2.St} {s : Shared} {H : Hp} {E : XK}
/-- what the def owes when such an exception leaves the block -/
theorem comp_err {fp : List Addr} {scope : Scope} {ce : Env} {H5 : Hp} {s5 s' : Shared} {σ' : L2.St} {pins' : List (Addr × Obj)} {u : Value} (tk : Takes X fun cls d _ H => E cls d H) (hs0 : X.stack = X.env :: X.outer) (hf : X.env.frame = some X.env.locals)
    (I3 : Inv X pins σ H s) (cL : ce.locals = s.heap.objs.size) (cF : ce.frame = X.env.frame) (f3 : ∀ b ∈ fp, FpOk X pins H b ∧ b < s.heap.objs.size) (I5 : Inv (X.blk s H scope ce fp) pins' σ' H5 s5) (c : L2.CX X.prog X.w X.stack H5 s5 E u s') :
    notedBy (model X.prog X.w) X.A ce (CompFails (model X.prog X.w) X.A X.xe ce) u s' := by
  have I7 : Inv X pins σ H5 s5 := I3.call' (ch := fp) I5.os I5.base I5.hok I5.bare fun b hb =>
    let z := (f3 b hb).1.2
    ⟨z.2.2.1, z.1, z.2.2.2.1, z.2.2.2.2⟩
  have nC : H5 ce.locals = none := I5.free
  obtain ⟨m, hn, _⟩ := I5.loc
  have hn : s5.heap.Ns ce.locals m := hn
  have fC : FpOk X pins H5 ce.locals := I3.fpOk (by rw [cL]; exact Nat.le_refl _) nC
  obtain ⟨_, fC1, fC2, fC3, fC4, fC5⟩ := fC
  obtain ⟨oC, es, ep, goC, dC, nsr⟩ := id hn
  have Cnf : ∀ vs, oC.data ≠ .fields vs := fun vs q => by
    rw [dC] at q
    cases q
  generalize hC : ce.locals = C at *
  obtain ⟨a, B, H', cls, d, rfl, fl, hok, ub, na, os, ag, hE⟩ := c
  have Cst : C ∉ frs X.stack := fun hm => by
    rcases List.mem_cons.mp (I7.stkSub C hm) with z | z
    · exact fC1 z
    · exact fC2 z
  have cB : B.get? C = some oC := ub.keep C oC goC nC Cst
  have nC' : H' C = none := ub.free C oC goC nC
  have cS : s'.heap.get? C = some oC := fl.1 _ _ cB
  have hfr : X.A.frames = some (X.env :: X.outer) := by rw [I7.ok.frames, hs0]
  have fl' : FlyingZ B (X.env :: X.outer) a (Zc cls d) s'.heap := hs0 ▸ fl
  show wpAny _ _ (noteFrame (.ref a) ce) _ _ s'
  rw [noteFrame_env _ cF]
  refine looks_onZ Zc.steady hfr hf fl' fun h1 hh up1 => ?_
  obtain ⟨b1, bn, fr1, oe, vs, T, oT, ts, he, hz, hd, hv1, hnT, hTe, hT, hdT, hv3⟩ := hh
  obtain ⟨sl1, c1⟩ := up1 C oC cS Cnf
  show CompFails _ _ _ ce (.ref a) { s' with heap := h1 }
  unfold CompFails
  rw [hC]
  refine ⟨m, ⟨_, es, ep, c1, dC, nsr⟩, fun h2 m2 hn2 sb => ?_⟩
  -- the ground without the block's names
  obtain ⟨B', g1, g2⟩ := restrict B fun b => decide (b ≠ C)
  have bB : ∀ b o, B'.get? b = some o → b ≠ C ∧ B.get? b = some o := fun b o e => by
    by_cases z : b = C
    · rw [g2 b (by simp [z])] at e
      cases e
    · exact ⟨z, by rw [← g1 b (by simp [z])]; exact e⟩
  have bN : ∀ {b}, B.get? b = none → B'.get? b = none := fun {b} e => by
    cases q : B'.get? b with
    | none => rfl
    | some o =>
      have := (bB b o q).2
      rw [e] at this
      cases this
  have bK : ∀ b o, b ≠ C → B.get? b = some o → B'.get? b = some o := fun b o z e => by
    rw [g1 b (by simp [z])]
    exact e
  have ne : ∀ {b : Addr} {o : Obj} {ws : Array Value}, h1.get? b = some o → o.data = .fields ws → b ≠ C := fun {b o ws} e q z => by
    rw [z, c1] at e
    cases e
    exact Cnf ws q
  have st2 : B'.StaysIn h2 := fun b o e => (sb.2 b (bB b o e).1).trans (b1 b o (bB b o e).2)
  have fr2 : h2.FunFrames B' (X.env :: X.outer) := funFrames_none (Heap.FunFrames.sameBut sb hn2 fr1) fun L hL => bN (fr1.mem hL).1
  have he2 := (sb.2 a (ne he hd)).trans he
  have hT2 := (sb.2 T (ne hT hdT)).trans hT
  have hh2 : HeldZ B' (X.env :: X.outer) a (Zc cls d) X.env.locals h2 := ⟨st2, bN bn, fr2, oe, vs, T, oT, ts, he2, hz, hd, hv1, bN hnT, hTe, hT2, hdT, hv3⟩
  unfold PySem.passOn
  refine wpAny_bind (wpAny_field he2 hd hv1 ?_)
  rw [if_neg (show ¬ ((Value.ref T == Value.none) = true) from by simp), cF, hf]
  refine wpAny_bind (setFlight_onZ hh2 fun h3 hh3 up3 => wpAny_throw ?_)
  -- it is in the def's air
  obtain ⟨G, k1, k2⟩ := restrict s'.heap fun b => (B'.get? b).isSome || decide (b ∈ frs X.stack)
  have gB : ∀ b o, B'.get? b = some o → G.get? b = some o := fun b o e => by
    rw [k1 b (by simp [e])]
    exact fl.1 b o (bB b o e).2
  have gF : ∀ b, b ∈ frs X.stack → G.get? b = s'.heap.get? b := fun b hb => k1 b (by simp [hb])
  have og : ∀ b o, G.get? b = some o → s'.heap.get? b = some o ∧ ((B'.get? b).isSome = true ∨ b ∈ frs X.stack) := fun b o e => by
    cases q : ((B'.get? b).isSome || decide (b ∈ frs X.stack)) with
    | false => rw [k2 b q] at e; cases e
    | true =>
      rw [k1 b q] at e
      exact ⟨e, by simpa [Bool.or_eq_true] using q⟩
  have nit : ∀ {b}, b ∉ [C] → b ≠ C := fun h z => h (by simp [z])
  have hok' : HOk X.prog X.w H' G := fun b o q => (hok b o q).stay (fun c w hc r => gB c w (bK c w (fun z => by
    rcases hc with hc | hc
    · rw [← hc, z, nC'] at q; cases q
    · rw [z, nC'] at hc; cases hc) r)) (fun _ z => z) fun _ _ z => z
  refine tk _ _ ⟨a, B', { s5 with heap := G, gens := s'.gens, drawn := s'.drawn, toks := s'.toks }, pins, σ, H', cls, d, rfl, ?_, fun b o e hb => ?_, fun b o e hnf => ?_, .inr (.inr (hs0 ▸ hh3)), na, os, ag, hE⟩
  · refine I7.call (ch := [C]) ⟨fun b o e n hb hc => gB b o (bK b o (nit hc) (ub.keep b o e n hb)), fun b o e n hb _ => ?_, fun b o e n _ => ub.free b o e n, fun b o e hc => ?_, ub.tups, ub.frzs, ub.tbls⟩ hok' ag fun b hb => ?_
    · obtain ⟨sl, q⟩ := ub.slot b o e hb
      exact ⟨sl, by rw [gF b hb]; exact q⟩
    · by_cases hb : b ∈ frs X.stack
      · obtain ⟨sl, q⟩ := ub.slot b o e hb
        exact ⟨_, by rw [gF b hb]; exact q⟩
      · obtain ⟨o', q⟩ := ub.there b o e hb
        exact ⟨o', gB b o' (bK b o' (nit hc) q)⟩
    · rw [List.mem_singleton.mp hb]
      exact ⟨fC3, fC1, fC4, fC5⟩
  · obtain ⟨e', h⟩ := og b o e
    rcases h with h | h
    · obtain ⟨o', q⟩ := Option.isSome_iff_exists.mp h
      have z := fl.1 b o' (bB b o' q).2
      rw [e'] at z
      cases z
      exact q
    · exact absurd h hb
  · obtain ⟨e', h⟩ := og b o e
    have bC : b ≠ C := by
      rcases h with h | h
      · obtain ⟨o', q⟩ := Option.isSome_iff_exists.mp h
        exact (bB b o' q).1
      · exact fun z => Cst (z ▸ h)
    obtain ⟨sl, q1⟩ := up1 b o e' hnf
    obtain ⟨sl2, q2⟩ := up3 b _ ((sb.2 b bC).trans q1) hnf
    exact ⟨sl2, q2⟩
theorem thnE {α : Type} {t : Sem α} {Q Q' : α → Shared → Prop} {M : Model} {A : Around} {E E' : Value → Shared → Prop} {s : Shared} (hE : ∀ u s', E u s' → E' u s') (h : wpAny M A t Q E s) (hQ : ∀ a s, Q a s → Q' a s) : wpAny M A t Q' E' s := wpAny_mono h hQ hE
/-- a list comprehension whose calls may let an exception out -/
theorem lc_raise {Q : VK} {elt tg iter : Expr} {ifs : List Expr} {scope : Scope} {own : List (Str × Nat)} {pos pos' : Pos} {wi : TI} {g : TG} {tt : TT} {te : TE} {use : Option (Value → Sem Unit)} {Qf : Value → Shared → Prop}
    (hc : X.calm = true) (hN : X.N.Nodup) (hs0 : X.stack = X.env :: X.outer) (hf : X.env.frame = some X.env.locals) (tk : Takes X fun cls d _ H => E cls d H) (I : Inv X pins σ H s) (hi : PI X tg iter wi) (ok : BlkOk X.N X.env.scope scope own)
    (hg : ∀ (s : Shared) (H : Hp) (C : Addr) (cl : List (Str × Addr)) (fp : List Addr), PG (blkE X s H scope (compEnvC scope cl C X.env) fp E) tg g) (ht : ∀ (s : Shared) (H : Hp) (C : Addr) (cl : List (Str × Addr)) (fp : List Addr), PTs (blkE X s H scope (compEnvC scope cl C X.env) fp E) ifs tt)
    (he : ∀ (s : Shared) (H : Hp) (C : Addr) (cl : List (Str × Addr)) (fp : List Addr), PE (blkE X s H scope (compEnvC scope cl C X.env) fp E) elt te) (hs : ∀ x, foldedSetIterable iter X.env x = pure x) (h : tLc wi g tt te (own.map (·.2)) σ H Q)
    (hR : ∀ D s' m H' (ce : Env), Inv X pins σ H' s' → Q (.ref D) H' → s'.heap.Ns ce.locals m → FpOk X pins H' ce.locals → compEnds (model X.prog X.w) X.A X.xe use Qf (.ref D) ce (.ok .next) s') :
    wpAny (model X.prog X.w) X.A (comprehension (.ListComp elt [⟨tg, iter, ifs, 0⟩] scope pos) scope X.env pos' (newList []) false (eval iter X.env) use) Qf X.xe s := by
  refine comprehension_at (use := use) rfl hs (closure_ok fun y hy e => (ok.free y hy e).elim (fun k => I.ok.has _ (.inl k)) fun k => I.ok.has _ (.inr k)) ok.kind (fun y hy e => (ok.uniq y hy).trans (congrArg some e)) (thn (hi.run pins s σ H _ I h) fun xv s1 hx => thn hx fun itv s2 h2 => ?_)
  obtain ⟨it, fp, tn, J, H2, e, I2, T, st2, f2, q⟩ := h2
  subst e
  refine wpAny_newObj_type (newEnv_comp ?_) (by show 0 ≤ sizeLine; decide)
  obtain ⟨D, hD⟩ : ∃ D, D = s2.heap.objs.size := ⟨_, rfl⟩
  rw [← hD]
  obtain ⟨W, ⟨m0, w0⟩, turn⟩ := q D (I2.hok.fresh (Nat.le_of_eq hD.symm))
  obtain ⟨s3, hs3⟩ : ∃ s3 : Shared, s3 = { s2 with heap := s2.heap.push { cls := .type "list", data := .seq ([] : List Value).toArray } } := ⟨_, rfl⟩
  have k3 : ∀ b o, s2.heap.get? b = some o → s3.heap.get? b = some o := fun b o e => by rw [hs3]; exact Heap.get?_push_of_some _ e
  have z3 : s3.heap.objs.size = s2.heap.objs.size + 1 := by rw [hs3]; exact Heap.size_push ..
  have I3 : Inv X pins σ (upd H2 D (.lst [])) s3 := by
    rw [hs3]
    refine I2.laid (t' := s2.toks) (fun b o e => Heap.get?_push_of_some _ e) (Nat.le_of_eq hD.symm) ⟨Nat.zero_le _, [], 0, .nil, ?_⟩
    rw [hD]
    exact Heap.get?_push_size _ rfl
  have below : ∀ b ∈ fp, b < s2.heap.objs.size := fun b hb => by
    obtain ⟨o, e, _⟩ := T.obj _ _ st2 b hb
    exact Heap.lt_size e
  have f3 : ∀ b ∈ fp, FpOk X pins (upd H2 D (.lst [])) b ∧ b < s3.heap.objs.size := fun b hb => by
    have lt := below b hb
    exact ⟨⟨by rw [upd_ne (show b ≠ D by rw [hD]; exact Nat.ne_of_lt lt)]; exact (f2 b hb).1, (f2 b hb).2⟩, by rw [z3]; exact Nat.lt_succ_of_lt lt⟩
  have st3 : tn 0 s3.heap := T.keep _ _ _ st2 fun b _ o e => k3 b o e
  have I4 := block_start I3 ok hN f3
  obtain ⟨ce, hce⟩ : ∃ ce, ce = compEnvC scope (cellsFrom (s3.heap.objs.size + 1) scope.names (cloFrom X.env.cells scope.names [])) s3.heap.objs.size X.env := ⟨_, rfl⟩
  have pg := hg s3 (upd H2 D (.lst [])) s3.heap.objs.size (cellsFrom (s3.heap.objs.size + 1) scope.names (cloFrom X.env.cells scope.names [])) fp
  have pt := ht s3 (upd H2 D (.lst [])) s3.heap.objs.size (cellsFrom (s3.heap.objs.size + 1) scope.names (cloFrom X.env.cells scope.names [])) fp
  have pe := he s3 (upd H2 D (.lst [])) s3.heap.objs.size (cellsFrom (s3.heap.objs.size + 1) scope.names (cloFrom X.env.cells scope.names [])) fp
  rw [← hce] at I4 pg pt pe
  obtain ⟨s4, hs4⟩ : ∃ s4 : Shared, s4 = { s3 with heap := pushCells (s3.heap.push { cls := .type "dict", data := .dict #[] }) scope.names } := ⟨_, rfl⟩
  rw [← hs4] at I4
  suffices sf : codeAny (model X.prog X.w) X.A (.compStart (.ListComp elt [⟨tg, iter, ifs, 0⟩] scope pos) 0 (.ref it) (.ref D) ce) (compEnds (model X.prog X.w) X.A X.xe use Qf (.ref D) ce) s4 by
    rw [hce, hs4, hs3] at sf
    exact sf
  have cL : ce.locals = s3.heap.objs.size := by rw [hce]; rfl
  have cF : ce.frame = X.env.frame := by rw [hce]; rfl
  obtain ⟨H3, hH3⟩ : ∃ H3, H3 = upd H2 D (.lst []) := ⟨_, rfl⟩
  rw [← hH3] at I3 I4 pg pt pe w0 f3
  have n3 : ∀ b ∈ fp, H3 b = none := fun b hb => (f3 b hb).1.1
  have st4 : tn 0 s4.heap := T.keep _ _ _ st3 fun b _ o e => by rw [hs4]; exact pushCells_keeps _ _ _ _ (Heap.get?_push_of_some _ e)
  have noteE : ∀ u s', (blkE X s3 H3 scope ce fp E).xe u s' → notedBy (model X.prog X.w) X.A ce (fun e s'' => compEnds (model X.prog X.w) X.A X.xe use Qf (.ref D) ce (.error e) s'') u s' := fun u s' ⟨p', σ', H5, sB, I5, c⟩ => comp_err tk hs0 hf I3 cL cF f3 I5 c
  have stat : ∀ {σ' : L2.St} {H' : Hp} {s' : Shared}, Inv (X.blk s3 H3 scope ce fp) [] σ' H' s' → (∀ b ∈ fp, H' b = none) → ∀ b ∈ fp, FpOk (X.blk s3 H3 scope ce fp) [] H' b := fun {σ' H' s'} I' hn b hb =>
    ⟨hn b hb, (I'.ok.exf b hb).1, I'.ok.exfs b hb, .inl hb, (I'.ok.exf b hb).2, fun p hp => absurd (show p ∈ ([] : List (Addr × Obj)) ++ [] from hp) (by simp)⟩
  have lp : codeAny (model X.prog X.w) X.A (.compLoop (.ListComp elt [⟨tg, iter, ifs, 0⟩] scope pos) 0 (.ref it) (.ref D) ce) (compEnds (model X.prog X.w) X.A X.xe use Qf (.ref D) ce) s4 := by
    refine compLoop_any (fun n s' => ∃ i H', Inv (X.blk s3 H3 scope ce fp) [] (wipe σ (own.map (·.2))) H' s' ∧ tn i s'.heap ∧ (∀ b ∈ fp, H' b = none) ∧ W i n H') ?_ m0 ⟨0, H3, I4, st4, n3, w0⟩
    rintro n s5 ⟨i, H5, I5, st5, n5, w5⟩
    rcases turn i n H5 w5 with ⟨stop, qq⟩ | ⟨go, Nx, hNx, step⟩
    · refine thnF (T.done (X.blk s3 H3 scope ce fp) rfl rfl rfl hc i [] s5 _ H5 (fun _ _ => False) I5 (stat I5 n5) st5 stop) fun r s6 hr => ?_
      obtain ⟨rfl, I6⟩ := hr
      obtain ⟨m, hn, _⟩ := I6.loc
      have nC : H5 ce.locals = none := I6.free
      exact hR D s6 m H5 ce (I3.call' (ch := fp) I6.os I6.base I6.hok I6.bare fun b hb => let z := (f3 b hb).1.2; ⟨z.2.2.1, z.1, z.2.2.2.1, z.2.2.2.2⟩) qq hn (I3.fpOk (by rw [cL]; exact Nat.le_refl _) nC)
    · refine thnF (T.item (X.blk s3 H3 scope ce fp) rfl rfl rfl hc i [] s5 _ H5 (fun _ _ => False) I5 (stat I5 n5) st5 go) fun r s6 hr => ?_
      obtain ⟨u, rfl, h6⟩ := hr
      refine thnF h6 fun _ s7 h7 => ?_
      obtain ⟨x, H7, I7, r7, y7, st7, n7⟩ := h7
      have J7 := inv_xe (xe := (blkE X s3 H3 scope ce fp E).xe) (I7.pinned (stat I7 n7) (T.obj _ _ st7))
      refine thnE noteE (pg.run _ s7 _ H7 x u _ J7 r7 (step x H7 y7)) fun _ s8 ⟨σ8, H8, I8, hw8, q8⟩ => ?_
      refine thnE noteE (pt.run _ s8 σ8 H8 _ I8 q8) fun b s9 ⟨H9, I9, q9⟩ => ?_
      have fin : ∀ {s' : Shared} {H' : Hp}, Inv (X.blk s3 H3 scope ce fp) ([] ++ pinsAt fp s7.heap) σ8 H' s' → Nx H' → ∃ m, m < n ∧ ∃ i H', Inv (X.blk s3 H3 scope ce fp) [] (wipe σ (own.map (·.2))) H' s' ∧ tn i s'.heap ∧ (∀ b ∈ fp, H' b = none) ∧ W i m H' := fun {s' H'} I' nx => by
        obtain ⟨m', hm, w'⟩ := hNx H' nx
        have held : ∀ b ∈ fp, ∀ o, s7.heap.get? b = some o → s'.heap.get? b = some o ∧ H' b = none := fun b hb o e => by
          have z := I'.pin (b, o) (List.mem_append_right _ (List.mem_append_right _ (mem_pinsAt hb e)))
          exact ⟨z.1, z.2.1⟩
        refine ⟨m', hm, i + 1, H', (I'.unpinned (pins := [])).weak (by rw [← hw8, wipe_length]) (fun j v e => (wipe_some (hw8 ▸ e)).1), T.keep _ _ _ st7 fun b hb o e => (held b hb o e).1, fun b hb => ?_, w'⟩
        obtain ⟨o, e, _⟩ := T.obj _ _ st7 b hb
        exact (held b hb o e).2
      cases b with
      | false =>
        simp only [Bool.false_eq_true, if_false] at q9 ⊢
        exact fin (inv_ex I9) q9
      | true =>
        simp only [if_true] at q9 ⊢
        refine thnE noteE (pe.run _ s9 σ8 H9 _ I9 q9) fun z s10 ⟨yv, H10, I10, r10, acc, hD10, hz10, nx⟩ => ?_
        exact app_ok (X := X.blk s3 H3 scope ce fp) (inv_ex I10) hD10 hz10 r10 fun s11 I11 => fin I11 nx
  exact codeAny_compStart_list lp (T.self X.A 0 _ _ _ st4 lp)
/-- as a value -/
theorem pe_lcX {elt tg iter : Expr} {ifs : List Expr} {scope : Scope} {own : List (Str × Nat)} {pos : Pos} {wi : TI} {g : TG} {tt : TT} {te : TE} (hc : X.calm = true) (hs0 : X.stack = X.env :: X.outer) (hf : X.env.frame = some X.env.locals) (tk : Takes X fun cls d _ H => E cls d H) (hN : X.N.Nodup) (hi : PI X tg iter wi) (ok : BlkOk X.N X.env.scope scope own)
    (hg : ∀ (s : Shared) (H : Hp) (C : Addr) (cl : List (Str × Addr)) (fp : List Addr), PG (blkE X s H scope (compEnvC scope cl C X.env) fp E) tg g) (ht : ∀ (s : Shared) (H : Hp) (C : Addr) (cl : List (Str × Addr)) (fp : List Addr), PTs (blkE X s H scope (compEnvC scope cl C X.env) fp E) ifs tt)
    (he : ∀ (s : Shared) (H : Hp) (C : Addr) (cl : List (Str × Addr)) (fp : List Addr), PE (blkE X s H scope (compEnvC scope cl C X.env) fp E) elt te) (hs : ∀ x, foldedSetIterable iter X.env x = pure x := by intro _; rfl) :
    PE X (.ListComp elt [⟨tg, iter, ifs, 0⟩] scope pos) (tLc wi g tt te (own.map (·.2))) := ⟨fun pins s σ H Q I h => by
  rw [eval_ListComp]
  refine lc_raise hc hN hs0 hf tk I hi ok hg ht he hs h fun D s' m H' ce I' q hn f => ⟨m, hn, fun h'' sb => ?_⟩
  obtain ⟨f0, f1, f2, f3, f4, f5⟩ := f
  exact ⟨.ref D, H', I'.turned (t' := s'.toks) (fun b o hb e => (sb.2 b hb).trans e) f0 f1 f3 f4 f5, rfl, q⟩⟩
end
end Z
namespace Z
open PySem PySem.Spec PyProof.Rows L2 RZ
open Evl (Ex)
/-! ### own times along ways -/
def sqS (l g : Rat) : Rat := l * l - g * g
def ownS (a b : Rat × Rat) : Rat := sqS (b.1 - a.1) (b.2 - a.2)
def lat (a b : Rat × Rat) : Bool := wordS (b.1 - a.1) (b.2 - a.2) == "later"
def hpD (a : Rat × Rat) : Dt := hapD a.1 a.2
def B4 (p : Rat × Rat) : Prop := Bq 400 p.1 ∧ Bq 400 p.2
def pt (ts : List (Rat × Rat)) (k : Nat) : Rat × Rat := ts.getD k (0, 0)
/-! halves -/
def Hf (m : Nat) (t : Rat) : Prop := ∃ a : Int, t = (a : Rat) / ((2 : Int) : Rat) ∧ a.natAbs ≤ m
theorem Hf.mono {m n : Nat} {t : Rat} (h : Hf m t) (e : m ≤ n) : Hf n t := by
  obtain ⟨a, h1, h2⟩ := h
  exact ⟨a, h1, Nat.le_trans h2 e⟩
theorem Hf.sub {m n : Nat} {t u : Rat} (h : Hf m t) (g : Hf n u) : Hf (m + n) (t - u) := by
  obtain ⟨a, rfl, h2⟩ := h
  obtain ⟨b, rfl, g2⟩ := g
  refine ⟨a - b, ?_, by omega⟩
  rw [Rat.intCast_sub]
  grind
/-! the sum of a way's own times, as far as it is told -/
end Z
namespace Z
open PySem PySem.Spec PyProof.Rows L2 RZ
open Evl (Ex)
/-! ### dicts whose keys are tuples -/
/-- an own dict at p -/
def Dk (K : PySem.W.Frag) (p : Addr) (ks : List (List L2.Key)) (ds : List Dt) (G H : Hp) : Prop := G p = none ∧ ∃ vs, H p = some (.dT (ks.zip vs)) ∧ ks.length = vs.length ∧ Rps K G vs ds
theorem Dk.nx {K : PySem.W.Frag} {p : Addr} {ks : List (List L2.Key)} {ds : List Dt} {G H G2 H2 : Hp} (m : Dk K p ks ds G H) (n : Nx G H G2 H2) : Dk K p ks ds G2 H2 := by
  obtain ⟨g, vs, h, l, r⟩ := m
  exact ⟨n.f p g (by rw [h]; intro z; cases z), vs, n.h p _ h, l, r.mono n.g⟩
/-! what is known of others does not rest on a dict -/
end Z
namespace Z
open PySem PySem.Spec PyProof.Rows L2 RZ
open Evl (Ex)
/-! ### plain steps -/
section
variable (ts : List (Rat × Rat))
def ownN (i j : Nat) : Rat := ownS (pt ts i) (pt ts j)
def stepB (i j : Nat) : Bool := !isNon (rootD (ownN ts i j)) && lat (pt ts i) (pt ts j)
def cellsN (i j : Nat) : List (Nat × Nat) := ((List.range j).filter (stepB ts i)).map fun k => (i, k)
end
end Z
namespace Z
open PySem PySem.Spec PyProof.Rows L2 RZ
open Evl (Ex)
/-! ### all ways -/
noncomputable def rt (s : Rat) : Rat := @dite _ (∃ y : Rat, 0 ≤ y ∧ y * y = s) (Classical.propDecidable _) (fun h => h.choose) (fun _ => 0)
section
variable (ts : List (Rat × Rat))
def latN (i j : Nat) : Bool := lat (pt ts i) (pt ts j)
end
end Z
/-! sorted(set(ints)), any number of them -/
namespace L2
open PySem PySem.Spec PyProof.Rows
end L2
/-! min of a list of data, data compared by < -/
namespace L2
open PySem PySem.Spec PyProof.Rows PySem.W
end L2
/-! list(d.values()), d's keys tuples -/
namespace L2
open PySem PySem.Spec PyProof.Rows
end L2
namespace Z
open PySem PySem.Spec PyProof.Rows L2 RZ
/-! ### haps as told from a seat -/
/-- haps that hang together as others do -/
structure Mv (ts ms : List (Rat × Rat)) : Prop where
  len : ms.length = ts.length
  b4 : ∀ q ∈ ms, B4 q
  nd : ms.Nodup
  own : ∀ i j, i < ts.length → j < ts.length → ownN ms i j = ownN ts i j
  lat : ∀ i j, i < ts.length → j < ts.length → latN ms i j = latN ts i j
section
variable {ts ms : List (Rat × Rat)}
theorem Mv.step (h : Mv ts ms) {i j : Nat} (hi : i < ts.length) (hj : j < ts.length) : stepB ms i j = stepB ts i j := by
  have h1 := h.own i j hi hj
  have h2 := h.lat i j hi hj
  unfold latN at h2
  unfold stepB
  rw [h1, h2]
theorem Mv.cells (h : Mv ts ms) {i : Nat} (hi : i < ts.length) : ∀ {j : Nat}, j ≤ ts.length → cellsN ms i j = cellsN ts i j := fun {j} hj => by
  unfold cellsN
  congr 1
  exact List.filter_congr fun k hk => h.step hi (Nat.lt_of_lt_of_le (List.mem_range.mp hk) hj)
end
/-! ### own time along a way is no more than the straight one -/
/-! ### the ways found, step by step -/
end Z
namespace L2
open PySem PySem.Spec PyProof.Rows
theorem rd_mono {G H : Hp} {a : Addr} {u : HO} (e : Evl.Ex G H) (h : Rd G a u) : Rd H a u := by
  rcases h with h | ⟨o, h⟩
  · exact .inl (e _ _ h)
  · exact .inr ⟨o, e _ _ h⟩
theorem DGet.r {H : Hp} {a : Addr} {kvs : List (Key × V)} {k : Key} (e : Rd H a (.dK kvs)) : DGet H a (kV k) (valV kvs k) := .inl ⟨kvs, k, e, rfl, rfl⟩
end L2
namespace Z
open PySem PySem.Spec PyProof.Rows L2 RZ
open Evl (Ex)
/-! ### texts, sign by sign -/
def sgD (s : Str) (k : Nat) : Dt := .str ⟨#[s.cps.getD k 0]⟩
theorem ev_lcS {K : PySem.W.Frag} {sl : List Sl} {te tl : TE} {i : Nat} {s : Str} {es : List Dt} (hes : es.length = s.cps.size) (h : Ev K tl sl (.str s)) (hn : s.cps.size ≤ 90000) (he : ∀ (k : Nat) (e : Dt), k < s.cps.size → es[k]? = some e → Ev K te ((sl.set i .no).set i (.d (sgD s k))) e) : Ev K (tLc (iStr tl) (gName i) tYes te [i]) sl (.lst es) := fun G H σ k fr Q q =>
  h G H σ k fr _ fun v G1 H1 n1 r1 => by
    cases r1
    refine ⟨s, rfl, fun Dl hD => ?_⟩
    have gD : G1 Dl = none := free_of n1.k hD
    refine lc_it (walk_str (z := s)) (fun j H' => ∃ G' vs, Ex G1 G' ∧ Ex H1 H' ∧ Ex G' H' ∧ (∀ c, G1 c = none → H1 c ≠ none → G' c = none) ∧ G' Dl = none ∧ H' Dl = some (.lst vs) ∧ Rps K G' vs (es.take j))
      ⟨G1, [], Ex.refl _, Ex.new hD, n1.k.trans (Ex.new hD), fun _ z _ => z, gD, upd_same, .nil⟩ (fun j H' _ _ => trivial) ?_ ?_
    · rintro j x H' H'' hj ⟨G', vs, e1, e2, e3, e4, e5, e6, e7⟩ ⟨rfl, c, hc, rfl⟩
      have ec : s.cps.getD j 0 = c := by
        rw [Array.getD_eq_getD_getElem?, hc]
        rfl
      refine ⟨?_, ?_⟩
      · show (((σ.set i none)).set i (some _)).set i none = σ.set i none
        rw [List.set_set, List.set_set]
      · have fr1 : FrD K G' ((σ.set i none).set i (some (.str ⟨#[c]⟩))) ((sl.set i .no).set i (.d (sgD s j))) := by
          unfold sgD
          rw [ec]
          exact frd_set (.d (.str _)) i (frd_wipe i (FrD.mono (n1.g.trans e1) fr))
        have hd2 : es[j]? = some es[j] := List.getElem?_eq_getElem (by omega)
        refine he j es[j] hj hd2 G' H'' _ e3 fr1 _ fun u G2 H2 n2 r2 => ?_
        have g2D : G2 Dl = none := n2.f Dl e5 (by rw [e6]; intro z; cases z)
        have hl := e7.length
        refine ⟨vs, n2.h Dl _ e6, Nat.lt_of_lt_of_le (m := 100000) (by rw [hl, List.length_take]; omega) (by decide), G2, vs ++ [u], e1.trans n2.g, Evl.Ex.mut (e2.trans n2.h) hD, Evl.Ex.mut n2.k g2D, fun c c1 c2 => n2.f c (e4 c c1 c2) (ne_none e2 c2), g2D, upd_same, ?_⟩
        have et : es.take (j + 1) = es.take j ++ [es[j]] := by
          rw [List.take_add_one, hd2]
          rfl
        rw [et]
        exact (e7.mono n2.g).snoc r2
    · rintro H' ⟨G', vs, e1, e2, e3, e4, e5, e6, e7⟩
      rw [← hes, List.take_length] at e7
      refine q _ (upd G' Dl (.lst vs)) H' (n1.trans ⟨e1.trans (Ex.new e5), e2, fun b o hb => ?_, fun c c1 c2 => ?_⟩) (.lst (.inl (.inl upd_same)) (e7.mono (Ex.new e5)))
      · by_cases z : b = Dl
        · subst z
          rw [upd_same] at hb
          rw [e6]
          exact hb
        · rw [upd_ne z] at hb
          exact e3 _ _ hb
      · by_cases z : c = Dl
        · subst z
          exact absurd hD c2
        · rw [upd_ne z]
          exact e4 c c1 c2
theorem r2_sgIn {K : PySem.W.Frag} {c : Nat} {z : Str} : R2D K (fun x y H Q => ∃ (c : Nat) (z : Str), x = .str ⟨#[c]⟩ ∧ y = .str z ∧ Q (.bl (decide (c ∈ z.cps.toList))) H) (.str ⟨#[c]⟩) (.str z) (.bl (decide (c ∈ z.cps.toList))) := fun G H k v w r1 r2 Q q => by
  cases r1
  cases r2
  exact ⟨c, z, rfl, rfl, q _ G H (.refl k) (.bl _)⟩
theorem rc_lenS {K : PySem.W.Frag} {z : Str} (h : z.length ≤ 100000) : RcD K (fun xs H Q => ∃ z, xs = [.str z] ∧ z.length ≤ sizeLine ∧ Q (.int z.length) H) [.str z] (.int (z.length : Nat)) := fun G H k vs r Q q => by
  obtain ⟨v, rfl, h1⟩ := rps1 r
  cases h1
  exact ⟨z, rfl, sz_ok h, q _ G H (.refl k) (.int _)⟩
theorem kb_strT (x : Dt) : ∃ b, kitB (tyN x) "str" = some b ∧ (b = true ↔ ∃ s, x = .str s) := by
  cases x with
  | str s => exact ⟨true, (by simp only [tyN]; decide +kernel), by simp⟩
  | _ => exact ⟨false, (by simp only [tyN]; decide +kernel), by simp⟩
abbrev abcS : Str := "abcdefghijklmnopqrstuvwxyz"
def isNm : Dt → Bool
  | .str s => (decide (1 ≤ s.length) && decide (s.length ≤ 8)) && s.cps.toList.all fun c => decide (c ∈ abcS.cps.toList)
  | _ => false
/-! ### classes and their methods -/
structure DdM (K : PySem.W.Frag) (C : Addr) (m q : Str) (st : Stmt) (ps : List Str) : Prop where
  ex : ∃ (f : Addr) (fd : FuncData), Fun K m q st f fd ∧ Meth K C m f ∧ Binds K fd ps []
structure DdI (K : PySem.W.Frag) (C : Addr) (q : Str) (st : Stmt) (ps : List Str) : Prop where
  ex : ∃ (f : Addr) (fd : FuncData), Fun K "__init__" q st f fd ∧ Mk K C f ∧ Binds K fd ps []
structure HasM (P : Program) (w : World) (K : PySem.W.Frag) (mg : Str → Option Value) (base : Heap) (CX : CXT) (k : Nat) (C : Addr) (m : Str) (ps : List Str) (sp : L2.Sp) : Prop where
  ex : ∃ (f : Addr) (fd : FuncData), FnOk P w K mg base CX k f fd ps sp ∧ Meth K C m f ∧ Binds K fd ps []
structure HasI (P : Program) (w : World) (K : PySem.W.Frag) (mg : Str → Option Value) (base : Heap) (CX : CXT) (k : Nat) (C : Addr) (ps : List Str) (sp : L2.Sp) : Prop where
  ex : ∃ (f : Addr) (fd : FuncData), FnOk P w K mg base CX k f fd ps sp ∧ Mk K C f ∧ Binds K fd ps []
section
variable {P : Program} {w : World} {K : PySem.W.Frag} {mg : Str → Option Value} {base : Heap} {m q : Str} {st : Stmt} {N ps : List Str} {k : Nat} {C : Addr}
theorem DdM.any {sp : L2.Sp} {t : TS} (D : DdM K C m q st ps) (S : FnScope N ps (defScope st)) (hl : ∀ vs H Q E, sp vs H Q E → vs.length = ps.length)
    (h1 : ∀ (f : Addr) (cdv : Value) (A : Around) (outer : List Env) (s : Shared) (H : Hp) (E : XK), Room k (A.deeper (envOfC q (defScope st) s.heap.objs.size f cdv)) → PSs (cxOf CX0 P w K mg base N q (defScope st) f cdv A outer s H E).nox (defBody st) t)
    (h2 : ∀ vs H Q E, sp vs H Q E → t { nx := fun _ H' => Q .non H', rt := Q } (L2.start N vs) H) : HasM P w K mg base CX0 (k + 1) C m ps sp := by
  obtain ⟨f, fd, F, hm, b⟩ := D.ex
  exact ⟨f, fd, F.ok S hl (fun cdv A outer s H vs Q E hr h => ⟨t, h1 f cdv A outer s H E hr, h2 vs H Q E h⟩), hm, b⟩
theorem DdI.any {sp : L2.Sp} {t : TS} (D : DdI K C q st ps) (S : FnScope N ps (defScope st)) (hl : ∀ vs H Q E, sp vs H Q E → vs.length = ps.length)
    (h1 : ∀ (f : Addr) (cdv : Value) (A : Around) (outer : List Env) (s : Shared) (H : Hp) (E : XK), Room k (A.deeper (envOfC q (defScope st) s.heap.objs.size f cdv)) → PSs (cxOf CX0 P w K mg base N q (defScope st) f cdv A outer s H E).nox (defBody st) t)
    (h2 : ∀ vs H Q E, sp vs H Q E → t { nx := fun _ H' => Q .non H', rt := Q } (L2.start N vs) H) : HasI P w K mg base CX0 (k + 1) C ps sp := by
  obtain ⟨f, fd, F, hm, b⟩ := D.ex
  exact ⟨f, fd, F.ok S hl (fun cdv A outer s H vs Q E hr h => ⟨t, h1 f cdv A outer s H E hr, h2 vs H Q E h⟩), hm, b⟩
end
/-! ### what a bench holds -/
abbrev Hps := List (Str × (Rat × Rat))
structure Bst where
  haps : Hps
  speed : Rat
  past : List (Hps × Rat)
section
variable (K : PySem.W.Frag)
def KvR (G : Hp) (q : Str × (Rat × Rat)) (p : Key × V) : Prop := p.1 = .inr q.1 ∧ Rp K G p.2 (hpD q.2)
def DicAt (G : Hp) (a : Addr) (hs : Hps) : Prop := ∃ kvs : List (Key × V), G a = some (.dK kvs) ∧ Paired (KvR K G) hs kvs
def PstR (G : Hp) (e : Hps × Rat) (v : V) : Prop := ∃ q a s, v = .ref q ∧ SqX K G q [.ref a, s] ∧ DicAt K G a e.1 ∧ Rp K G s (fq e.2)
def flds (a : Addr) (s : V) (p : Addr) : List (Str × V) := putF "_past" (.ref p) (putF "_speed" s (putF "_haps" (.ref a) []))
structure BnAt (C x p : Addr) (G H : Hp) (b : Bst) : Prop where
  ex : ∃ dx a s pv, H x = some (.ins C dx (flds a s p)) ∧ DicAt K G a b.haps ∧ Rp K G s (fq b.speed) ∧ H p = some (.lst pv) ∧ Paired (PstR K G) b.past pv
  gx : G x = none
  gp : G p = none
end
section
variable {K : PySem.W.Frag} {C x p : Addr} {G H G2 H2 : Hp} {b : Bst}
theorem DicAt.mono {a : Addr} {hs : Hps} (e : Ex G G2) (h : DicAt K G a hs) : DicAt K G2 a hs := by
  obtain ⟨kvs, h1, h2⟩ := h
  exact ⟨kvs, e _ _ h1, L2.Paired.mapP h2 fun _ _ ⟨r1, r2⟩ => ⟨r1, r2.mono e⟩⟩
theorem PstR.mono {q : Hps × Rat} {v : V} (e : Ex G G2) (h : PstR K G q v) : PstR K G2 q v := by
  obtain ⟨q, a, s, h1, h2, h3, h4⟩ := h
  exact ⟨q, a, s, h1, h2.mono e, h3.mono e, h4.mono e⟩
theorem BnAt.ne (h : BnAt K C x p G H b) : x ≠ p := by
  obtain ⟨dx, a, s, pv, h1, _, _, h2, _⟩ := h.ex
  exact ne_of h1 h2 (by intro z; cases z)
/-- what does not touch it leaves it as it was -/
theorem BnAt.nxP {us : List Addr} (h : BnAt K C x p G H b) (n : NxP us G H G2 H2) (hx : x ∉ us) (hp : p ∉ us) : BnAt K C x p G2 H2 b := by
  obtain ⟨dx, a, s, pv, h1, h2, h3, h4, h5⟩ := h.ex
  refine ⟨⟨dx, a, s, pv, n.h _ _ hx h1, h2.mono n.g, h3.mono n.g, n.h _ _ hp h4, L2.Paired.mapP h5 fun _ _ r => PstR.mono n.g r⟩, n.f _ h.gx (by rw [h1]; intro z; cases z), n.f _ h.gp (by rw [h4]; intro z; cases z)⟩
theorem BnAt.nx (h : BnAt K C x p G H b) (n : Nx G H G2 H2) : BnAt K C x p G2 H2 b := h.nxP (us := []) n.p (by simp) (by simp)
end
/-! ### a bench that is asked: its dict may be locked -/
def DicR (K : PySem.W.Frag) (G : Hp) (a : Addr) (hs : Hps) : Prop := ∃ kvs : List (Key × V), Rd G a (.dK kvs) ∧ Paired (KvR K G) hs kvs
structure BnR (K : PySem.W.Frag) (C x : Addr) (G H : Hp) (b : Bst) : Prop where
  ex : ∃ dx a s p, H x = some (.ins C dx (flds a s p)) ∧ DicR K G a b.haps ∧ Rp K G s (fq b.speed)
  gx : G x = none
section
variable {K : PySem.W.Frag} {C x p : Addr} {G H G2 H2 : Hp} {b : Bst}
theorem DicAt.r {a : Addr} {hs : Hps} (h : DicAt K G a hs) : DicR K G a hs := by
  obtain ⟨kvs, h1, h2⟩ := h
  exact ⟨kvs, .inl h1, h2⟩
theorem DicR.mono {a : Addr} {hs : Hps} (e : Ex G G2) (h : DicR K G a hs) : DicR K G2 a hs := by
  obtain ⟨kvs, h1, h2⟩ := h
  exact ⟨kvs, rd_mono e h1, L2.Paired.mapP h2 fun _ _ ⟨r1, r2⟩ => ⟨r1, r2.mono e⟩⟩
theorem BnAt.r (h : BnAt K C x p G H b) : BnR K C x G H b := by
  obtain ⟨dx, a, s, pv, h1, h2, h3, _⟩ := h.ex
  exact ⟨⟨dx, a, s, p, h1, h2.r, h3⟩, h.gx⟩
theorem BnR.nxP {us : List Addr} (h : BnR K C x G H b) (n : NxP us G H G2 H2) (hx : x ∉ us) : BnR K C x G2 H2 b := by
  obtain ⟨dx, a, s, p, h1, h2, h3⟩ := h.ex
  exact ⟨⟨dx, a, s, p, n.h _ _ hx h1, h2.mono n.g, h3.mono n.g⟩, n.f _ h.gx (by rw [h1]; intro z; cases z)⟩
theorem BnR.nx (h : BnR K C x G H b) (n : Nx G H G2 H2) : BnR K C x G2 H2 b := h.nxP (us := []) n.p (by simp)
end
/-! ### expressions, where a world S of things that may change stands -/
/-! ### promises of methods -/
section
variable {K : PySem.W.Frag} {C x p : Addr} {G H G2 H2 : Hp} {b b' : Bst} {S : Hp → Hp → Prop} {sl : List Sl} {te : TE} {tr : TA} {xs : List Dt} {d : Dt} {E : XK} {i : Nat} {m : Str}
theorem paired_snoc {α β : Type} {F : α → β → Prop} : ∀ {l : List α} {r : List β} {a : α} {c : β}, Paired F l r → F a c → Paired F (l ++ [a]) (r ++ [c])
  | _, _, _, _, .nil, h => .cons h .nil
  | _, _, _, _, .cons h t, g => .cons h (paired_snoc t g)
/-- one deed more: the past grown, other haps, another speed -/
theorem BnAt.step (h : BnAt K C x p G H b) (k : Ex G H) {a : Addr} {hs : Hps} {s : V} {q : Rat} {dx a0 : Addr} {s0 : V} {pv : List V} (h1 : H x = some (.ins C dx (flds a0 s0 p))) (h2 : DicAt K G a0 b.haps) (h3 : Rp K G s0 (fq b.speed)) (h4 : H p = some (.lst pv)) (h5 : Paired (PstR K G) b.past pv)
    (ha : DicAt K G a hs) (hs' : Rp K G s (fq q)) {t : Addr} {o : Obj} (ht : H t = none) (ho : o.dict = none) :
    NxP [x, p] G H (upd G t (.frz o (.tup [.ref a0, s0]))) (upd (upd (upd H t (.frz o (.tup [.ref a0, s0]))) p (.lst (pv ++ [.ref t]))) x (.ins C dx (flds a s p))) ∧
    BnAt K C x p (upd G t (.frz o (.tup [.ref a0, s0]))) (upd (upd (upd H t (.frz o (.tup [.ref a0, s0]))) p (.lst (pv ++ [.ref t]))) x (.ins C dx (flds a s p))) ⟨hs, q, b.past ++ [(b.haps, b.speed)]⟩ := by
  have nxp := h.ne
  have ntx : x ≠ t := ne_of_none h1 ht
  have ntp : p ≠ t := ne_of_none h4 ht
  have gt : G t = none := free_of k ht
  have eg : Ex G (upd G t (.frz o (.tup [.ref a0, s0]))) := Ex.new gt
  refine ⟨⟨eg, fun c u e => ?_, fun c u hc e => ?_, fun c hc => ?_, fun c h1' h2' => ?_⟩, ⟨⟨dx, a, s, pv ++ [.ref t], upd_same, ha.mono eg, hs'.mono eg, by rw [upd_ne nxp.symm, upd_same], ?_⟩, ?_, ?_⟩⟩
  · by_cases z : c = t
    · subst z
      rw [upd_same] at e
      rw [upd_ne (Ne.symm ntx), upd_ne (Ne.symm ntp), upd_same]
      exact e
    · rw [upd_ne z] at e
      have cx : c ≠ x := fun y => by rw [y, h.gx] at e; cases e
      have cp : c ≠ p := fun y => by rw [y, h.gp] at e; cases e
      rw [upd_ne cx, upd_ne cp, upd_ne z]
      exact k _ _ e
  · have hc1 : c ≠ x := fun y => hc (by simp [y])
    have hc2 : c ≠ p := fun y => hc (by simp [y])
    rw [upd_ne hc1, upd_ne hc2, upd_ne (ne_of_none e ht)]
    exact e
  · by_cases z1 : c = x
    · rw [z1, upd_same]; intro z; cases z
    · rw [upd_ne z1]
      by_cases z2 : c = p
      · rw [z2, upd_same]; intro z; cases z
      · rw [upd_ne z2]
        by_cases z3 : c = t
        · rw [z3, upd_same]; intro z; cases z
        · rw [upd_ne z3]
          exact hc
  · by_cases z : c = t
    · rw [z] at h2'
      exact absurd ht h2'
    · rw [upd_ne z]
      exact h1'
  · refine paired_snoc (L2.Paired.mapP h5 fun _ _ r => PstR.mono eg r) ⟨t, a0, s0, rfl, sqx_new ho, h2.mono eg, h3.mono eg⟩
  · rw [upd_ne ntx]
    exact h.gx
  · rw [upd_ne ntp]
    exact h.gp
end
/-! ### statements, where a world stands: from S to S2, what is at us may be written -/
/-! ### a dict of haps -/
def getH (hs : Hps) (n : Str) : Option (Rat × Rat) := (hs.find? fun q => decide (q.1 = n)).map (·.2)
def putH (hs : Hps) (n : Str) (q : Rat × Rat) : Hps := if (hs.any fun e => decide (e.1 = n)) = true then hs.map (fun e => if e.1 = n then (e.1, q) else e) else hs ++ [(n, q)]
/-! ### defs that may raise, where a world stands -/
/-! ### a bench made, used and forgotten -/
/-! ### what goes with a speed, told from a seat; clocks -/
end Z
namespace L2
open PySem PySem.Spec PyProof.Rows
/-! ### o.f among the targets -/
/-! ### list == [] -/
end L2
namespace Z
open PySem PySem.Spec PyProof.Rows L2 RZ
open Evl (Ex)
/-! ### texts in order -/
def leS (a b : Str) : Bool := !ltCps b.cps.toList a.cps.toList
def srtN (l : List Str) : List Str := l.mergeSort leS
theorem srtN_len (l : List Str) : (srtN l).length = l.length := List.length_mergeSort ..
/-! ### benches: a deed undone, a name dropped, the names -/
/-! ### what raises within an expression -/
section
variable {K : PySem.W.Frag} {S S2 : Hp → Hp → Prop} {us : List Addr} {sl : List Sl} {C x p : Addr} {b : Bst} {i : Nat} {m : Str} {tr : TA} {xs : List Dt} {c : Value} {d : Dt} {te : XK → TE} {ta : XK → TA} {u : XK → TS} {y : Option Dt}
theorem rps_strs {G : Hp} (l : List Str) : Rps K G (l.map V.str) (l.map Dt.str) := by
  induction l with
  | nil => exact .nil
  | cons a l ih => exact .cons (.str _) ih
end
end Z
namespace Z
open PySem PySem.Spec PyProof.Rows L2 RZ
open Evl (Ex)
/-! ### hands back, where a world stands -/
/-! ### a law's own books: a dict of the haps, the speed, the past -/
def stD (a : Addr) (s : V) (p : Addr) : List (Key × V) := [(.inr ("haps" : Str), .ref a), (.inr ("speed" : Str), s), (.inr ("past" : Str), .ref p)]
structure SoAt (K : PySem.W.Frag) (y p : Addr) (G H : Hp) (b : Bst) : Prop where
  ex : ∃ a s pv, H y = some (.dK (stD a s p)) ∧ DicAt K G a b.haps ∧ Rp K G s (fq b.speed) ∧ H p = some (.lst pv) ∧ Paired (PstR K G) b.past pv
  gy : G y = none
  gp : G p = none
section
variable {K : PySem.W.Frag} {y p : Addr} {G H G2 H2 : Hp} {b : Bst}
theorem SoAt.ne (h : SoAt K y p G H b) : y ≠ p := by
  obtain ⟨a, s, pv, h1, _, _, h2, _⟩ := h.ex
  exact ne_of h1 h2 (by intro z; cases z)
theorem SoAt.nxP {us : List Addr} (h : SoAt K y p G H b) (n : NxP us G H G2 H2) (hy : y ∉ us) (hp : p ∉ us) : SoAt K y p G2 H2 b := by
  obtain ⟨a, s, pv, h1, h2, h3, h4, h5⟩ := h.ex
  exact ⟨⟨a, s, pv, n.h _ _ hy h1, h2.mono n.g, h3.mono n.g, n.h _ _ hp h4, L2.Paired.mapP h5 fun _ _ r => PstR.mono n.g r⟩, n.f _ h.gy (by rw [h1]; intro z; cases z), n.f _ h.gp (by rw [h4]; intro z; cases z)⟩
theorem SoAt.nx (h : SoAt K y p G H b) (n : Nx G H G2 H2) : SoAt K y p G2 H2 b := h.nxP (us := []) n.p (by simp) (by simp)
end
/-- books that are asked: their dict may be locked -/
structure SoR (K : PySem.W.Frag) (y : Addr) (G H : Hp) (b : Bst) : Prop where
  ex : ∃ a s p pv, H y = some (.dK (stD a s p)) ∧ DicR K G a b.haps ∧ Rp K G s (fq b.speed) ∧ H p = some (.lst pv) ∧ pv.length = b.past.length ∧ G p = none
  gy : G y = none
theorem SoAt.r {K : PySem.W.Frag} {y p : Addr} {G H : Hp} {b : Bst} (h : SoAt K y p G H b) : SoR K y G H b := by
  obtain ⟨a, s, pv, h1, h2, h3, h4, h5⟩ := h.ex
  exact ⟨⟨a, s, p, pv, h1, h2.r, h3, h4, (Paired.length h5).symm, h.gp⟩, h.gy⟩
theorem SoR.nx {K : PySem.W.Frag} {y : Addr} {G H G2 H2 : Hp} {b : Bst} (h : SoR K y G H b) (n : Nx G H G2 H2) : SoR K y G2 H2 b := by
  obtain ⟨a, s, p, pv, h1, h2, h3, h4, h5, h6⟩ := h.ex
  exact ⟨⟨a, s, p, pv, n.h _ _ h1, h2.mono n.g, h3.mono n.g, n.h _ _ h4, h5, n.f _ h6 (by rw [h4]; intro z; cases z)⟩, n.f _ h.gy (by rw [h1]; intro z; cases z)⟩
/-! ### deeds, and how they are refused -/
inductive Deed
  | put (x y : Dt)
  | drop (x : Dt)
  | turn (x : Dt)
  | push (x : Dt)
  | undo
def Deed.w : Deed → Str
  | .put .. => "put"
  | .drop .. => "drop"
  | .turn .. => "turn"
  | .push .. => "push"
  | .undo => "undo"
def Deed.t : Deed → List Dt
  | .put x y => [x, y]
  | .drop x => [x]
  | .turn x => [x]
  | .push x => [x]
  | .undo => []
/-! ### calls where the books stand -/
end Z
namespace Z
open PySem PySem.Spec PyProof.Rows L2 RZ
open Evl (Ex)
/-! ### what holds of the haps of a bench that was told drawn deeds -/
def HapsI (hs : Hps) : Prop := ∀ e ∈ hs, isNm (.str e.1) = true ∧ e.1.length ≤ 90000 ∧ e.1 ≠ "q" ∧ Bq 90 e.2.1 ∧ Bq 4 e.2.2
theorem hapsI_put {hs : Hps} {n : Str} {q : Rat × Rat} (h : HapsI hs) (hn : isNm (.str n) = true ∧ n.length ≤ 90000 ∧ n ≠ "q" ∧ Bq 90 q.1 ∧ Bq 4 q.2) : HapsI (putH hs n q) := fun e he => by
  unfold putH at he
  split at he
  · obtain ⟨e0, h0, rfl⟩ := List.mem_map.mp he
    split
    · rename_i z
      show isNm (.str e0.1) = true ∧ _
      rw [z]
      exact hn
    · exact h e0 h0
  · rcases List.mem_append.mp he with he | he
    · exact h e he
    · rw [List.mem_singleton.mp he]
      exact hn
/-! ### pots beside a world -/
end Z
namespace Z
open PySem PySem.Spec PyProof.Rows L2 RZ
open Evl (Ex)
/-! ### for sign in a text, where a world goes on -/
/-! ### a deed told a drawn hap -/
/-! ### a bench made, used and forgotten, a pot beside it -/
/-! ### haps put, got -/
theorem keys_new {hs : Hps} {n : Str} {q : Rat × Rat} (h : n ∉ hs.map (·.1)) : (putH hs n q).map (·.1) = hs.map (·.1) ++ [n] := by
  unfold putH
  rw [if_neg (fun z => by
    obtain ⟨e, he, z⟩ := List.any_eq_true.mp z
    exact h (List.mem_map.mpr ⟨e, he, of_decide_eq_true z⟩)), List.map_append]
  rfl
end Z
namespace Z
open PySem PySem.Spec PyProof.Rows L2 RZ
open Evl (Ex)
/-! ### expressions that change the world -/
def letK (k : Nat) : Str := ⟨#[("bcdefghijklm" : Str).cps.getD k 0]⟩
theorem let_ok : ∀ k, k < 12 → isNm (.str (letK k)) = true ∧ letK k ≠ "q" ∧ letK k ≠ "a" ∧ ∀ j, j < k → letK j ≠ letK k := by decide +kernel
structure PK (k : Nat) (b : Bst) : Prop where
  keys : b.haps.map (·.1) = (List.range k).map letK
  hi : HapsI b.haps
  sp : b.speed = 0
  pa : b.past.length = k
theorem PK.len {k : Nat} {b : Bst} (h : PK k b) : b.haps.length = k := by
  have := congrArg List.length h.keys
  rwa [List.length_map, List.length_map, List.length_range] at this
theorem PK.put {k : Nat} {b : Bst} {q : Rat × Rat} (h : PK k b) (hk : k < 12) (b1 : Bq 90 q.1) (b2 : Bq 4 q.2) : PK (k + 1) ⟨putH b.haps (letK k) q, b.speed, b.past ++ [(b.haps, b.speed)]⟩ := by
  obtain ⟨l1, l2, _, l3⟩ := let_ok k hk
  refine ⟨?_, hapsI_put h.hi ⟨l1, by show 1 ≤ 90000; decide, l2, b1, b2⟩, h.sp, by rw [List.length_append, h.pa]; rfl⟩
  show (putH b.haps (letK k) q).map (·.1) = _
  rw [keys_new (fun z => ?_), h.keys, List.range_succ, List.map_append]
  · rfl
  · rw [h.keys] at z
    obtain ⟨j, hj, e⟩ := List.mem_map.mp z
    exact l3 j (List.mem_range.mp hj) e
def tsB (b : Bst) : List (Rat × Rat) := (srtN (b.haps.map (·.1))).map fun n => (getH b.haps n).getD (0, 0)
end Z
namespace Z
open PySem PySem.Spec PyProof.Rows L2 RZ
open Evl (Ex)
/-! ### what holds of a bench that was told so many drawn deeds -/
structure HS (k : Nat) (hs : Hps) (s : Rat) : Prop where
  hi : HapsI hs
  le : hs.length ≤ 12
  sp : Sp s
  q : Bq (68 * (k + 1)) s
structure PI (k : Nat) (b : Bst) : Prop where
  now : HS k b.haps b.speed
  pa : ∀ e ∈ b.past, HS k e.1 e.2
  le : b.past.length ≤ k
end Z
namespace Z
open PySem PySem.Spec PyProof.Rows L2 RZ
open Evl (Ex)
/-! ### wider speeds -/
/-! ### what is worth a raw value -/
/-! ### a bench's answers that are lists made anew -/
/-! ### a bench's order -/
theorem tsB_len (b : Bst) : (tsB b).length = b.haps.length := by
  unfold tsB
  rw [List.length_map, srtN_len, List.length_map]
/-- sizes of a bench -/
structure UbB (b : Bst) : Prop where
  hi : HapsI b.haps
  le : b.haps.length ≤ 12
  sp : Sp b.speed
  pl : ∃ w, Pl b.speed w
  q : Bq 1800 b.speed
end Z
namespace Z
open PySem PySem.Spec PyProof.Rows L2 RZ
open Evl (Ex)
theorem UbB.tl {b : Bst} (h : UbB b) : (tsB b).length ≤ 12 := by rw [tsB_len]; exact h.le
/-! ### names are such texts as can be compared -/
/-! ### a turn that looks at new answers, then writes to them -/
/-! ### a def that holds a bench against a law's books -/
end Z
namespace Z
open PySem PySem.Spec PyProof.Rows L2 RZ
open Evl (Ex)
/-! ### two benches and the books of both, in lists -/
structure W4 (K : PySem.W.Frag) (C l m x1 p1 x2 p2 y1 q1 y2 q2 : Addr) (b1 b2 c1 c2 : Bst) (G H : Hp) : Prop where
  a1 : BnAt K C x1 p1 G H b1
  a2 : BnAt K C x2 p2 G H b2
  s1 : SoAt K y1 q1 G H c1
  s2 : SoAt K y2 q2 G H c2
  gl : G l = some (.lst [.ref x1, .ref x2])
  gm : G m = some (.lst [.ref y1, .ref y2])
section
variable {K : PySem.W.Frag} {C l m x1 p1 x2 p2 y1 q1 y2 q2 pot : Addr} {b b1 b2 c c1 c2 : Bst} {G H G2 H2 : Hp} {us : List Addr} {T : Hp → Hp → Prop} {sl : List Sl} {E : XK} {rr : TS}
theorem W4.nxP (h : W4 K C l m x1 p1 x2 p2 y1 q1 y2 q2 b1 b2 c1 c2 G H) (n : NxP us G H G2 H2) (hn : ∀ a ∈ us, a ∉ [y1, q1, y2, q2, x1, p1, x2, p2]) : W4 K C l m x1 p1 x2 p2 y1 q1 y2 q2 b1 b2 c1 c2 G2 H2 := by
  have o : ∀ a, a ∈ [y1, q1, y2, q2, x1, p1, x2, p2] → a ∉ us := fun a ha hu => hn a hu ha
  exact ⟨h.a1.nxP n (o _ (by simp)) (o _ (by simp)), h.a2.nxP n (o _ (by simp)) (o _ (by simp)), h.s1.nxP n (o _ (by simp)) (o _ (by simp)), h.s2.nxP n (o _ (by simp)) (o _ (by simp)), n.g _ _ h.gl, n.g _ _ h.gm⟩
theorem W4.nx (h : W4 K C l m x1 p1 x2 p2 y1 q1 y2 q2 b1 b2 c1 c2 G H) (n : Nx G H G2 H2) : W4 K C l m x1 p1 x2 p2 y1 q1 y2 q2 b1 b2 c1 c2 G2 H2 := h.nxP (us := []) n.p (fun a ha => by cases ha)
end
end Z
namespace Z
open PySem PySem.Spec PyProof.Rows L2 RZ
open PySem.NumText TL
/-! ### whole numbers, fractions, haps, lines of haps: their signs -/
def numI (n : Int) : List Nat := if n < 0 then 45 :: numL n.natAbs else numL n.natAbs
theorem numI_neg {n : Int} (h : n < 0) : numI n = 45 :: numL n.natAbs := if_pos h
theorem numI_pos {n : Int} (h : 0 ≤ n) : numI n = numL n.natAbs := if_neg (by omega)
theorem numI_nat (n : Nat) : numI (n : Int) = numL n := by rw [numI_pos (by omega), Int.natAbs_natCast]
theorem numL_45 (n : Nat) : (45 : Nat) ∉ numL n := numL_free (.inl (by decide))
theorem numI_no {n : Int} {s : Nat} (h : s < 48 ∨ 57 < s) (h2 : s ≠ 45) : s ∉ numI n := by
  unfold numI
  split
  · intro m
    rcases List.mem_cons.mp m with m | m
    · exact h2 m
    · exact numL_free h m
  · exact numL_free h
theorem numI_inj {m n : Int} (h : numI m = numI n) : m = n := by
  unfold numI at h
  split at h <;> split at h
  · have := numL_inj (List.cons.inj h).2
    omega
  · exact absurd (h ▸ List.mem_cons_self) (numL_45 n.natAbs)
  · exact absurd (h.symm ▸ List.mem_cons_self) (numL_45 m.natAbs)
  · have := numL_inj h
    omega
theorem numI_ne (n : Int) : numI n ≠ [] := by
  unfold numI
  split
  · exact List.cons_ne_nil _ _
  · exact numL_ne _
def partsF (q : Rat) : List (List Nat) := if q.den = 1 then [numI q.num] else [numI q.num, numL q.den]
def fracL (q : Rat) : List Nat := joinL [47] (partsF q)
theorem partsF_no (q : Rat) {s : Nat} (h : s < 48 ∨ 57 < s) (h2 : s ≠ 45) : ∀ p ∈ partsF q, s ∉ p := fun p hp => by
  unfold partsF at hp
  split at hp
  · rw [List.mem_singleton.mp hp]
    exact numI_no h h2
  · rcases List.mem_cons.mp hp with rfl | hp
    · exact numI_no h h2
    · rw [List.mem_singleton.mp hp]
      exact numL_free h
theorem partsF_ne (q : Rat) : partsF q ≠ [] := by
  unfold partsF
  split <;> exact List.cons_ne_nil _ _
theorem spl_frac (q : Rat) : spl [47] 0 [] (fracL q) = partsF q := spl_join (partsF_ne q) (partsF_no q (.inl (by decide)) (by decide))
theorem partsF_inj {p q : Rat} (h : partsF p = partsF q) : p = q := by
  unfold partsF at h
  split at h <;> split at h
  · rename_i h1 h2
    have e := numI_inj (List.cons.inj h).1
    exact Rat.ext e (by omega)
  · cases (List.cons.inj h).2
  · cases (List.cons.inj h).2
  · have e := numI_inj (List.cons.inj h).1
    have e2 := numL_inj (List.cons.inj (List.cons.inj h).2).1
    exact Rat.ext e e2
theorem fracL_inj {p q : Rat} (h : fracL p = fracL q) : p = q := partsF_inj (by rw [← spl_frac, ← spl_frac, h])
theorem join_no {s : Nat} {S : List Nat} (hS : s ∉ S) : ∀ {parts : List (List Nat)}, (∀ p ∈ parts, s ∉ p) → s ∉ joinL S parts
  | [], _ => by simp [joinL]
  | [p], h => h p List.mem_cons_self
  | p :: r :: l, h => by
    show s ∉ p ++ (S ++ joinL S (r :: l))
    simp only [List.mem_append, not_or]
    exact ⟨h p List.mem_cons_self, hS, join_no hS fun x hx => h x (List.mem_cons_of_mem _ hx)⟩
theorem fracL_no (q : Rat) {s : Nat} (h : s < 47 ∨ 57 < s) (h2 : s ≠ 45) : s ∉ fracL q := join_no (by simp; omega) (partsF_no q (by omega) h2)
theorem fracL_den1 {q : Rat} (h : q.den = 1) : fracL q = numI q.num := by
  unfold fracL partsF
  rw [if_pos h]
  rfl
theorem fracL_den {q : Rat} (h : q.den ≠ 1) : fracL q = numI q.num ++ 47 :: numL q.den := by
  unfold fracL partsF
  rw [if_neg h]
  rfl
def hapL (p : Rat × Rat) : List Nat := joinL [64] [fracL p.1, fracL p.2]
theorem hapL_is (p : Rat × Rat) : hapL p = fracL p.1 ++ 64 :: fracL p.2 := rfl
theorem spl_hap (p : Rat × Rat) : spl [64] 0 [] (hapL p) = [fracL p.1, fracL p.2] := spl_join (by simp) fun x hx => by
  simp only [List.mem_cons, List.not_mem_nil, or_false] at hx
  rcases hx with rfl | rfl <;> exact fracL_no _ (.inr (by decide)) (by decide)
theorem hapL_inj {p q : Rat × Rat} (h : hapL p = hapL q) : p = q := by
  have e := spl_hap p
  rw [h, spl_hap q] at e
  have e1 := (List.cons.inj e).1
  have e2 := (List.cons.inj (List.cons.inj e).2).1
  exact Prod.ext (fracL_inj e1.symm) (fracL_inj e2.symm)
theorem hapL_no (p : Rat × Rat) : (32 : Nat) ∉ hapL p := join_no (by decide) fun x hx => by
  simp only [List.mem_cons, List.not_mem_nil, or_false] at hx
  rcases hx with rfl | rfl <;> exact fracL_no _ (.inl (by decide)) (by decide)
def lineL (ps : List (Rat × Rat)) : List Nat := joinL [32] (ps.map hapL)
theorem spl_line {ps : List (Rat × Rat)} (h : ps ≠ []) : spl [32] 0 [] (lineL ps) = ps.map hapL := spl_join (by simpa using h) fun x hx => by
  obtain ⟨p, _, rfl⟩ := List.mem_map.mp hx
  exact hapL_no p
theorem haps_inj : ∀ {ps qs : List (Rat × Rat)}, ps.map hapL = qs.map hapL → ps = qs
  | [], [], _ => rfl
  | [], _ :: _, h => by cases h
  | _ :: _, [], h => by cases h
  | p :: ps, q :: qs, h => by
    rw [List.map_cons, List.map_cons] at h
    rw [hapL_inj (List.cons.inj h).1, haps_inj (List.cons.inj h).2]
theorem lineL_inj {ps qs : List (Rat × Rat)} (hp : ps ≠ []) (hq : qs ≠ []) (h : lineL ps = lineL qs) : ps = qs := haps_inj (by rw [← spl_line hp, ← spl_line hq, h])
/-! ### split by one sign, and put together again -/
theorem pre1 (s c : Nat) (r : List Nat) : pre [s] (c :: r) = (c == s) := by
  unfold pre
  show ([c] == [s]) = (c == s)
  simp
theorem spl_ne1 (s : Nat) : ∀ (l acc : List Nat), spl [s] 0 acc l ≠ []
  | [], acc => by rw [spl_nil]; exact List.cons_ne_nil _ _
  | c :: r, acc => by
    cases h : pre [s] (c :: r) with
    | true => rw [spl_hit h]; exact List.cons_ne_nil _ _
    | false => rw [spl_miss h]; exact spl_ne1 s r _
theorem join_spl (s : Nat) : ∀ (l acc : List Nat), joinL [s] (spl [s] 0 acc l) = acc ++ l
  | [], acc => by rw [spl_nil, List.append_nil]; rfl
  | c :: r, acc => by
    cases h : pre [s] (c :: r) with
    | true =>
      rw [spl_hit h]
      have hc : c = s := by rw [pre1] at h; exact eq_of_beq h
      have ih := join_spl s r []
      show joinL [s] (acc :: spl [s] 0 [] r) = _
      obtain ⟨x, xs, hx⟩ := List.exists_cons_of_ne_nil (spl_ne1 s r [])
      rw [hx] at ih ⊢
      show acc ++ ([s] ++ joinL [s] (x :: xs)) = _
      rw [ih, hc]
      rfl
    | false =>
      rw [spl_miss h, join_spl s r]
      simp
theorem cut1 {s : Nat} : ∀ {l : List Nat}, s ∈ l → ∃ a b, l = a ++ s :: b ∧ s ∉ a
  | [], h => by cases h
  | c :: r, h => by
    by_cases e : c = s
    · exact ⟨[], r, by rw [e]; rfl, by simp⟩
    · rcases List.mem_cons.mp h with h | h
      · exact absurd h.symm e
      · obtain ⟨a, b, e1, e2⟩ := cut1 h
        exact ⟨c :: a, b, by rw [e1]; rfl, by simp [e2, Ne.symm e]⟩
def mkS (l : List Nat) : Str := ⟨l.toArray⟩
theorem tl_mkS (l : List Nat) : tl (mkS l) = l := rfl
theorem mkS_tl (x : Str) : mkS (tl x) = x := mk_tl x
/-- a text that is partitioned by one sign -/
theorem part1 {y : Str} {s : Nat} (ey : tl y = [s]) (x : Str) : (s ∉ tl x ∧ Txt.partition x y = (x, Str.empty, Str.empty)) ∨ ∃ a b, tl x = a ++ s :: b ∧ s ∉ a ∧ Txt.partition x y = (mkS a, y, mkS b) := by
  by_cases h : s ∈ tl x
  · obtain ⟨a, b, e, ha⟩ := cut1 h
    refine .inr ⟨a, b, e, ha, ?_⟩
    have ex : x = mkS a ++ y ++ mkS b := ext_tl (by rw [tl_append, tl_append, tl_mkS, tl_mkS, ey, e]; simp)
    rw [ex]
    exact partition_app ey (by rw [tl_mkS]; exact ha)
  · exact .inl ⟨h, partition_none ey h⟩
/-! ### a number written by its last k figures and what is ahead -/
def padL (k r : Nat) : List Nat := List.replicate (k - (numL r).length) 48 ++ numL r
theorem padL_step {k r : Nat} (hk : 1 ≤ k) (hr : r < 10 ^ (k + 1)) : padL (k + 1) r = padL k (r / 10) ++ [48 + r % 10] := by
  unfold padL
  by_cases h : 10 ≤ r
  · rw [numL_step h, List.length_append, List.length_singleton, Nat.add_sub_add_right, List.append_assoc]
  · have h1 : r / 10 = 0 := by omega
    have h2 : r % 10 = r := by omega
    rw [numL_lt (by omega), h1, h2, numL_lt (show 0 < 10 by decide), List.length_singleton, List.length_singleton]
    obtain ⟨j, rfl⟩ : ∃ j, k = j + 1 := ⟨k - 1, by omega⟩
    rw [show j + 1 + 1 - 1 = j + 1 by omega, show j + 1 - 1 = j by omega, List.replicate_succ']
theorem numL_pad : ∀ {k n : Nat}, 1 ≤ k → 10 ^ k ≤ n → numL n = numL (n / 10 ^ k) ++ padL k (n % 10 ^ k)
  | 1, n, _, h => by
    have h : 10 ≤ n := by simpa using h
    rw [numL_step h, Nat.pow_one]
    congr 1
    unfold padL
    rw [numL_lt (Nat.mod_lt _ (by decide))]
    rfl
  | k + 2, n, _, h => by
    have e1 : 10 ^ (k + 2) = 10 * 10 ^ (k + 1) := by rw [Nat.pow_succ 10 (k + 1), Nat.mul_comm]
    have p0 : 0 < 10 ^ (k + 1) := Nat.pow_pos (by decide)
    have h10 : 10 ≤ n := by
      rw [e1] at h
      generalize 10 ^ (k + 1) = c at *
      omega
    have h1 : 10 ^ (k + 1) ≤ n / 10 := by
      rw [e1] at h
      generalize 10 ^ (k + 1) = c at *
      omega
    have e := padL_step (k := k + 1) (r := n % 10 ^ (k + 2)) (by omega) (Nat.mod_lt _ (Nat.pow_pos (by decide)))
    have e2 : n % 10 ^ (k + 2) / 10 = n / 10 % 10 ^ (k + 1) := by
      rw [e1, Nat.mod_mul_right_div_self]
    have e3 : n % 10 ^ (k + 2) % 10 = n % 10 := Nat.mod_mod_of_dvd _ ⟨10 ^ (k + 1), e1⟩
    have e0 : n / 10 / 10 ^ (k + 1) = n / 10 ^ (k + 2) := by rw [Nat.div_div_eq_div_mul, e1]
    rw [numL_step h10, numL_pad (k := k + 1) (by omega) h1, e0]
    show _ = numL (n / 10 ^ (k + 2)) ++ padL (k + 1 + 1) (n % 10 ^ (k + 2))
    rw [e, e2, e3, List.append_assoc]
/-! ### figures read -/
def allD (l : List Nat) : Bool := l.all fun c => decide (48 ≤ c) && decide (c ≤ 57)
theorem allD_iff {l : List Nat} : allD l = true ↔ AllDigits l := by
  unfold allD AllDigits
  rw [List.all_eq_true]
  exact ⟨fun h c hc => by have := h c hc; simpa using this, fun h c hc => by have := h c hc; simpa using this⟩
def behL (l : List Nat) : List Nat := match l with
  | 45 :: r => r
  | l => l
theorem behL_no {l : List Nat} (h : ∀ r, l ≠ 45 :: r) : behL l = l := by
  unfold behL
  split
  · rename_i r
    exact absurd rfl (h r)
  · rfl
def isMin (l : List Nat) : Bool := l.head? == some 45
theorem isMin_iff {l : List Nat} : isMin l = true ↔ ∃ r, l = 45 :: r := by
  unfold isMin
  cases l with
  | nil => simp
  | cons c r => simp
def readI (l : List Nat) : Int := if isMin l = true then -((digitsVal (behL l) : Nat) : Int) else ((digitsVal (behL l) : Nat) : Int)
theorem readI_num (n : Int) : allD (behL (numI n)) = true ∧ readI (numI n) = n := by
  by_cases h : n < 0
  · rw [numI_neg h]
    refine ⟨allD_iff.mpr (numL_digits _), ?_⟩
    unfold readI
    rw [if_pos (isMin_iff.mpr ⟨_, rfl⟩)]
    show -((digitsVal (numL n.natAbs) : Nat) : Int) = n
    rw [numL_val]
    omega
  · rw [numI_pos (by omega)]
    have e : behL (numL n.natAbs) = numL n.natAbs := behL_no fun r e => numL_45 n.natAbs (by rw [e]; exact List.mem_cons_self)
    have m : isMin (numL n.natAbs) = false := by
      cases hm : isMin (numL n.natAbs) with
      | false => rfl
      | true =>
        obtain ⟨r, e⟩ := isMin_iff.mp hm
        exact absurd (by rw [e]; exact List.mem_cons_self) (numL_45 n.natAbs)
    refine ⟨by rw [e]; exact allD_iff.mpr (numL_digits _), ?_⟩
    unfold readI
    rw [m, e, numL_val]
    simp only [Bool.false_eq_true, if_false]
    omega
theorem rmp_min (x : Str) : tl (Txt.removeprefix x "-") = behL (tl x) := by
  rw [StrLaws.removeprefix_eq]
  have hy : tl ("-" : Str) = [45] := by decide +kernel
  have ly : ("-" : Str).length = 1 := by decide +kernel
  have key : Builtin.Str.subAt x "-" 0 = isMin (tl x) := by
    rw [StrLaws.subAt_eq, ly]
    show (((tl x).drop 0).take 1 == tl ("-" : Str)) = _
    rw [hy, List.drop_zero]
    generalize tl x = l
    cases l with
    | nil => rfl
    | cons c r =>
      unfold isMin
      show ([c] == [45]) = (some c == some 45)
      simp
  rw [key, ly]
  cases hm : isMin (tl x) with
  | false =>
    rw [Bool.and_false, if_neg (by intro z; cases z)]
    rw [behL_no]
    intro r e
    rw [isMin_iff.mpr ⟨r, e⟩] at hm
    cases hm
  | true =>
    obtain ⟨r, e⟩ := isMin_iff.mp hm
    have lx : x.length = r.length + 1 := by rw [TL.len_tl, e]; rfl
    rw [Bool.and_true, if_pos (decide_eq_true (by omega)), e]
    show ((x.cps.toList.drop 1).take (x.length - 1)).toArray.toList = r
    rw [show x.cps.toList = 45 :: r from e, lx]
    simp
end Z
namespace L2
open PySem PySem.Spec PyProof.Rows
def rSplit : V → List V → Hp → VK → Prop := fun x xs H Q => ∃ a b, x = .str a ∧ xs = [.str b] ∧ (b.length == 0) = false ∧ a.length + 2 ≤ sizeLine ∧ rNewStrs (Txt.split a b) H Q
def rPart : V → List V → Hp → VK → Prop := fun x xs H Q => ∃ a b, x = .str a ∧ xs = [.str b] ∧ (b.length == 0) = false ∧ a.length ≤ sizeLine ∧ ∀ p, H p = none → Q (.ref p) (upd H p (.tup [.str (Txt.partition a b).1, .str (Txt.partition a b).2.1, .str (Txt.partition a b).2.2]))
def rJoin (K : PySem.W.Frag) : V → List V → Hp → VK → Prop := fun x xs H Q => ∃ a p, ∃ ys : List Str, x = .str a ∧ xs = [.ref p] ∧ (SqL K H p (ys.map V.str) ∨ SqT K H p (ys.map V.str)) ∧ (ys.map (·.length)).sum + ys.length * a.length ≤ 16777216 ∧ Q (.str (Txt.join a ys)) H
def rRmp : V → List V → Hp → VK → Prop := fun x xs H Q => ∃ a b, x = .str a ∧ xs = [.str b] ∧ a.length ≤ sizeLine ∧ Q (.str (Txt.removeprefix a b)) H
def rZfl : V → List V → Hp → VK → Prop := fun x xs H Q => ∃ (a : Str) (i : Int), x = .str a ∧ xs = [.int i] ∧ PadOk i = true ∧ Q (.str (Txt.zfill a i)) H
theorem tsplit {X : Cx} : MtR X "str.split" rSplit := mt_split
theorem tpart {X : Cx} : MtR X "str.partition" rPart := mt_partition
theorem tjoin {X : Cx} {K : PySem.W.Frag} (e : X.K = K) : MtR X "str.join" (rJoin K) := e ▸ mt_join
theorem trmp {X : Cx} : MtR X "str.removeprefix" rRmp := mt_removeprefix
theorem tzfl {X : Cx} : MtR X "str.zfill" rZfl := mt_zfill
def rDvm : List V → Hp → VK → Prop := fun xs H Q => ∃ i j, xs = [.int i, .int j] ∧ CDivP i j ∧ ∀ p, H p = none → Q (.ref p) (upd H p (.tup [.int (i / j), .int (i % j)]))
theorem cdvm {X : Cx} : CallR X (.builtin "divmod") rDvm := call_divmodW
def rIntS : List V → Hp → VK → Prop := fun xs H Q => ∃ a n, xs = [.str a] ∧ PySem.intText? a = some n ∧ a.length ≤ 640 ∧ Q (.int n) H
theorem cintS {X : Cx} : CallR X (.type "int") rIntS := call_int_str
def rAdS : R2 := fun x y H Q => ∃ i j, x = .str i ∧ y = .str j ∧ i.length + j.length ≤ sizeLine ∧ Q (.str (i ++ j)) H
theorem op_adS {X : Cx} : OpR X (binaryOp .Add) rAdS := op_add_str
def rMuS : R2 := fun x y H Q => ∃ a n, x = .str a ∧ y = .int n ∧ PySem.MulOk a n ∧ Q (.str (Txt.mul a n)) H
theorem op_muS {X : Cx} : OpR X (binaryOp .Mult) rMuS := by
  intro pins s σ H x y v u Q I rx ry h
  obtain ⟨a, n, rfl, rfl, hok, q⟩ := h
  obtain ⟨t, rfl⟩ := rx
  obtain ⟨t2, rfl⟩ := ry
  exact PySem.SB.mul hok fun t' k => ⟨.str _, H, I.tok _, ⟨_, rfl⟩, q⟩
end L2
namespace Z
open PySem PySem.Spec PyProof.Rows L2 RZ
open PySem.NumText TL
open Evl (Ex)
/-! ### texts: calls of their methods -/
def M1D (K : PySem.W.Frag) (r : V → List V → Hp → VK → Prop) (a : Str) (y z : Dt) : Prop := ∀ (G H : Hp), Ex G H → ∀ w, Rp K G w y → ∀ Q : VK, (∀ u G2 H2, Nx G H G2 H2 → Rp K G2 u z → Q u H2) → r (.str a) [w] H Q
theorem rps_strV {K : PySem.W.Frag} {G : Hp} : ∀ {ys : List Str} {vs : List V}, Rps K G vs (ys.map Dt.str) → vs = ys.map V.str
  | [], _, .nil => rfl
  | y :: ys, _, .cons r t => by
    cases r
    rw [rps_strV t]
    rfl
section
variable {K : PySem.W.Frag} {r : V → List V → Hp → VK → Prop} {to te : TE} {sl : List Sl} {x y z : Dt} {a b : Str} {i j : Int} {ys : List Str}
theorem ev_m1 (h1 : Ev K to sl (.str a)) (h2 : Ev K te sl y) (hr : M1D K r a y z) : Ev K (tM1 r to te) sl z := fun G H σ k f Q q =>
  h1 G H σ k f _ fun v G1 H1 n1 r1 => by
    cases r1
    exact ⟨⟨a, rfl⟩, h2 G1 H1 σ n1.k (FrD.mono n1.g f) _ fun w G2 H2 n2 r2 => hr G2 H2 n2.k w r2 Q fun u G3 H3 n3 r3 => q u G3 H3 ((n1.trans n2).trans n3) r3⟩
theorem sz1 {n : Nat} (h : n ≤ 1000000) : n ≤ sizeLine := Nat.le_trans h (by decide)
theorem m1_split (hb : (b.length == 0) = false) (ha : a.length ≤ 90000) : M1D K rSplit a (.str b) (.lst ((Txt.split a b).map Dt.str)) := fun G H k w rw Q q => by
  cases rw
  exact ⟨a, b, rfl, rfl, hb, Nat.le_trans (show a.length + 2 ≤ 1000000 by omega) (by decide), fun p hp => q _ _ _ (Nx.new k hp) (.lst (.inl (.inl upd_same)) (rps_strs _))⟩
theorem m1_join (hn : (ys.map (·.length)).sum + ys.length * a.length ≤ 16777216) : M1D K (rJoin K) a (.lst (ys.map Dt.str)) (.str (Str.join a ys)) := fun G H k w rw Q q => by
  cases rw with
  | lst hs rs =>
    rename_i p xs
    have e := rps_strV rs
    subst e
    exact ⟨a, p, ys, rfl, rfl, .inl (Evl.ex_l k hs), hn, by rw [TL.join_eq]; exact q _ G H (.refl k) (.str _)⟩
theorem m1_rmp (ha : a.length ≤ 90000) : M1D K rRmp a (.str b) (.str (Txt.removeprefix a b)) := fun G H k w rw Q q => by
  cases rw
  exact ⟨a, b, rfl, rfl, sz1 (by omega), q _ G H (.refl k) (.str _)⟩
theorem m1_zfl (hi : PadOk i = true) : M1D K rZfl a (.int i) (.str (Txt.zfill a i)) := fun G H k w rw Q q => by
  cases rw
  exact ⟨a, i, rfl, rfl, hi, q _ G H (.refl k) (.str _)⟩
theorem r2_adS (h : a.length + b.length ≤ 1000000) : R2D K rAdS (.str a) (.str b) (.str (a ++ b)) := fun G H k v w r1 r2 Q q => by
  cases r1
  cases r2
  exact ⟨a, b, rfl, rfl, sz1 h, q _ G H (.refl k) (.str _)⟩
theorem r2_muS (h : PySem.MulOk a i) : R2D K rMuS (.str a) (.int i) (.str (Txt.mul a i)) := fun G H k v w r1 r2 Q q => by
  cases r1
  cases r2
  exact ⟨a, i, rfl, rfl, h, q _ G H (.refl k) (.str _)⟩
theorem rc_intS (h : PySem.intText? a = some i) (hl : a.length ≤ 640) : RcD K rIntS [.str a] (.int i) := fun G H k vs r Q q => by
  obtain ⟨v, rfl, h1⟩ := rps1 r
  cases h1
  exact ⟨a, i, rfl, h, hl, q _ G H (.refl k) (.int _)⟩
end
/-! ### tuples that a built-in makes, taken apart -/
section
variable {K : PySem.W.Frag} {to te : TE} {ta : TA} {sl : List Sl} {a b : Str} {i j : Int} {m n l : Nat}
theorem nt_part (h1 : Ev K to sl (.str a)) (h2 : Ev K te sl (.str b)) (hb : (b.length == 0) = false) (ha : a.length ≤ 90000) : Nt K (tAsg (tM1 rPart to te) (gTup K 3 (gCons (gName m) (gCons (gName n) (gCons (gName l) gNil))))) sl (((sl.set m (.d (.str (Txt.partition a b).1))).set n (.d (.str (Txt.partition a b).2.1))).set l (.d (.str (Txt.partition a b).2.2))) := fun G H σ k f D q =>
  h1 G H σ k f _ fun v G1 H1 n1 r1 => by
    cases r1
    refine ⟨⟨a, rfl⟩, h2 G1 H1 σ n1.k (FrD.mono n1.g f) _ fun w G2 H2 n2 r2 => ?_⟩
    cases r2
    refine ⟨a, b, rfl, rfl, hb, sz1 (by omega), fun p hp => ?_⟩
    have n3 : Nx G2 H2 (upd G2 p (.tup [.str (Txt.partition a b).1, .str (Txt.partition a b).2.1, .str (Txt.partition a b).2.2])) (upd H2 p (.tup [.str (Txt.partition a b).1, .str (Txt.partition a b).2.1, .str (Txt.partition a b).2.2])) := .new n2.k hp
    have nn := (n1.trans n2).trans n3
    exact ⟨_, _, rfl, .inl (.inl upd_same), rfl, _, _, rfl, _, _, rfl, _, [], rfl, rfl, q _ _ _ nn (frd_set (.d (.str _)) l (frd_set (.d (.str _)) n (frd_set (.d (.str _)) m (FrD.mono nn.g f))))⟩
theorem nt_dvm (h : EvA K ta sl [.int i, .int j]) (hd : CDivP i j) : Nt K (tAsg (tCB rDvm ta) (gTup K 2 (gCons (gName m) (gCons (gName n) gNil)))) sl ((sl.set m (.d (.int (i / j)))).set n (.d (.int (i % j)))) := fun G H σ k f D q =>
  h G H σ k f _ fun vs G1 H1 n1 r1 => by
    obtain ⟨v, w, rfl, h1, h2⟩ := rps2 r1
    cases h1
    cases h2
    refine ⟨i, j, rfl, hd, fun p hp => ?_⟩
    have n3 : Nx G1 H1 (upd G1 p (.tup [.int (i / j), .int (i % j)])) (upd H1 p (.tup [.int (i / j), .int (i % j)])) := .new n1.k hp
    have nn := n1.trans n3
    exact ⟨_, _, rfl, .inl (.inl upd_same), rfl, _, _, rfl, _, [], rfl, rfl, q _ _ _ nn (frd_set (.d (.int _)) n (frd_set (.d (.int _)) m (FrD.mono nn.g f)))⟩
end
/-! ### loops over the signs of a text -/
section
variable {K : PySem.W.Frag} {sl : List Sl} {te : TE} {t : TS} {i : Nat} {z : Str} {S : Nat → List Sl}
theorem nt_forS (h : Ev K te sl (.str z)) (h0 : S 0 = sl) (hs : ∀ k, k < z.cps.size → Nt K t ((S k).set i (.d (sgD z k))) (S (k + 1))) : Nt K (tFor (iStr te) (gName i) t) sl (S z.cps.size) := fun G H σ k f D q => h G H σ k f _ fun v G1 H1 n1 r1 => by
  cases r1
  refine ⟨z, rfl, for_it (walk_str (z := z)) (fun n σ' H' => ∃ G', Nx G H G' H' ∧ FrD K G' σ' (S n)) ⟨G1, n1, by rw [h0]; exact FrD.mono n1.g f⟩ (fun n σ' H' _ _ => trivial) ?_ ?_⟩
  · rintro n x σ' H' H'' hlt ⟨G', n2, f2⟩ ⟨rfl, c, hc, rfl⟩
    have e : z.cps.getD n 0 = c := by
      rw [Array.getD_eq_getD_getElem?, hc]
      rfl
    have e2 : sgD z n = .str ⟨#[c]⟩ := by unfold sgD; rw [e]
    refine hs n hlt G' H'' _ n2.k (frd_set (by rw [e2]; exact .d (.str _)) i f2) _ fun σ3 G3 H3 n3 f3 => ⟨G3, n2.trans n3, f3⟩
  · rintro σ' H' ⟨G', n2, f2⟩
    exact q σ' G' H' n2 f2
/-- a statement that raises -/
def StX (K : PySem.W.Frag) (t : XK → TS) (sl : List Sl) (c : Value) : Prop := ∀ (G H : Hp) (σ : L2.St), Ex G H → FrD K G σ sl → ∀ (D : Ends) (E : XK), (∀ G2 H2, Nx G H G2 H2 → E c none H2) → t E D σ H
theorem stx_forS {t : XK → TS} {c : Value} {m : Nat} (h : Ev K te sl (.str z)) (h0 : S 0 = sl) (hm : m < z.cps.size) (hs : ∀ k, k < m → ∀ E, Nt K (t E) ((S k).set i (.d (sgD z k))) (S (k + 1))) (hx : StX K t ((S m).set i (.d (sgD z m))) c) : StX K (fun E => tFor (iStr te) (gName i) (t E)) sl c := fun G H σ k f D E q => h G H σ k f _ fun v G1 H1 n1 r1 => by
  cases r1
  refine ⟨z, rfl, for_it (walk_str (z := z)) (fun n σ' H' => n ≤ m ∧ ∃ G', Nx G H G' H' ∧ FrD K G' σ' (S n)) ⟨Nat.zero_le _, G1, n1, by rw [h0]; exact FrD.mono n1.g f⟩ (fun n σ' H' _ _ => trivial) ?_ ?_⟩
  · rintro n x σ' H' H'' hlt ⟨hn, G', n2, f2⟩ ⟨rfl, c', hc, rfl⟩
    have e : z.cps.getD n 0 = c' := by
      rw [Array.getD_eq_getD_getElem?, hc]
      rfl
    have e2 : sgD z n = .str ⟨#[c']⟩ := by unfold sgD; rw [e]
    have f3 := frd_set (s := .d (sgD z n)) (v := V.str ⟨#[c']⟩) (by rw [e2]; exact .d (.str _)) i f2
    by_cases hn2 : n < m
    · exact hs n hn2 E G' H'' _ n2.k f3 _ fun σ3 G3 H3 n3 f3 => ⟨hn2, G3, n2.trans n3, f3⟩
    · have en : n = m := by omega
      subst en
      exact hx G' H'' _ n2.k f3 _ E fun G3 H3 n3 => q G3 H3 (n2.trans n3)
  · rintro σ' H' ⟨hn, _⟩
    omega
theorem stx_raise {C : Addr} {tc : TT} {u : XK → TS} {b : Bool} (h : EvT K tc sl b) (e : b = true) : StX K (fun E => tSeq (tIfS tc (tRs C E) tNext) (u E)) sl (.ref C) := fun G H σ k f D E q => by
  subst e
  exact h G H σ k f _ fun G1 H1 n1 => q G1 H1 n1
theorem stx_asg {te : XK → TE} {g : TG} {c : Value} (h : EvX K te sl c) : StX K (fun E => tAsg (te E) g) sl c := fun G H σ k f D E q => h G H σ k f E _ q
theorem rx_stx {t u : XK → TS} {c : Value} (h : StX K t sl c) : Rx K (fun E => tSeq (t E) (u E)) sl none c := fun G H σ k f D E q1 q2 q3 => h G H σ k f _ E (q3 rfl)
theorem stx_if {tc : TT} {t u : XK → TS} {c : Value} (h : EvT K tc sl true) (g : StX K t sl c) : StX K (fun E => tIfS tc (t E) (u E)) sl c := fun G H σ k f D E q =>
  h G H σ k f _ fun G1 H1 n1 => g G1 H1 σ n1.k (FrD.mono n1.g f) _ E fun G2 H2 n2 => q G2 H2 (n1.trans n2)
end
end Z
namespace Z
open PySem PySem.Spec PyProof.Rows L2 RZ
open PySem.NumText TL
open Evl (Ex)
theorem numL_short {n : Int} (h : Bt 8000 n) : (numL n.natAbs).length ≤ 8000 := by
  refine numL_len (by decide) (Nat.lt_of_lt_of_le h ?_)
  exact Nat.pow_le_pow_left (by decide) 8000
theorem log_60 {r : Nat} (h : r < 10 ^ 60) : ((r : Nat) : Int).natAbs.log2 < 1920 := by
  rw [Int.natAbs_natCast]
  by_cases z : r = 0
  · rw [z]; decide
  · exact Nat.lt_trans ((Nat.log2_lt z).mpr (Nat.lt_trans h (show 10 ^ 60 < 2 ^ 200 by decide +kernel))) (by decide)
theorem padL_len {r : Nat} (h : r < 10 ^ 60) : (padL 60 r).length = 60 := by
  unfold padL
  have := numL_len (k := 60) (by decide) h
  rw [List.length_append, List.length_replicate]
  omega
theorem zfl_pad {r : Nat} (h : r < 10 ^ 60) : tl (Txt.zfill (Str.ofString (toString ((r : Nat) : Int))) 60) = padL 60 r := by
  have e := tl_num r
  generalize Str.ofString (toString ((r : Nat) : Int)) = x at *
  have lx : x.length = (numL r).length := by rw [len_tl, e]
  have hl := numL_len (k := 60) (by decide) h
  unfold Txt.zfill padL
  split
  · rename_i hc
    rw [e, show 60 - (numL r).length = 0 by omega]
    rfl
  · obtain ⟨c, rest, hc⟩ := List.exists_cons_of_ne_nil (numL_ne r)
    have h0 : x.cps[0]? = some c := by
      have : (tl x)[0]? = some c := by rw [e, hc]; rfl
      rwa [Array.getElem?_toList] at this
    have hd := numL_digits r c (by rw [hc]; exact List.mem_cons_self)
    have hz : PySem.zfilled x ((60 : Int).toNat - x.length) = Builtin.Str.padded x ((60 : Int).toNat - x.length) 0 48 := by
      unfold PySem.zfilled
      rw [h0]
      split
      · rename_i q
        injection q with q
        omega
      · rename_i q
        injection q with q
        omega
      · rfl
    rw [hz]
    show (Builtin.Str.padded x ((60 : Int).toNat - x.length) 0 48).cps.toList = _
    rw [padded_list, List.replicate_zero, List.append_nil]
    show List.replicate (60 - x.length) 48 ++ tl x = _
    rw [e, lx]
theorem dvp_ok {m : Nat} : CDivP ((m : Nat) : Int) ((10 ^ 60 : Nat) : Int) := ⟨by decide +kernel, by
  unfold Builtin.divisionGoesByPylong
  have h : ∀ b : Bool, (decide ((if (((10 ^ 60 : Nat) : Int) == 0) = true then 0 else (((10 ^ 60 : Nat) : Int)).natAbs.log2 / 30 + 1) > 300) && b) = false := fun b => by
    rw [show decide ((if (((10 ^ 60 : Nat) : Int) == 0) = true then 0 else (((10 ^ 60 : Nat) : Int)).natAbs.log2 / 30 + 1) > 300) = false from by decide +kernel, Bool.false_and]
  exact h _⟩
end Z
namespace Z
open PySem PySem.Spec PyProof.Rows L2 RZ
open PySem.NumText TL
open Evl (Ex)
/-! ### runs without a blank, a slash or an at are short -/
def noSep (x : Nat) : Prop := x ≠ 32 ∧ x ≠ 47 ∧ x ≠ 64
def Mr (m : Nat) (l : List Nat) : Prop := ∀ a b c, l = a ++ (b ++ c) → (∀ x ∈ b, noSep x) → b.length ≤ m
theorem Mr.mono {m n : Nat} {l : List Nat} (h : Mr m l) (le : m ≤ n) : Mr n l := fun a b c e hb => Nat.le_trans (h a b c e hb) le
theorem Mr.sub {m : Nat} {l a b c : List Nat} (h : Mr m l) (e : l = a ++ (b ++ c)) : Mr m b := fun x y z e2 hy => h (a ++ x) y (z ++ c) (by rw [e, e2]; simp) hy
theorem Mr.whole {m : Nat} {l : List Nat} (h : Mr m l) (hl : ∀ x ∈ l, noSep x) : l.length ≤ m := h [] l [] (by simp) hl
theorem mr_len {l : List Nat} : Mr l.length l := fun a b c e _ => by
  rw [e, List.length_append, List.length_append]
  omega
theorem infix_split {x y a b c : List Nat} (e : x ++ y = a ++ (b ++ c)) : ∃ b1 b2, b = b1 ++ b2 ∧ (∃ a1 c1, x = a1 ++ (b1 ++ c1)) ∧ ∃ a2 c2, y = a2 ++ (b2 ++ c2) := by
  rcases List.append_eq_append_iff.mp e with ⟨w, rfl, h⟩ | ⟨w, rfl, h⟩
  · exact ⟨[], b, rfl, ⟨x, [], by simp⟩, w, c, h⟩
  · rcases List.append_eq_append_iff.mp h with ⟨v, rfl, h2⟩ | ⟨v, rfl, h2⟩
    · exact ⟨b, [], by simp, ⟨a, v, rfl⟩, [], y, rfl⟩
    · exact ⟨w, v, rfl, ⟨a, [], by simp⟩, [], c, h2⟩
theorem Mr.app {m n : Nat} {x y : List Nat} (h : Mr m x) (g : Mr n y) : Mr (m + n) (x ++ y) := fun a b c e hb => by
  obtain ⟨b1, b2, rfl, ⟨a1, c1, e1⟩, ⟨a2, c2, e2⟩⟩ := infix_split e
  have k1 := h a1 b1 c1 e1 fun z hz => hb z (List.mem_append_left _ hz)
  have k2 := g a2 b2 c2 e2 fun z hz => hb z (List.mem_append_right _ hz)
  rw [List.length_append]
  omega
theorem Mr.sep {m : Nat} {x y : List Nat} {s : Nat} (h : Mr m x) (g : Mr m y) (hs : s = 32 ∨ s = 47 ∨ s = 64) : Mr m (x ++ s :: y) := fun a b c e hb => by
  rcases List.append_eq_append_iff.mp e with ⟨w, rfl, h2⟩ | ⟨w, rfl, h2⟩
  · cases w with
    | nil =>
      cases b with
      | nil => exact Nat.zero_le _
      | cons z b =>
        have h2 : s :: y = z :: (b ++ c) := h2
        injection h2 with e1 _
        subst e1
        have := hb s List.mem_cons_self
        unfold noSep at this
        omega
    | cons z w =>
      have h2 : s :: y = z :: (w ++ (b ++ c)) := h2
      injection h2 with _ e2
      exact g w b c e2 hb
  · rcases List.append_eq_append_iff.mp h2 with ⟨v, rfl, h3⟩ | ⟨v, rfl, h3⟩
    · exact h a b v rfl hb
    · cases v with
      | nil =>
        rw [List.append_nil]
        exact h a w [] (by simp) fun z hz => hb z (by simpa using hz)
      | cons z v =>
        have h3 : s :: y = z :: (v ++ c) := h3
        injection h3 with e1 _
        subst e1
        have := hb s (by simp)
        unfold noSep at this
        omega
theorem mr_join {m s : Nat} (hs : s = 32 ∨ s = 47 ∨ s = 64) : ∀ {parts : List (List Nat)}, (∀ p ∈ parts, Mr m p) → Mr m (joinL [s] parts)
  | [], _ => fun a b c e _ => by
    have : ([] : List Nat) = a ++ (b ++ c) := e
    have := congrArg List.length this
    simp at this
    omega
  | [p], h => h p List.mem_cons_self
  | p :: q :: r, h => by
    show Mr m (p ++ ([s] ++ joinL [s] (q :: r)))
    exact (h p List.mem_cons_self).sep (mr_join hs fun x hx => h x (List.mem_cons_of_mem _ hx)) hs
/-! ### sizes of what figures tell -/
theorem dv_snoc (l : List Nat) (c : Nat) : digitsVal (l ++ [c]) = digitsVal l * 10 + (c - 48) := by
  unfold digitsVal
  rw [List.foldl_append]
  rfl
theorem dv_lt {l : List Nat} (h : AllDigits l) : digitsVal l < 10 ^ l.length := by
  have key : ∀ (l : List Nat) (a : Nat), AllDigits l → l.foldl (fun acc c => acc * 10 + (c - 48)) a < (a + 1) * 10 ^ l.length := by
    intro l
    induction l with
    | nil => intro a _; show a < (a + 1) * 1; omega
    | cons c r ih =>
      intro a h
      have hc := h c List.mem_cons_self
      have h1 := ih (a * 10 + (c - 48)) h.tail
      rw [List.foldl_cons, List.length_cons, Nat.pow_succ]
      refine Nat.lt_of_lt_of_le h1 ?_
      rw [Nat.mul_comm (10 ^ r.length) 10, ← Nat.mul_assoc]
      exact Nat.mul_le_mul_right _ (by omega)
  have := key l 0 h
  rwa [Nat.zero_add, Nat.one_mul] at this
theorem ten_pow : ∀ {k : Nat}, k ≤ 300 → 10 ^ k < 2 ^ 1000 := fun {k} h => Nat.lt_of_le_of_lt (Nat.pow_le_pow_right (by decide) h) (by decide +kernel)
theorem dv_bt {l : List Nat} (h : AllDigits l) (hl : l.length ≤ 300) : Bt 1000 ((digitsVal l : Nat) : Int) := by
  show ((digitsVal l : Nat) : Int).natAbs < 2 ^ 1000
  rw [Int.natAbs_natCast]
  exact Nat.lt_trans (dv_lt h) (ten_pow hl)
theorem numL_bt {n : Nat} (h : (numL n).length ≤ 300) : n < 2 ^ 1000 := by
  have := dv_lt (numL_digits n)
  rw [numL_val] at this
  exact Nat.lt_trans this (ten_pow h)
/-! ### texts that can be read -/
structure TxC (s : Str) : Prop where
  mr : Mr 300 (tl s)
  len : s.length ≤ 80000
  ok : ∀ c ∈ tl s, c < 0x110000
theorem sh_str {s : Str} (h : ∀ c ∈ tl s, c < 0x110000) : SeqAt.shaped (.str s) = true := by
  unfold SeqAt.shaped
  rw [Bool.and_eq_true]
  refine ⟨?_, by simp [PyData.depth]⟩
  rw [PyData.canLay0]
  unfold PyData.strOk
  rw [← Array.all_toList]
  exact List.all_eq_true.mpr fun c hc => decide_eq_true (h c hc)
theorem TxC.ln {s : Str} (h : TxC s) : s.length ≤ 90000 := Nat.le_trans h.len (by decide)
theorem TxC.sub {s : Str} {a b c : List Nat} (h : TxC s) (e : tl s = a ++ (b ++ c)) : TxC (mkS b) := by
  refine ⟨h.mr.sub e, ?_, fun x hx => h.ok x (by rw [e]; simp [show x ∈ b from hx])⟩
  have h1 := h.len
  rw [len_tl, e, List.length_append, List.length_append] at h1
  rw [len_tl, tl_mkS]
  omega
theorem dig_noSep {l : List Nat} (h : AllDigits l) : ∀ x ∈ l, noSep x := fun x hx => by
  have := h x hx
  unfold noSep
  omega
theorem numI_noSep (n : Int) : ∀ x ∈ numI n, noSep x := fun x hx => by
  unfold numI at hx
  split at hx
  · rcases List.mem_cons.mp hx with rfl | hx
    · unfold noSep; decide
    · exact dig_noSep (numL_digits _) x hx
  · exact dig_noSep (numL_digits _) x hx
theorem numI_len (n : Int) : (numL n.natAbs).length ≤ (numI n).length := by
  unfold numI
  split
  · rw [List.length_cons]; omega
  · exact Nat.le_refl _
theorem numI_bt {n : Int} (h : (numI n).length ≤ 300) : Bt 1000 n := numL_bt (Nat.le_trans (numI_len n) h)
theorem den1_eq {q : Rat} (h : q.den = 1) : fq q = .tup [.int q.num, .int 1] := by
  unfold fq
  rw [h]
  rfl
theorem frac_bq {q : Rat} (h : Mr 300 (fracL q)) : Bq 1000 q := by
  by_cases h1 : q.den = 1
  · rw [fracL_den1 h1] at h
    refine ⟨numI_bt (h.whole (numI_noSep _)), ?_⟩
    rw [h1]
    show Int.natAbs 1 < 2 ^ 1000
    exact Nat.one_lt_two_pow (by decide)
  · rw [fracL_den h1] at h
    have a := (h.sub (a := []) (b := numI q.num) (c := 47 :: numL q.den) rfl).whole (numI_noSep _)
    have b := (h.sub (a := numI q.num ++ [47]) (b := numL q.den) (c := []) (by simp)).whole (dig_noSep (numL_digits _))
    refine ⟨numI_bt a, ?_⟩
    show ((q.den : Nat) : Int).natAbs < _
    rw [Int.natAbs_natCast]
    exact numL_bt b
theorem int_frac (n : Int) : fq (n : Rat) = .tup [.int n, .int 1] ∧ fracL (n : Rat) = numI n := by
  have h1 : ((n : Int) : Rat).den = 1 := Rat.den_intCast n
  have h2 : ((n : Int) : Rat).num = n := Rat.num_intCast n
  exact ⟨by rw [den1_eq h1, h2], by rw [fracL_den1 h1, h2]⟩
theorem cut_uniq {s : Nat} : ∀ {a b c d : List Nat}, s ∉ a → s ∉ c → a ++ s :: b = c ++ s :: d → a = c ∧ b = d
  | [], b, [], d, _, _, h => ⟨rfl, by injection h⟩
  | [], b, x :: c, d, _, hc, h => by
    have h : s :: b = x :: (c ++ s :: d) := h
    injection h with e _
    exact absurd (by rw [e]; exact List.mem_cons_self) hc
  | x :: a, b, [], d, ha, _, h => by
    have h : x :: (a ++ s :: b) = s :: d := h
    injection h with e _
    exact absurd (by rw [e]; exact List.mem_cons_self) ha
  | x :: a, b, y :: c, d, ha, hc, h => by
    have h : x :: (a ++ s :: b) = y :: (c ++ s :: d) := h
    injection h with e h
    obtain ⟨h1, h2⟩ := cut_uniq (fun z => ha (List.mem_cons_of_mem _ z)) (fun z => hc (List.mem_cons_of_mem _ z)) h
    exact ⟨by rw [e, h1], h2⟩
/-! ### in the calculus -/
section
variable {K : PySem.W.Frag} {sl sl1 sl2 : List Sl} {t : TS}
theorem nt_less (h : Nt K t sl sl1) (w : Paired Wk sl1 sl2) : Nt K t sl sl2 := fun G H σ k f D q => h G H σ k f D fun σ1 G1 H1 n1 f1 => q σ1 G1 H1 n1 (frd_wk f1 w)
theorem r2_sgNotIn {c : Nat} {z : Str} : R2D K (fun x y H Q => ∃ (c : Nat) (z : Str), x = .str ⟨#[c]⟩ ∧ y = .str z ∧ Q (.bl (!decide (c ∈ z.cps.toList))) H) (.str ⟨#[c]⟩) (.str z) (.bl (!decide (c ∈ z.cps.toList))) := fun G H k v w r1 r2 Q q => by
  cases r1
  cases r2
  exact ⟨c, z, rfl, rfl, q _ G H (.refl k) (.bl _)⟩
theorem figs_mem (c : Nat) : decide (c ∈ ("0123456789" : Str).cps.toList) = (decide (48 ≤ c) && decide (c ≤ 57)) := by
  have e : ("0123456789" : Str).cps.toList = [48, 49, 50, 51, 52, 53, 54, 55, 56, 57] := by decide +kernel
  rw [e, ← Bool.decide_and]
  refine decide_eq_decide.mpr ⟨fun h => ?_, fun h => ?_⟩
  · simp only [List.mem_cons, List.not_mem_nil, or_false] at h
    omega
  · simp only [List.mem_cons, List.not_mem_nil, or_false]
    omega
theorem int_one {c : Nat} (h : 48 ≤ c ∧ c ≤ 57) : PySem.intText? (⟨#[c]⟩ : Str) = some (((c - 48 : Nat) : Nat) : Int) := by
  have := PySem.intText_digits (x := (⟨#[c]⟩ : Str)) (fun d hd => by
    rw [List.mem_singleton.mp (show d ∈ [c] from hd)]
    exact h) (show [c] ≠ [] from List.cons_ne_nil _ _) (show 1 ≤ 4300 by decide)
  rw [this]
  show some ((digitsVal [c] : Nat) : Int) = _
  unfold digitsVal
  simp
theorem sg_at {z : Str} {k : Nat} {c : Nat} (h : (tl z)[k]? = some c) : sgD z k = .str ⟨#[c]⟩ := by
  unfold sgD
  have : z.cps.getD k 0 = c := by
    rw [Array.getD_eq_getD_getElem?, ← Array.getElem?_toList]
    show ((tl z)[k]?).getD 0 = c
    rw [h]
    rfl
  rw [this]
theorem cps_len (z : Str) : z.cps.size = (tl z).length := by simp [tl]
/-- the first sign that is no figure -/
theorem first_no : ∀ {l : List Nat}, allD l = false → ∃ m c, l[m]? = some c ∧ (decide (48 ≤ c) && decide (c ≤ 57)) = false ∧ AllDigits (l.take m)
  | [], h => by cases h
  | d :: r, h => by
    cases hd : (decide (48 ≤ d) && decide (d ≤ 57)) with
    | false => exact ⟨0, d, rfl, hd, fun x hx => by cases hx⟩
    | true =>
      have : allD r = false := by
        unfold allD at h ⊢
        rw [List.all_cons, hd, Bool.true_and] at h
        exact h
      obtain ⟨m, c, h1, h2, h3⟩ := first_no this
      refine ⟨m + 1, c, h1, h2, fun x hx => ?_⟩
      rw [List.take_succ_cons] at hx
      rcases List.mem_cons.mp hx with rfl | hx
      · simpa using hd
      · exact h3 x hx
end
end Z
namespace Z
open PySem PySem.Spec PyProof.Rows L2 RZ
open PySem.NumText TL
open Evl (Ex)
theorem numL_k {n : Int} {k : Nat} (hk : 1 ≤ k) (h : Bt k n) : (numL n.natAbs).length ≤ k :=
  numL_len hk (Nat.lt_of_lt_of_le h (Nat.pow_le_pow_left (by decide) k))
theorem numI_k {n : Int} {k : Nat} (hk : 1 ≤ k) (h : Bt k n) : (numI n).length ≤ k + 1 := by
  have := numL_k hk h
  unfold numI
  split
  · rw [List.length_cons]; omega
  · omega
theorem fracL_len {q : Rat} {k : Nat} (hk : 1 ≤ k) (h : Bq k q) : (fracL q).length ≤ 2 * k + 2 := by
  have h1 := numI_k hk h.1
  have h2 := numL_k hk h.2
  rw [Int.natAbs_natCast] at h2
  by_cases e : q.den = 1
  · rw [fracL_den1 e]; omega
  · rw [fracL_den e, List.length_append, List.length_cons]; omega
theorem hapL_len {p : Rat × Rat} {k : Nat} (hk : 1 ≤ k) (h : Bq k p.1 ∧ Bq k p.2) : (hapL p).length ≤ 4 * k + 5 := by
  have h1 := fracL_len hk h.1
  have h2 := fracL_len hk h.2
  rw [hapL_is, List.length_append, List.length_cons]
  omega
theorem sl47 : tl ("/" : Str) = [47] := by decide +kernel
theorem sl64 : tl ("@" : Str) = [64] := by decide +kernel
theorem sl32 : tl (" " : Str) = [32] := by decide +kernel
theorem sl0 : tl ("" : Str) = [] := by decide +kernel
theorem empty_is : Str.empty = ("" : Str) := by decide +kernel
theorem sum_le {α : Type} (f : α → Nat) (m : Nat) : ∀ {l : List α}, (∀ a ∈ l, f a ≤ m) → (l.map f).sum ≤ l.length * m
  | [], _ => by simp
  | a :: l, h => by
    have h1 := h a List.mem_cons_self
    have h2 := sum_le f m fun x hx => h x (List.mem_cons_of_mem _ hx)
    rw [List.map_cons, List.sum_cons, List.length_cons, Nat.succ_mul]
    omega
theorem join_hap {ps : List (Rat × Rat)} {y : Str} (hy : tl y = [32]) : Str.join y (ps.map fun p => mkS (hapL p)) = mkS (lineL ps) := ext_tl (by
  rw [tl_join, hy, tl_mkS, List.map_map]
  rfl)
/-! ### a text is what a fraction, a hap, a line writes; its parts -/
theorem part_none {s : Str} {q : Rat} (e : tl s = fracL q) (h : (47 : Nat) ∉ tl s) : q.den = 1 := by
  by_cases h1 : q.den = 1
  · exact h1
  · rw [e, fracL_den h1] at h
    exact absurd (by simp) h
theorem part_some {s : Str} {q : Rat} {a b : List Nat} (e : tl s = fracL q) (h : tl s = a ++ 47 :: b) (ha : 47 ∉ a) : q.den ≠ 1 ∧ a = numI q.num ∧ b = numL q.den := by
  have no : (47 : Nat) ∉ numI q.num := numI_no (.inl (by decide)) (by decide)
  have h1 : q.den ≠ 1 := fun z => by
    rw [e, fracL_den1 z] at h
    exact no (by rw [h]; simp)
  rw [e, fracL_den h1] at h
  obtain ⟨x, y⟩ := cut_uniq no ha h
  exact ⟨h1, x.symm, y.symm⟩
theorem isFr_tup {n m : Int} (h : isFr (.tup [.int n, .int m]) = true) : ∃ q : Rat, q.num = n ∧ ((q.den : Nat) : Int) = m := by
  obtain ⟨q, e⟩ := isFr_iff.mp h
  unfold fq at e
  injection e with e
  injection e with e1 e
  injection e with e2 _
  injection e1 with e1
  injection e2 with e2
  exact ⟨q, e1.symm, e2.symm⟩
theorem fq_of {q : Rat} {n m : Int} (h1 : q.num = n) (h2 : ((q.den : Nat) : Int) = m) : fq q = .tup [.int n, .int m] := by
  unfold fq
  rw [h1, h2]
theorem readI_bt {s : Str} (h : TxC s) (ha : allD (behL (tl s)) = true) : Bt 1000 (readI (tl s)) := by
  have hm : Mr 300 (behL (tl s)) := by
    have := h.mr
    unfold behL
    split
    · rename_i r e
      rw [e] at this
      exact this.sub (a := [45]) (b := r) (c := []) (by simp)
    · exact this
  have hD := allD_iff.mp ha
  have := dv_bt hD (hm.whole (dig_noSep hD))
  unfold readI
  split
  · exact bt_neg this
  · exact this
theorem TxC.empty : TxC "" := ⟨fun a b c e _ => by
  rw [sl0] at e
  have := congrArg List.length e
  simp at this
  omega, by decide +kernel, fun c hc => by rw [sl0] at hc; cases hc⟩
theorem nil_frac (q : Rat) : tl ("" : Str) ≠ fracL q := fun e => by
  rw [sl0] at e
  have h : (fracL q).length = 0 := by rw [← e]; rfl
  have : (numI q.num).length ≠ 0 := fun z => numI_ne _ (List.length_eq_zero_iff.mp z)
  by_cases h1 : q.den = 1
  · rw [fracL_den1 h1] at h
    omega
  · rw [fracL_den h1, List.length_append] at h
    omega
end Z
namespace Z
open PySem PySem.Spec PyProof.Rows L2 RZ
open Evl (Ex)
/-- a comprehension whose m-th item raises -/
theorem evx_lcP {K : PySem.W.Frag} {sl : List Sl} {te : XK → TE} {tl : TE} {i m : Nat} {ds es : List Dt} {c : Value} (h : Ev K tl sl (.lst ds)) (hn : ds.length ≤ 90000) (hm : m < ds.length) (hes : es.length = m)
    (he : ∀ (k : Nat) (d e : Dt), k < m → ds[k]? = some d → es[k]? = some e → ∀ E, Ev K (te E) ((sl.set i .no).set i (.d d)) e) (hx : ∀ d, ds[m]? = some d → EvX K te ((sl.set i .no).set i (.d d)) c) : EvX K (fun E => tLc (iList K tl) (gName i) tYes (te E) [i]) sl c := fun G H σ k fr E Q q =>
  h G H σ k fr _ fun v G1 H1 n1 r1 => by
    cases r1 with
    | lst hs rs =>
      rename_i a xs
      have hlen := rs.length
      refine ⟨a, rfl, ⟨_, Evl.ex_l n1.k hs⟩, fun Dl hD => ?_⟩
      have gD : G1 Dl = none := free_of n1.k hD
      refine lc_list (K := K) (a := a) (xs := xs) (fun j H' => j ≤ m ∧ ∃ G' vs, Ex G1 G' ∧ Ex H1 H' ∧ Ex G' H' ∧ (∀ c, G1 c = none → H1 c ≠ none → G' c = none) ∧ G' Dl = none ∧ H' Dl = some (.lst vs) ∧ Rps K G' vs (es.take j))
        ⟨Nat.zero_le _, G1, [], Ex.refl _, Ex.new hD, n1.k.trans (Ex.new hD), fun _ z _ => z, gD, upd_same, .nil⟩ (fun j H' _ ⟨_, G', vs, e1, e2, _⟩ => Evl.ex_l (n1.k.trans e2) hs) ?_ ?_
      · rintro j x H' hj ⟨hjm, G', vs, e1, e2, e3, e4, e5, e6, e7⟩
        have hj2 : j < xs.length := (List.getElem?_eq_some_iff.mp hj).1
        have hd : ds[j]? = some ds[j] := List.getElem?_eq_getElem (by omega)
        obtain ⟨x', hx', rx⟩ := rs.get hd
        rw [hj] at hx'
        cases hx'
        refine ⟨?_, ?_⟩
        · show (((σ.set i none)).set i (some x)).set i none = σ.set i none
          rw [List.set_set, List.set_set]
        · have fr1 : FrD K G' ((σ.set i none).set i (some x)) ((sl.set i .no).set i (.d ds[j])) := frd_set (.d (rx.mono e1)) i (frd_wipe i (FrD.mono (n1.g.trans e1) fr))
          by_cases hjm2 : j < m
          · have hd2 : es[j]? = some es[j] := List.getElem?_eq_getElem (by omega)
            refine he j ds[j] es[j] hjm2 hd hd2 E G' H' _ e3 fr1 _ fun u G2 H2 n2 r2 => ?_
            have g2D : G2 Dl = none := n2.f Dl e5 (by rw [e6]; intro z; cases z)
            have hl := e7.length
            refine ⟨vs, n2.h Dl _ e6, Nat.lt_of_lt_of_le (m := 100000) (by rw [hl, List.length_take]; omega) (by decide), hjm2, G2, vs ++ [u], e1.trans n2.g, Evl.Ex.mut (e2.trans n2.h) hD, Evl.Ex.mut n2.k g2D, fun c c1 c2 => n2.f c (e4 c c1 c2) (ne_none e2 c2), g2D, upd_same, ?_⟩
            have et : es.take (j + 1) = es.take j ++ [es[j]] := by
              rw [List.take_add_one, hd2]
              rfl
            rw [et]
            exact (e7.mono n2.g).snoc r2
          · have ej : j = m := by omega
            subst ej
            exact hx _ hd G' H' _ e3 fr1 E _ fun G2 H2 n2 => q G2 H2 ((n1.trans ⟨e1, e2, e3, e4⟩).trans n2)
      · rintro H' ⟨hjm, _⟩
        omega
section
variable {P : Program} {w : World} {K : PySem.W.Frag} {mg : Str → Option Value} {base : Heap} {x : Str} {st : Stmt} {N ps : List Str} {k : Nat}
theorem Dd.raisesLX {R : List Dt → List Dt → Prop} {XF : List Dt → Value → Prop} {t : XK → TS} (D : Dd K mg x st ps) (S : FnScope N ps (defScope st)) (hl : ∀ ds d, R ds d → ds.length = ps.length) (hl2 : ∀ ds c, XF ds c → ds.length = ps.length)
    (h1 : ∀ (f : Addr) (cdv : Value) (A : Around) (outer : List Env) (s : Shared) (H : Hp) (E : XK), Room k (A.deeper (envOfC x (defScope st) s.heap.objs.size f cdv)) → PSs (cxOf (L2.CX P w) P w K mg base N x (defScope st) f cdv A outer s H E) (defBody st) (t E))
    (h2 : ∀ ds es, R ds es → ∀ E, Rf K (t E) (ds.map Sl.d ++ List.replicate (N.length - ps.length) .no) es) (h3 : ∀ ds c, XF ds c → Rx K t (ds.map Sl.d ++ List.replicate (N.length - ps.length) .no) none c) : Has P w K mg base (L2.CX P w) (k + 1) x ps (spXL K R XF) := by
  obtain ⟨f, fd, F, hm, b⟩ := D.ex
  refine ⟨f, fd, F.okX S (fun vs H Q E h => ?_) (fun cdv A outer s H vs Q E hr h => ⟨t E, h1 f cdv A outer s H E hr, ?_⟩), hm, F.kp, b⟩
  · obtain ⟨ds, G, _, r, h⟩ := h
    rw [r.length]
    rcases h with ⟨d, hR, _⟩ | ⟨c, hX, _⟩
    · exact hl ds d hR
    · exact hl2 ds c hX
  · obtain ⟨ds, G, kG, r, h⟩ := h
    rcases h with ⟨d, hR, q⟩ | ⟨c, hX, q⟩
    · exact h2 ds d hR E G H _ kG (start_ok r (hl ds d hR)) _ q
    · exact h3 ds c hX G H _ kG (start_ok r (hl2 ds c hX)) _ E (fun d e => by cases e) (fun e => by cases e) fun _ => q
end
end Z
namespace Z
open PySem PySem.Spec PyProof.Rows L2 RZ
open PySem.NumText TL
open Evl (Ex)
/-! ### slices of texts, sign by sign -/
theorem cut_to (s : Str) (n : Nat) : tl (cutS s none (some ((n : Nat) : Int))) = (tl s).take n := by
  show ((s.cps.toList.drop (HT.sIx s.length 0 none)).take (HT.sIx s.length s.length (some ((n : Nat) : Int)) - HT.sIx s.length 0 none)) = s.cps.toList.take n
  rw [HT.sIx_none, HT.sIx_nat, List.drop_zero, Nat.sub_zero]
  have hl : s.length = s.cps.toList.length := by simp [Str.length]
  by_cases h : n ≤ s.length
  · rw [Nat.min_eq_left h]
  · rw [Nat.min_eq_right (by omega), hl, List.take_length, List.take_of_length_le (by omega)]
theorem cut_from (s : Str) (n : Nat) : tl (cutS s (some ((n : Nat) : Int)) none) = (tl s).drop n := by
  show ((s.cps.toList.drop (HT.sIx s.length 0 (some ((n : Nat) : Int)))).take (HT.sIx s.length s.length none - HT.sIx s.length 0 (some ((n : Nat) : Int)))) = s.cps.toList.drop n
  rw [HT.sIx_none, HT.sIx_nat]
  have hl : s.length = s.cps.toList.length := by simp [Str.length]
  by_cases h : n ≤ s.length
  · rw [Nat.min_eq_left h, List.take_of_length_le (by rw [List.length_drop]; omega)]
  · rw [Nat.min_eq_right (by omega), Nat.sub_self, List.take_zero, List.drop_eq_nil_of_le (by omega)]
/-! ### int told as a text -/
theorem tl_strI (i : Int) : tl (Str.ofString (toString i)) = numI i := by
  cases i with
  | ofNat n =>
    have := tl_num n
    rw [show (Int.ofNat n) = ((n : Nat) : Int) from rfl, this, numI_nat]
  | negSucc n =>
    have e : toString (Int.negSucc n) = "-" ++ toString (((n + 1 : Nat) : Nat) : Int) := rfl
    rw [e, numI_neg (Int.negSucc_lt_zero n), tl_ofString, String.toList_append, List.map_append]
    have h := tl_num (n + 1)
    rw [tl_ofString] at h
    rw [h]
    rfl
theorem log_bt {n : Int} {k : Nat} (h : Bt k n) (hk : k ≤ 1900) : n.natAbs.log2 < 1920 := by
  by_cases z : n.natAbs = 0
  · rw [z]; decide
  · have := (Nat.log2_lt z).mpr h
    omega
/-! ### what a word tells -/
open Classical in
noncomputable def numInD (l : List Nat) : Dt := if h : ∃ n, l = numI n then .int h.choose else .non
open Classical in
noncomputable def oneInD (l : List Nat) : Dt := if h : ∃ q, l = fracL q then fq h.choose else .non
open Classical in
noncomputable def someInD (l : List Nat) : Dt := if h : ∃ ps, ps ≠ [] ∧ l = lineL ps then hapsD h.choose else .non
theorem numIn_some (n : Int) : numInD (numI n) = .int n := by
  have h : ∃ m, numI n = numI m := ⟨n, rfl⟩
  unfold numInD
  rw [dif_pos h, numI_inj h.choose_spec.symm]
theorem numIn_none {l : List Nat} (h : ∀ n, l ≠ numI n) : numInD l = .non := by
  unfold numInD
  rw [dif_neg fun ⟨n, e⟩ => h n e]
theorem oneIn_some (q : Rat) : oneInD (fracL q) = fq q := by
  have h : ∃ r, fracL q = fracL r := ⟨q, rfl⟩
  unfold oneInD
  rw [dif_pos h, fracL_inj h.choose_spec.symm]
theorem oneIn_none {l : List Nat} (h : ∀ q, l ≠ fracL q) : oneInD l = .non := by
  unfold oneInD
  rw [dif_neg fun ⟨n, e⟩ => h n e]
theorem someIn_some {ps : List (Rat × Rat)} (hp : ps ≠ []) : someInD (lineL ps) = hapsD ps := by
  have h : ∃ qs, qs ≠ [] ∧ lineL ps = lineL qs := ⟨ps, hp, rfl⟩
  unfold someInD
  rw [dif_pos h, lineL_inj h.choose_spec.1 hp h.choose_spec.2.symm]
theorem someIn_none {l : List Nat} (h : ∀ ps, ps ≠ [] → l ≠ lineL ps) : someInD l = .non := by
  unfold someInD
  rw [dif_neg fun ⟨n, e1, e⟩ => h n e1 e]
theorem numIn_or (l : List Nat) : (∃ n, l = numI n ∧ numInD l = .int n) ∨ ((∀ n, l ≠ numI n) ∧ numInD l = .non) := by
  by_cases h : ∃ n, l = numI n
  · obtain ⟨n, rfl⟩ := h
    exact .inl ⟨n, rfl, numIn_some n⟩
  · exact .inr ⟨fun n e => h ⟨n, e⟩, numIn_none fun n e => h ⟨n, e⟩⟩
theorem oneIn_or (l : List Nat) : (∃ q, l = fracL q ∧ oneInD l = fq q) ∨ ((∀ q, l ≠ fracL q) ∧ oneInD l = .non) := by
  by_cases h : ∃ q, l = fracL q
  · obtain ⟨n, rfl⟩ := h
    exact .inl ⟨n, rfl, oneIn_some n⟩
  · exact .inr ⟨fun n e => h ⟨n, e⟩, oneIn_none fun n e => h ⟨n, e⟩⟩
theorem someIn_or (l : List Nat) : (∃ ps, ps ≠ [] ∧ l = lineL ps ∧ someInD l = hapsD ps) ∨ ((∀ ps, ps ≠ [] → l ≠ lineL ps) ∧ someInD l = .non) := by
  by_cases h : ∃ ps, ps ≠ [] ∧ l = lineL ps
  · obtain ⟨ps, h1, rfl⟩ := h
    exact .inl ⟨ps, h1, rfl, someIn_some h1⟩
  · exact .inr ⟨fun n e1 e => h ⟨n, e1, e⟩, someIn_none fun n e1 e => h ⟨n, e1, e⟩⟩
/-! ### None among numbers; lists of what words tell -/
def nonB : Dt → Bool
  | .non => true
  | _ => false
theorem pys_nums : ∀ (l : List (List Nat)), ∃ ps, pys (l.map numInD) = some ps ∧ (∀ p ∈ ps, p.canLay0 = true ∧ p.depth ≤ 8) ∧ (ps.any fun z => PyData.eqv z .none) = (l.map numInD).any nonB
  | [] => ⟨[], rfl, (fun p hp => by cases hp), rfl⟩
  | x :: l => by
    obtain ⟨ps, h1, h2, h3⟩ := pys_nums l
    rcases numIn_or x with ⟨n, _, e⟩ | ⟨_, e⟩
    · refine ⟨.int n :: ps, by rw [List.map_cons, pys, h1, e]; rfl, fun p hp => ?_, ?_⟩
      · rcases List.mem_cons.mp hp with rfl | hp
        · exact ⟨rfl, Nat.zero_le _⟩
        · exact h2 p hp
      · rw [List.any_cons, List.map_cons, List.any_cons, h3, e]
        rfl
    · refine ⟨.none :: ps, by rw [List.map_cons, pys, h1, e]; rfl, fun p hp => ?_, ?_⟩
      · rcases List.mem_cons.mp hp with rfl | hp
        · exact ⟨rfl, Nat.zero_le _⟩
        · exact h2 p hp
      · rw [List.any_cons, List.map_cons, List.any_cons, h3, e]
        rfl
theorem pys_ones : ∀ (l : List (List Nat)), ∃ ps, pys (l.map oneInD) = some ps ∧ (∀ p ∈ ps, p.canLay0 = true ∧ p.depth ≤ 8) ∧ (ps.any fun z => PyData.eqv z .none) = (l.map oneInD).any nonB
  | [] => ⟨[], rfl, (fun p hp => by cases hp), rfl⟩
  | x :: l => by
    obtain ⟨ps, h1, h2, h3⟩ := pys_ones l
    rcases oneIn_or x with ⟨q, _, e⟩ | ⟨_, e⟩
    · refine ⟨.tuple [.int q.num, .int (q.den : Int)] :: ps, by rw [List.map_cons, pys, h1, e]; rfl, fun p hp => ?_, ?_⟩
      · rcases List.mem_cons.mp hp with rfl | hp
        · exact ⟨rfl, by simp [PyData.depth, PyData.depthAll]⟩
        · exact h2 p hp
      · rw [List.any_cons, List.map_cons, List.any_cons, h3, e]
        rfl
    · refine ⟨.none :: ps, by rw [List.map_cons, pys, h1, e]; rfl, fun p hp => ?_, ?_⟩
      · rcases List.mem_cons.mp hp with rfl | hp
        · exact ⟨rfl, Nat.zero_le _⟩
        · exact h2 p hp
      · rw [List.any_cons, List.map_cons, List.any_cons, h3, e]
        rfl
theorem r2_noneNums {K : PySem.W.Frag} (l : List (List Nat)) : R2D K (rInD K) .non (.lst (l.map numInD)) (.bl ((l.map numInD).any nonB)) := by
  obtain ⟨ps, h1, h2, h3⟩ := pys_nums l
  rw [← h3]
  exact r2_in rfl h1 rfl (sh_lst h2)
theorem r2_noneOnes {K : PySem.W.Frag} (l : List (List Nat)) : R2D K (rInD K) .non (.lst (l.map oneInD)) (.bl ((l.map oneInD).any nonB)) := by
  obtain ⟨ps, h1, h2, h3⟩ := pys_ones l
  rw [← h3]
  exact r2_in rfl h1 rfl (sh_lst h2)
theorem nums_all {l : List (List Nat)} (h : (l.map numInD).any nonB = false) : ∃ ns : List Int, l = ns.map numI ∧ l.map numInD = ns.map Dt.int := by
  induction l with
  | nil => exact ⟨[], rfl, rfl⟩
  | cons x l ih =>
    rw [List.map_cons, List.any_cons, Bool.or_eq_false_iff] at h
    obtain ⟨ns, e1, e2⟩ := ih h.2
    rcases numIn_or x with ⟨n, en, e⟩ | ⟨_, e⟩
    · exact ⟨n :: ns, by rw [List.map_cons, en, e1], by rw [List.map_cons, e, e2]; rfl⟩
    · rw [e] at h
      cases h.1
theorem ones_all {l : List (List Nat)} (h : (l.map oneInD).any nonB = false) : ∃ qs : List Rat, l = qs.map fracL ∧ l.map oneInD = qs.map fq := by
  induction l with
  | nil => exact ⟨[], rfl, rfl⟩
  | cons x l ih =>
    rw [List.map_cons, List.any_cons, Bool.or_eq_false_iff] at h
    obtain ⟨ns, e1, e2⟩ := ih h.2
    rcases oneIn_or x with ⟨n, en, e⟩ | ⟨_, e⟩
    · exact ⟨n :: ns, by rw [List.map_cons, en, e1], by rw [List.map_cons, e, e2]; rfl⟩
    · rw [e] at h
      cases h.1
/-! ### loops over data with a list that grows, which may hand back -/
section
variable {K : PySem.W.Frag} {sl : List Sl} {t u : TS} {tl' : TE} {p : Addr} {ds as : List Dt} {i : Nat} {x : Dt}
theorem rk_forG (I : Nat → List Sl → List Dt → Prop) (h : Ev K tl' sl (.lst as)) (hn : as.length ≤ 90000) (h0 : I 0 sl ds) (hs : ∀ (k : Nat) (a : Dt) s d, as[k]? = some a → I k s d → Il K t (s.set i (.d a)) [] p d (I (k + 1))) (g : ∀ s d, I as.length s d → Rk K u s p d x) : Rk K (tSeq (tFor (iList K tl') (gName i) t) u) sl p ds x := fun G H σ e f l D q =>
  h G H σ e f _ fun v G1 H1 n1 r1 => by
    cases r1 with
    | lst hl rs =>
      rename_i a xs
      have hlen := rs.length
      refine ⟨a, rfl, ⟨_, Evl.ex_l n1.k hl⟩, for_list (K := K) (a := a) (xs := xs) (fun k σ' H' => ∃ G' s' d', I k s' d' ∧ NxL p [] G H G' H' ∧ Ex G1 G' ∧ Ls K p d' G' H' ∧ FrD K G' σ' s') ⟨G1, sl, ds, h0, n1.p.l, Ex.refl _, l.nx n1, FrD.mono n1.g f⟩ (fun k σ' H' _ ⟨G', s', d', i', n', e', _⟩ => Evl.ex_l n'.k (Evl.ex_l e' hl)) ?_ ?_⟩
      · rintro k y σ2 H2 hi ⟨G2, s2, d2, i2, n2, e2, l2, f2⟩
        have hi2 : k < xs.length := (List.getElem?_eq_some_iff.mp hi).1
        have hd : as[k]? = some as[k] := List.getElem?_eq_getElem (by omega)
        obtain ⟨v, hv, rv⟩ := rs.get hd
        rw [hi] at hv
        cases hv
        exact hs k _ s2 d2 hd i2 (fun z => by cases z) G2 H2 _ n2.k (frd_set (.d (rv.mono e2)) _ f2) .nil l2 _ fun σ3 s3 d3 G3 H3 i3 n3 m3 l3 f3 => ⟨G3, s3, d3, i3, n2.trans n3, e2.trans n3.g, l3, f3⟩
      · rintro σ2 H2 ⟨G2, s2, d2, i2, n2, e2, l2, f2⟩
        rw [hlen] at i2
        exact g s2 d2 i2 G2 H2 σ2 n2.k f2 l2 D fun v G3 H3 n3 => q v G3 H3 (n2.trans n3)
theorem rk_forO (I : Nat → List Sl → List Dt → Prop) {m : Nat} (h : Ev K tl' sl (.lst as)) (hn : as.length ≤ 90000) (hm : m < as.length) (h0 : I 0 sl ds) (hs : ∀ (k : Nat) (a : Dt) s d, k < m → as[k]? = some a → I k s d → Il K t (s.set i (.d a)) [] p d (I (k + 1))) (g : ∀ (a : Dt) s d, as[m]? = some a → I m s d → Rk K t (s.set i (.d a)) p d x) : Rk K (tSeq (tFor (iList K tl') (gName i) t) u) sl p ds x := fun G H σ e f l D q =>
  h G H σ e f _ fun v G1 H1 n1 r1 => by
    cases r1 with
    | lst hl rs =>
      rename_i a xs
      have hlen := rs.length
      refine ⟨a, rfl, ⟨_, Evl.ex_l n1.k hl⟩, for_list (K := K) (a := a) (xs := xs) (fun k σ' H' => k ≤ m ∧ ∃ G' s' d', I k s' d' ∧ NxL p [] G H G' H' ∧ Ex G1 G' ∧ Ls K p d' G' H' ∧ FrD K G' σ' s') ⟨Nat.zero_le _, G1, sl, ds, h0, n1.p.l, Ex.refl _, l.nx n1, FrD.mono n1.g f⟩ (fun k σ' H' _ ⟨_, G', s', d', i', n', e', _⟩ => Evl.ex_l n'.k (Evl.ex_l e' hl)) ?_ ?_⟩
      · rintro k y σ2 H2 hi ⟨hkm, G2, s2, d2, i2, n2, e2, l2, f2⟩
        have hi2 : k < xs.length := (List.getElem?_eq_some_iff.mp hi).1
        have hd : as[k]? = some as[k] := List.getElem?_eq_getElem (by omega)
        obtain ⟨v, hv, rv⟩ := rs.get hd
        rw [hi] at hv
        cases hv
        by_cases hk2 : k < m
        · exact hs k _ s2 d2 hk2 hd i2 (fun z => by cases z) G2 H2 _ n2.k (frd_set (.d (rv.mono e2)) _ f2) .nil l2 _ fun σ3 s3 d3 G3 H3 i3 n3 m3 l3 f3 => ⟨hk2, G3, s3, d3, i3, n2.trans n3, e2.trans n3.g, l3, f3⟩
        · have ek : k = m := by omega
          subst ek
          exact g _ s2 d2 hd i2 G2 H2 _ n2.k (frd_set (.d (rv.mono e2)) _ f2) l2 _ fun v G3 H3 n3 => q v G3 H3 (n2.trans n3)
      · rintro σ2 H2 ⟨hkm, _⟩
        omega
end
/-! ### calls in a try that hand back new lists -/
section
variable {K : PySem.W.Frag} {sl : List Sl} {ta : TA} {xs es : List Dt} {R : List Dt → List Dt → Prop} {XF : List Dt → Value → Prop} {c : Value}
theorem ev_callSL {E : L2.St → XK} (h : EvA K ta sl xs) (hr : R xs es) : Ev K (tCallS (spXL K R XF) E ta) sl (.lst es) := fun G H σ k f Q q =>
  h G H σ k f _ fun vs G2 H2 n2 r2 => ⟨xs, G2, n2.k, r2, .inl ⟨es, hr, fun p ws G3 H3 hp n3 g3 h3 r3 => by
    have z := freeze hp n3 g3 h3 r3
    exact q _ _ _ (n2.trans z.1) z.2⟩⟩
theorem tx_callSL (h : EvA K ta sl xs) (hx : XF xs c) : TeX K (fun W => tCallS (spXL K R XF) (fun σ c d H => W c d σ H) ta) sl c := fun G H σ k f W Q q =>
  h G H σ k f _ fun vs G2 H2 n2 r2 => ⟨xs, G2, n2.k, r2, .inr ⟨c, hx, fun G3 H3 n3 => q G3 H3 (n2.trans n3)⟩⟩
end
end Z
namespace Z
open PySem PySem.Spec PyProof.Rows L2 RZ
open PySem.NumText TL
open Evl (Ex)
theorem ep_slSfrom {K : PySem.W.Frag} {sl : List Sl} {ps : List Addr} {te th : TE} {s : Str} {R : Dt → Prop} (h : Ev K te sl (.str s)) (hn : s.length ≤ 100000) (hb : Ep K th sl ps fun x => ∃ n : Int, x = .int n ∧ R (.str (cutS s (some n) none))) : Ep K (tSl rSlS te (tPart th) tNoPart) sl ps R := fun G H σ k f m Q q =>
  h G H σ k f _ fun v G1 H1 n1 r1 => by
    cases r1
    refine hb G1 H1 σ n1.k (FrD.mono n1.g f) (m.nx n1) _ fun w x G2 H2 ⟨n, ex, hR⟩ n2 m2 r2 => ?_
    subst ex
    cases r2
    exact ⟨n, rfl, s, rfl, sz_ok hn, q _ _ G2 H2 hR (n1.p.trans n2) m2 (.str _)⟩
/-! ### texts with shorter runs, and what one sign makes of them -/
structure TxP (s : Str) : Prop where
  mr : Mr 120 (tl s)
  len : s.length ≤ 30000
  ok : ∀ c ∈ tl s, c < 0x110000
theorem TxP.c {s : Str} (h : TxP s) : TxC s := ⟨h.mr.mono (by decide), Nat.le_trans h.len (by decide), h.ok⟩
theorem Mr.take {m n : Nat} {l : List Nat} (h : Mr m l) : Mr m (l.take n) := h.sub (a := []) (b := l.take n) (c := l.drop n) (by simp)
theorem Mr.drop {m n : Nat} {l : List Nat} (h : Mr m l) : Mr m (l.drop n) := h.sub (a := l.take n) (b := l.drop n) (c := []) (by simp)
theorem mr_short {m : Nat} {l : List Nat} (h : l.length ≤ m) : Mr m l := mr_len.mono h
theorem tx_spoil {s g : Str} {k n : Nat} (h : TxP s) (hg : (tl g).length ≤ 1) (ho : ∀ c ∈ tl g, c < 0x110000) : TxC (cutS s none (some ((k : Nat) : Int)) ++ g ++ cutS s (some ((n : Nat) : Int)) none) := by
  have e : tl (cutS s none (some ((k : Nat) : Int)) ++ g ++ cutS s (some ((n : Nat) : Int)) none) = (tl s).take k ++ tl g ++ (tl s).drop n := by rw [tl_append, tl_append, cut_to, cut_from]
  have hl := h.len
  rw [len_tl] at hl
  refine ⟨?_, ?_, ?_⟩
  · rw [e]
    exact ((h.mr.take.app (mr_short hg)).app h.mr.drop).mono (by decide)
  · rw [len_tl, e, List.length_append, List.length_append, List.length_take, List.length_drop]
    omega
  · rw [e]
    intro c hc
    rcases List.mem_append.mp hc with hc | hc
    · rcases List.mem_append.mp hc with hc | hc
      · exact h.ok c (List.mem_of_mem_take hc)
      · exact ho c hc
    · exact h.ok c (List.mem_of_mem_drop hc)
theorem tx_two {s t y : Str} (h : TxP s) (g : TxP t) (hy : tl y = [32]) : TxC (s ++ y ++ t) := by
  have e : tl (s ++ y ++ t) = tl s ++ 32 :: tl t := by rw [tl_append, tl_append, hy]; simp
  have hl := h.len
  have gl := g.len
  rw [len_tl] at hl gl
  refine ⟨?_, ?_, ?_⟩
  · rw [e]
    exact (h.mr.sep g.mr (.inl rfl)).mono (by decide)
  · rw [len_tl, e, List.length_append, List.length_cons]
    omega
  · rw [e]
    intro c hc
    rcases List.mem_append.mp hc with hc | hc
    · exact h.ok c hc
    · rcases List.mem_cons.mp hc with rfl | hc
      · decide
      · exact g.ok c hc
theorem TxP.empty : TxP "" := ⟨TxC.empty.mr.sub (a := []) (b := tl ("" : Str)) (c := []) (by simp) |> fun _ => by rw [sl0]; exact mr_short (Nat.zero_le _), by decide +kernel, TxC.empty.ok⟩
theorem tx_after {s y : Str} (h : TxP s) (hy : tl y = [32]) : TxC (s ++ y) := by
  have := tx_two h TxP.empty hy
  have e : s ++ y ++ ("" : Str) = s ++ y := ext_tl (by rw [tl_append, sl0, List.append_nil])
  rwa [e] at this
theorem tx_before {s y : Str} (h : TxP s) (hy : tl y = [32]) : TxC (y ++ s) := by
  have := tx_two TxP.empty h hy
  have e : ("" : Str) ++ y ++ s = y ++ s := ext_tl (by rw [tl_append, tl_append, tl_append, sl0, List.nil_append])
  rwa [e] at this
theorem txp_str {l : List Nat} (hm : Mr 120 l) (hl : l.length ≤ 30000) (ho : ∀ c ∈ l, c < 0x110000) : TxP (mkS l) := ⟨by rw [tl_mkS]; exact hm, by rw [len_tl, tl_mkS]; exact hl, by rw [tl_mkS]; exact ho⟩
theorem numI_ok (n : Int) : ∀ c ∈ numI n, c < 0x110000 := fun c hc => by
  unfold numI at hc
  split at hc
  · rcases List.mem_cons.mp hc with rfl | hc
    · decide
    · have := numL_digits _ c hc
      omega
  · have := numL_digits _ c hc
    omega
theorem join_all {P : Nat → Prop} {S : List Nat} (hS : ∀ c ∈ S, P c) : ∀ {parts : List (List Nat)}, (∀ p ∈ parts, ∀ c ∈ p, P c) → ∀ c ∈ joinL S parts, P c
  | [], _, c, hc => by simp [joinL] at hc
  | [p], h, c, hc => h p List.mem_cons_self c hc
  | p :: r :: l, h, c, hc => by
    have hc : c ∈ p ++ (S ++ joinL S (r :: l)) := hc
    rcases List.mem_append.mp hc with hc | hc
    · exact h p List.mem_cons_self c hc
    · rcases List.mem_append.mp hc with hc | hc
      · exact hS c hc
      · exact join_all hS (fun x hx => h x (List.mem_cons_of_mem _ hx)) c hc
theorem fracL_ok (q : Rat) : ∀ c ∈ fracL q, c < 0x110000 := join_all (by simp) fun p hp => by
  unfold partsF at hp
  split at hp
  · rw [List.mem_singleton.mp hp]
    exact numI_ok _
  · rcases List.mem_cons.mp hp with rfl | hp
    · exact numI_ok _
    · rw [List.mem_singleton.mp hp, ← numI_nat]
      exact numI_ok _
theorem hapL_ok (p : Rat × Rat) : ∀ c ∈ hapL p, c < 0x110000 := join_all (by simp) fun x hx => by
  simp only [List.mem_cons, List.not_mem_nil, or_false] at hx
  rcases hx with rfl | rfl <;> exact fracL_ok _
theorem lineL_ok (ps : List (Rat × Rat)) : ∀ c ∈ lineL ps, c < 0x110000 := join_all (by simp) fun x hx => by
  obtain ⟨p, _, rfl⟩ := List.mem_map.mp hx
  exact hapL_ok p
theorem fracL_mr {q : Rat} {k : Nat} (hk : 1 ≤ k) (h : Bq k q) : Mr (k + 1) (fracL q) := by
  refine mr_join (.inr (.inl rfl)) fun p hp => ?_
  unfold partsF at hp
  split at hp
  · rw [List.mem_singleton.mp hp]
    exact mr_short (numI_k hk h.1)
  · rcases List.mem_cons.mp hp with rfl | hp
    · exact mr_short (numI_k hk h.1)
    · rw [List.mem_singleton.mp hp, ← numI_nat]
      exact mr_short (numI_k hk h.2)
theorem hapL_mr {p : Rat × Rat} {k : Nat} (hk : 1 ≤ k) (h : Bq k p.1 ∧ Bq k p.2) : Mr (k + 1) (hapL p) := mr_join (.inr (.inr rfl)) fun x hx => by
  simp only [List.mem_cons, List.not_mem_nil, or_false] at hx
  rcases hx with rfl | rfl
  · exact fracL_mr hk h.1
  · exact fracL_mr hk h.2
theorem lineL_mr {ps : List (Rat × Rat)} {k : Nat} (hk : 1 ≤ k) (h : ∀ p ∈ ps, Bq k p.1 ∧ Bq k p.2) : Mr (k + 1) (lineL ps) := mr_join (.inl rfl) fun x hx => by
  obtain ⟨p, hp, rfl⟩ := List.mem_map.mp hx
  exact hapL_mr hk (h p hp)
theorem join_len {z m : Nat} : ∀ {parts : List (List Nat)}, (∀ p ∈ parts, p.length ≤ m) → (joinL [z] parts).length ≤ parts.length * (m + 1)
  | [], _ => by simp [joinL]
  | [p], h => by
    have := h p List.mem_cons_self
    show p.length ≤ 1 * (m + 1)
    omega
  | p :: r :: l, h => by
    have h1 := h p List.mem_cons_self
    have h2 := join_len (z := z) (parts := r :: l) fun x hx => h x (List.mem_cons_of_mem _ hx)
    show (p ++ ([z] ++ joinL [z] (r :: l))).length ≤ _
    rw [List.length_append, List.length_append, List.length_cons (a := p), Nat.succ_mul]
    show _ + (1 + _) ≤ _
    omega
theorem txp_frac {q : Rat} (h : Bq 110 q) : TxP (mkS (fracL q)) := txp_str ((fracL_mr (by decide) h).mono (by decide)) (Nat.le_trans (fracL_len (by decide) h) (by decide)) (fracL_ok q)
theorem txp_line {ps : List (Rat × Rat)} (h : ∀ p ∈ ps, Bq 90 p.1 ∧ Bq 90 p.2) (hn : ps.length ≤ 60) : TxP (mkS (lineL ps)) := txp_str ((lineL_mr (by decide) h).mono (by decide)) (by
  have := join_len (z := 32) (m := 365) (parts := ps.map hapL) fun x hx => by
    obtain ⟨p, hp, rfl⟩ := List.mem_map.mp hx
    exact hapL_len (by decide) (h p hp)
  rw [List.length_map] at this
  have h2 : ps.length * (365 + 1) ≤ 60 * (365 + 1) := Nat.mul_le_mul_right _ hn
  show (joinL [32] (ps.map hapL)).length ≤ _
  omega) (lineL_ok ps)
theorem tx_lit {s : Str} (h : (tl s).length ≤ 120) (ho : ∀ c ∈ tl s, c < 0x110000) : TxC s := (TxP.mk (mr_short h) (by rw [len_tl]; omega) ho).c
/-- a method of a new list that a call hands back -/
theorem nt_bmF {K : PySem.W.Frag} {sl : List Sl} {te : TE} {ta : TA} {es as ds' : List Dt} {x : Dt} {r : V → List V → Hp → VK → Prop} (hF : Ef K te sl es) (h : EvA K ta sl as) (hr : BmD K r es as ds' x) : Nt K (tDrop (tBM K "list" r te ta)) sl sl := fun G H σ k f D q =>
  hF G H σ k f _ fun p ws G1 H1 hp n1 g1 h1 r1 => ⟨.inl ⟨rfl, ws, .inl (.inl h1)⟩, h G1 H1 σ n1.k (FrD.mono n1.g f) _ fun us G2 H2 n2 r2 => by
    have g2 : G2 p = none := n2.f p g1 (by rw [h1]; intro z; cases z)
    have n12 := n1.trans n2
    refine hr G2 H2 p ws us n2.k g2 (n2.h p _ h1) (r1.mono n2.g) r2 _ fun y ws' _ _ => q σ G2 (upd H2 p (.lst ws')) ⟨n12.g, fun b o e1 => ?_, fun b o e1 => ?_, fun b h1 h2 => n12.f b h1 h2⟩ (FrD.mono n12.g f)
    · rw [upd_ne (fun z => by rw [z, hp] at e1; cases e1)]
      exact n12.h b o e1
    · rw [upd_ne (fun z => by rw [z, g2] at e1; cases e1)]
      exact n12.k b o e1⟩
end Z
namespace Z
open PySem PySem.Spec PyProof.Rows L2 RZ
open Evl (Ex)
def topS (i : Nat) : Stmt := PySem.Challenge.pw_seatclocks_k04_written_and_read.main.body.getD i (.Pass ⟨0, 0, 0, 0⟩)
/-! ### small tactics over the words of this text: walk_at "ev" evaluates an expression's reading, "et" a test's, "ea" arguments', "bq" "bt" sizes, "rok" what a callee promises -/
local macro_rules | `(tactic| walk_at "bt0") => `(tactic| first
  | with_reducible assumption
  | exact (And.left (by assumption : Bq _ _))
  | exact (And.right (by assumption : Bq _ _))
  | (with_reducible apply bt_mul; walk_at "bt0"; walk_at "bt0"))
local macro_rules | `(tactic| walk_at "bt") => `(tactic| (apply Bt.mono; walk_at "bt0"; decide))
local macro_rules | `(tactic| walk_at "bq0") => `(tactic| first
  | with_reducible assumption
  | (with_reducible apply bq_add; walk_at "bq0"; walk_at "bq0")
  | (with_reducible apply bq_sub; walk_at "bq0"; walk_at "bq0")
  | (with_reducible apply bq_mul; walk_at "bq0"; walk_at "bq0")
  | (with_reducible apply bq_neg; walk_at "bq0")
  | (with_reducible apply bq_jn; walk_at "bq0"; walk_at "bq0"; walk_at "ne")
  | exact bq_one
  | exact bq_zero
  | (with_reducible apply bq_quo; walk_at "bq0"; walk_at "bq0"; walk_at "ne"))
local macro_rules | `(tactic| walk_at "bq") => `(tactic| (apply Bq.mono; walk_at "bq0"; decide))
local macro_rules | `(tactic| walk_at "ne") => `(tactic| first | assumption | exact den_ne _ | omega | decide | (apply num_ne.mpr; assumption))
local macro_rules | `(tactic| walk_at "mul") => `(tactic| first
  | exact mulL ⟨by decide, by decide⟩
  | exact mulR ⟨by decide, by decide⟩
  | exact mulL ⟨by omega, by omega⟩
  | exact mulR ⟨by omega, by omega⟩
  | (apply mulok; walk_at "bt0"; walk_at "bt0"; decide))
local macro_rules | `(tactic| walk_at "r2") => `(tactic| first
  | exact r2_add
  | exact r2_sub
  | exact fx0
  | exact fx1
  | exact ix0
  | exact ix1
  | exact r2_lt
  | exact r2_le
  | exact r2_gt
  | exact r2_ge
  | exact r2_eqI
  | exact r2_neI
  | exact r2_eqF
  | exact r2_isN
  | exact r2_notN
  | exact r2_eqB
  | exact r2_neB
  | exact r2_isB
  | exact r2_notB
  | exact r2_eqS (by decide +kernel) (by decide +kernel)
  | exact r2_neS (by decide +kernel) (by decide +kernel)
  | (apply r2_mul; walk_at "mul")
  | (apply r2_mod; walk_at "ne")
  | exact r2_pow ⟨by decide, by decide, by decide⟩
  | exact r2_ixT rfl
  | exact r2_ixL rfl
  | exact r2_cat (by exact Nat.le_of_ble_eq_true rfl))
local macro_rules | `(tactic| walk_at "rc") => `(tactic| first
  | exact rc_abs | exact rc_max | exact rc_min | exact rc_gcd | exact rc_lenT | exact rc_lenL | exact rc_intB)
local macro_rules | `(tactic| walk_at "kb") => `(tactic| first
  | exact kb_ii | exact kb_ib | exact kb_tt | exact kb_bb | exact kb_ss | exact kb_is | assumption)
local macro_rules | `(tactic| walk_at "rok") => `(tactic| first
  | exact low_ok (by walk_at "ne") (by walk_at "bt")
  | exact sum_ok (by walk_at "bq") (by walk_at "bq")
  | exact gap_ok (by walk_at "bq") (by walk_at "bq")
  | exact prod_ok (by walk_at "bq") (by walk_at "bq")
  | exact less_ok (by walk_at "bq") (by walk_at "bq")
  | exact quot_ok (by walk_at "bq") (by walk_at "bq") (by walk_at "ne")
  | exact joined_ok (by walk_at "jb") (by walk_at "ne"))
local macro_rules | `(tactic| walk_at "jb") => `(tactic| first | assumption | (refine ⟨_, _, by walk_at "bq0", by walk_at "bq0", ?_⟩; decide))
local macro_rules | `(tactic| walk_at "btd") => `(tactic| first | assumption | (apply Bt.mono; exact And.right (by assumption : Bq _ _); decide))
local macro_rules | `(tactic| walk_at "ea") => `(tactic| first
  | exact ea_nil
  | (apply ea_cons; walk_at "ev"; walk_at "ea"))
local macro_rules | `(tactic| walk_at "ev") => `(tactic| first
  | exact ev_var rfl
  | exact ev_int
  | exact ev_bl
  | exact ev_str
  | exact ev_non
  | exact ev_dct
  | (apply ev_isi; walk_at "ev"; walk_at "kb")
  | (apply ev_op; walk_at "ev"; walk_at "ev"; walk_at "r2")
  | (apply ev_un; walk_at "ev"; exact r1_neg)
  | (apply ev_tup; walk_at "ea"; (exact Nat.le_of_ble_eq_true rfl))
  | (apply ev_lst; walk_at "ea"; (exact Nat.le_of_ble_eq_true rfl))
  | (apply ev_callX; walk_at "ea"; walk_at "rok")
  | (apply ev_call; walk_at "ea"; walk_at "rok")
  | (apply ev_cb; walk_at "ea"; walk_at "rc")
  | (apply ev_andV; walk_at "ev"; (intro _; walk_at "ev"))
  | (apply ev_orV; walk_at "ev"; (intro _; walk_at "ev"))
  | (apply ev_notV; walk_at "ev"))
local macro_rules | `(tactic| walk_at "et") => `(tactic| first
  | (apply et_test; walk_at "ev")
  | (apply et_B; walk_at "ev")
  | (apply et_not; walk_at "et")
  | (apply et_and; walk_at "et"; (intro _; walk_at "et"))
  | (apply et_or; walk_at "et"; (intro _; walk_at "et")))
local macro_rules | `(tactic| walk_at "nt") => `(tactic| first
  | (apply nt_asg; walk_at "ev")
  | (apply nt_par; walk_at "ea"))
local macro_rules | `(tactic| walk_at "wk") => `(tactic| first
  | exact .nil
  | (refine .cons (.same _) ?_; walk_at "wk")
  | (refine .cons (.no _) ?_; walk_at "wk"))
abbrev s_is_whole : Stmt := topS 22
theorem sc_is_whole : FnScope ["thing"] ["thing"] (defScope s_is_whole) := ⟨rfl, rfl, rfl, by decide +kernel, rfl, by decide +kernel, by decide +kernel⟩
abbrev s_is_fraction : Stmt := topS 23
theorem sc_is_fraction : FnScope ["thing", "top", "bottom"] ["thing"] (defScope s_is_fraction) := ⟨rfl, rfl, rfl, by decide +kernel, rfl, by decide +kernel, by decide +kernel⟩
abbrev s_number_text : Stmt := topS 26
theorem sc_number_text : FnScope ["number", "behind", "rest"] ["number"] (defScope s_number_text) := ⟨rfl, rfl, rfl, by decide +kernel, rfl, by decide +kernel, by decide +kernel⟩
abbrev s_number_read : Stmt := topS 27
theorem sc_number_read : FnScope ["text", "figures", "number", "figure"] ["text"] (defScope s_number_read) := ⟨rfl, rfl, rfl, by decide +kernel, rfl, by decide +kernel, by decide +kernel⟩
abbrev s_fraction_text : Stmt := topS 28
theorem sc_fraction_text : FnScope ["one"] ["one"] (defScope s_fraction_text) := ⟨rfl, rfl, rfl, by decide +kernel, rfl, by decide +kernel, by decide +kernel⟩
abbrev s_haps_text : Stmt := topS 29
theorem sc_haps_text : FnScope ["haps", "time", "place"] ["haps"] (defScope s_haps_text) := ⟨rfl, rfl, rfl, by decide +kernel, rfl, by decide +kernel, by decide +kernel⟩
abbrev s_check_text : Stmt := topS 30
theorem sc_check_text : FnScope ["thing"] ["thing"] (defScope s_check_text) := ⟨rfl, rfl, rfl, by decide +kernel, rfl, by decide +kernel, by decide +kernel⟩
abbrev s_fraction_read : Stmt := topS 31
theorem sc_fraction_read : FnScope ["text", "top", "slash", "bottom", "one"] ["text"] (defScope s_fraction_read) := ⟨rfl, rfl, rfl, by decide +kernel, rfl, by decide +kernel, by decide +kernel⟩
abbrev s_hap_read : Stmt := topS 32
theorem sc_hap_read : FnScope ["text", "time", "_", "place"] ["text"] (defScope s_hap_read) := ⟨rfl, rfl, rfl, by decide +kernel, rfl, by decide +kernel, by decide +kernel⟩
abbrev s_haps_read : Stmt := topS 33
theorem sc_haps_read : FnScope ["text", "part"] ["text"] (defScope s_haps_read) := ⟨rfl, rfl, rfl, by decide +kernel, rfl, by decide +kernel, by decide +kernel⟩
abbrev s__law_cell_at : Stmt := topS 35
theorem sc__law_cell_at : FnScope ["_law_script", "_law_k"] ["_law_script", "_law_k"] (defScope s__law_cell_at) := ⟨rfl, rfl, rfl, by decide +kernel, rfl, by decide +kernel, by decide +kernel⟩
abbrev s__law_pot : Stmt := topS 36
theorem sc__law_pot : FnScope ["_law_cell", "_law_number", "_law_j", "_law_more"] ["_law_cell"] (defScope s__law_pot) := ⟨rfl, rfl, rfl, by decide +kernel, rfl, by decide +kernel, by decide +kernel⟩
abbrev s__law_take : Stmt := topS 37
theorem sc__law_take : FnScope ["_law_pot_here", "_law_far", "_law_found"] ["_law_pot_here", "_law_far"] (defScope s__law_take) := ⟨rfl, rfl, rfl, by decide +kernel, rfl, by decide +kernel, by decide +kernel⟩
abbrev s__law_low : Stmt := topS 38
theorem sc__law_low : FnScope ["_law_top", "_law_bottom", "_law_one", "_law_other"] ["_law_top", "_law_bottom"] (defScope s__law_low) := ⟨rfl, rfl, rfl, by decide +kernel, rfl, by decide +kernel, by decide +kernel⟩
abbrev s__law_frac : Stmt := topS 39
theorem sc__law_frac : FnScope ["_law_pot_here", "_law_way", "_law_top"] ["_law_pot_here"] (defScope s__law_frac) := ⟨rfl, rfl, rfl, by decide +kernel, rfl, by decide +kernel, by decide +kernel⟩
abbrev s__law_hap : Stmt := topS 40
theorem sc__law_hap : FnScope ["_law_pot_here", "_law_far", "_law_time"] ["_law_pot_here"] (defScope s__law_hap) := ⟨rfl, rfl, rfl, by decide +kernel, rfl, by decide +kernel, by decide +kernel⟩
abbrev s__law_haps : Stmt := topS 41
theorem sc__law_haps : FnScope ["_law_pot_here", "_law_most", "_law_found", "_law_turn", "_law_hap_here"] ["_law_pot_here", "_law_most"] (defScope s__law_haps) := ⟨rfl, rfl, rfl, by decide +kernel, rfl, by decide +kernel, by decide +kernel⟩
abbrev s__law_whole : Stmt := topS 42
theorem sc__law_whole : FnScope ["_law_thing"] ["_law_thing"] (defScope s__law_whole) := ⟨rfl, rfl, rfl, by decide +kernel, rfl, by decide +kernel, by decide +kernel⟩
abbrev s__law_good : Stmt := topS 43
theorem sc__law_good : FnScope ["_law_thing"] ["_law_thing"] (defScope s__law_good) := ⟨rfl, rfl, rfl, by decide +kernel, rfl, by decide +kernel, by decide +kernel⟩
abbrev s__law_kind_of : Stmt := topS 44
theorem sc__law_kind_of : FnScope ["_law_e", "_law_some", "_law_words"] ["_law_e"] (defScope s__law_kind_of) := ⟨rfl, rfl, rfl, by decide +kernel, rfl, by decide +kernel, by decide +kernel⟩
abbrev s__law_plain : Stmt := topS 45
theorem sc__law_plain : FnScope ["_law_one"] ["_law_one"] (defScope s__law_plain) := ⟨rfl, rfl, rfl, by decide +kernel, rfl, by decide +kernel, by decide +kernel⟩
abbrev s__law_line : Stmt := topS 46
theorem sc__law_line : FnScope ["_law_haps_here", "_law_time", "_law_place"] ["_law_haps_here"] (defScope s__law_line) := ⟨rfl, rfl, rfl, by decide +kernel, rfl, by decide +kernel, by decide +kernel⟩
abbrev s__law_number_in : Stmt := topS 47
theorem sc__law_number_in : FnScope ["_law_word", "_law_figures", "_law_sign"] ["_law_word"] (defScope s__law_number_in) := ⟨rfl, rfl, rfl, by decide +kernel, rfl, by decide +kernel, by decide +kernel⟩
abbrev s__law_one_in : Stmt := topS 48
theorem sc__law_one_in : FnScope ["_law_word", "_law_parts", "_law_part", "_law_found"] ["_law_word"] (defScope s__law_one_in) := ⟨rfl, rfl, rfl, by decide +kernel, rfl, by decide +kernel, by decide +kernel⟩
abbrev s__law_some_in : Stmt := topS 49
theorem sc__law_some_in : FnScope ["_law_text", "_law_found", "_law_word", "_law_parts", "_law_part"] ["_law_text"] (defScope s__law_some_in) := ⟨rfl, rfl, rfl, by decide +kernel, rfl, by decide +kernel, by decide +kernel⟩
abbrev s__law_told : Stmt := topS 50
theorem sc__law_told : FnScope ["_law_way", "_law_text", "_law_e"] ["_law_way", "_law_text"] (defScope s__law_told) := ⟨rfl, rfl, rfl, by decide +kernel, rfl, by decide +kernel, by decide +kernel⟩
abbrev s__law_right : Stmt := topS 51
theorem sc__law_right : FnScope ["_law_text", "_law_one", "_law_some", "_law_found", "_law_hap_here"] ["_law_text"] (defScope s__law_right) := ⟨rfl, rfl, rfl, by decide +kernel, rfl, by decide +kernel, by decide +kernel⟩
abbrev s__law_spoilt : Stmt := topS 52
theorem sc__law_spoilt : FnScope ["_law_pot_here", "_law_text", "_law_place", "_law_sign", "_law_some"] ["_law_pot_here", "_law_text"] (defScope s__law_spoilt) := ⟨rfl, rfl, rfl, by decide +kernel, rfl, by decide +kernel, by decide +kernel⟩
abbrev s_law : Stmt := topS 53
theorem sc_law : FnScope ["_law_script", "_law_text", "_law_number", "_law_pot_here", "_law_one", "_law_haps_here", "_law_twice", "_law_some", "_law_turn"] ["_law_script"] (defScope s_law) := ⟨rfl, rfl, rfl, by decide +kernel, rfl, by decide +kernel, by decide +kernel⟩
structure Txt (K : PySem.W.Frag) (mg : Str → Option Value) (ca fa ka : Nat → Addr) : Prop where
  d_is_whole : Dd K mg "is_whole" s_is_whole ["thing"]
  d_is_fraction : Dd K mg "is_fraction" s_is_fraction ["thing"]
  d_number_text : Dd K mg "number_text" s_number_text ["number"]
  d_number_read : Dd K mg "number_read" s_number_read ["text"]
  d_fraction_text : Dd K mg "fraction_text" s_fraction_text ["one"]
  d_haps_text : Dd K mg "haps_text" s_haps_text ["haps"]
  d_check_text : Dd K mg "check_text" s_check_text ["thing"]
  d_fraction_read : Dd K mg "fraction_read" s_fraction_read ["text"]
  d_hap_read : Dd K mg "hap_read" s_hap_read ["text"]
  d_haps_read : Dd K mg "haps_read" s_haps_read ["text"]
  d__law_cell_at : Dd K mg "_law_cell_at" s__law_cell_at ["_law_script", "_law_k"]
  d__law_pot : Dd K mg "_law_pot" s__law_pot ["_law_cell"]
  d__law_take : Dd K mg "_law_take" s__law_take ["_law_pot_here", "_law_far"]
  d__law_low : Dd K mg "_law_low" s__law_low ["_law_top", "_law_bottom"]
  d__law_frac : Dd K mg "_law_frac" s__law_frac ["_law_pot_here"]
  d__law_hap : Dd K mg "_law_hap" s__law_hap ["_law_pot_here"]
  d__law_haps : Dd K mg "_law_haps" s__law_haps ["_law_pot_here", "_law_most"]
  d__law_whole : Dd K mg "_law_whole" s__law_whole ["_law_thing"]
  d__law_good : Dd K mg "_law_good" s__law_good ["_law_thing"]
  d__law_kind_of : Dd K mg "_law_kind_of" s__law_kind_of ["_law_e"]
  d__law_plain : Dd K mg "_law_plain" s__law_plain ["_law_one"]
  d__law_line : Dd K mg "_law_line" s__law_line ["_law_haps_here"]
  d__law_number_in : Dd K mg "_law_number_in" s__law_number_in ["_law_word"]
  d__law_one_in : Dd K mg "_law_one_in" s__law_one_in ["_law_word"]
  d__law_some_in : Dd K mg "_law_some_in" s__law_some_in ["_law_text"]
  d__law_told : Dd K mg "_law_told" s__law_told ["_law_way", "_law_text"]
  d__law_right : Dd K mg "_law_right" s__law_right ["_law_text"]
  d__law_spoilt : Dd K mg "_law_spoilt" s__law_spoilt ["_law_pot_here", "_law_text"]
  d_law : Dd K mg "law" s_law ["_law_script"]
  m_ValueError : mg "ValueError" = none
  m_abs : mg "abs" = none
  m_all : mg "all" = none
  m_bool : mg "bool" = none
  m_divmod : mg "divmod" = none
  m_int : mg "int" = none
  m_isinstance : mg "isinstance" = none
  m_len : mg "len" = none
  m_list : mg "list" = none
  m_max : mg "max" = none
  m_min : mg "min" = none
  m_range : mg "range" = none
  m_str : mg "str" = none
  m_tuple : mg "tuple" = none
  g_gcd : mg "gcd" = some (.builtin "math.gcd")
  c_MotionError : mg "MotionError" = some (.ref (ca 0))
  c_NoFraction : mg "NoFraction" = some (.ref (ca 1))
  c_NoHap : mg "NoHap" = some (.ref (ca 2))
  c_NoText : mg "NoText" = some (.ref (ca 3))
  x_NoText : Cl K mg "NoText" (ca 3)
  c_NoSpeed : mg "NoSpeed" = some (.ref (ca 4))
  c_TooMany : mg "TooMany" = some (.ref (ca 5))
  c_NotPlain : mg "NotPlain" = some (.ref (ca 6))
  c_NoStretch : mg "NoStretch" = some (.ref (ca 7))
  c_NoHaps : mg "NoHaps" = some (.ref (ca 8))
  c_NoOrder : mg "NoOrder" = some (.ref (ca 9))
  c_NoStep : mg "NoStep" = some (.ref (ca 10))
  c_NoNumber : mg "NoNumber" = some (.ref (ca 11))
  c_NoSeat : mg "NoSeat" = some (.ref (ca 12))
  c_NoRod : mg "NoRod" = some (.ref (ca 13))
  c_NoWay : mg "NoWay" = some (.ref (ca 14))
  c_NoFlash : mg "NoFlash" = some (.ref (ca 15))
  c_NoName : mg "NoName" = some (.ref (ca 16))
  c_NoDeed : mg "NoDeed" = some (.ref (ca 17))
  c_NoRow : mg "NoRow" = some (.ref (ca 18))
  e_NoText : ExcC K (ca 3)
  v_NoText : PySem.W.kitOne K (.ref (ca 3)) (.type "ValueError") = some true
  r_NoText : PySem.W.exmOne K (.ref (ca 3)) (.ref (ca 0)) = some true
  k_NoText_NoDeed : PySem.W.kitOne K (.ref (ca 3)) (.ref (ca 17)) = some false
  k_NoText_NoFlash : PySem.W.kitOne K (.ref (ca 3)) (.ref (ca 15)) = some false
  k_NoText_NoFraction : PySem.W.kitOne K (.ref (ca 3)) (.ref (ca 1)) = some false
  k_NoText_NoHap : PySem.W.kitOne K (.ref (ca 3)) (.ref (ca 2)) = some false
  k_NoText_NoHaps : PySem.W.kitOne K (.ref (ca 3)) (.ref (ca 8)) = some false
  k_NoText_NoName : PySem.W.kitOne K (.ref (ca 3)) (.ref (ca 16)) = some false
  k_NoText_NoNumber : PySem.W.kitOne K (.ref (ca 3)) (.ref (ca 11)) = some false
  k_NoText_NoOrder : PySem.W.kitOne K (.ref (ca 3)) (.ref (ca 9)) = some false
  k_NoText_NoRod : PySem.W.kitOne K (.ref (ca 3)) (.ref (ca 13)) = some false
  k_NoText_NoRow : PySem.W.kitOne K (.ref (ca 3)) (.ref (ca 18)) = some false
  k_NoText_NoSeat : PySem.W.kitOne K (.ref (ca 3)) (.ref (ca 12)) = some false
  k_NoText_NoSpeed : PySem.W.kitOne K (.ref (ca 3)) (.ref (ca 4)) = some false
  k_NoText_NoStep : PySem.W.kitOne K (.ref (ca 3)) (.ref (ca 10)) = some false
  k_NoText_NoStretch : PySem.W.kitOne K (.ref (ca 3)) (.ref (ca 7)) = some false
  k_NoText_NoText : PySem.W.kitOne K (.ref (ca 3)) (.ref (ca 3)) = some true
  k_NoText_NotPlain : PySem.W.kitOne K (.ref (ca 3)) (.ref (ca 6)) = some false
  k_NoText_NoWay : PySem.W.kitOne K (.ref (ca 3)) (.ref (ca 14)) = some false
  k_NoText_TooMany : PySem.W.kitOne K (.ref (ca 3)) (.ref (ca 5)) = some false
  v_FIGURES : ∃ u, mg "FIGURES" = some u ∧ RelV (.str "0123456789") u
section
variable {P : Program} {w : World} {K : PySem.W.Frag} {mg : Str → Option Value} {base : Heap} {ca fa ka : Nat → Addr}
def R_wh (ds : List Dt) (d : Dt) : Prop := ∃ x : Dt, ds = [x] ∧ d = .bl (isWh x)
theorem h_is_whole (T : Txt K mg ca fa ka) : Has P w K mg base CX0 1 "is_whole" ["thing"] (spP K R_wh) := by
  refine T.d_is_whole.pure sc_is_whole (fun ds d h => by obtain ⟨x, rfl, _⟩ := h; rfl) (fun f cdv A outer s H E hr => (pss_one (ps_ret (pe_and (pe_callB (isiK (K := K) rfl) (by rfl) T.m_isinstance (by decide +kernel) (pa_cons (pv 0) (pa_cons (pe_bltn (v := .ty "int") (by rfl) T.m_int (by decide +kernel) rfl) pa_nil))) (pe_one (pe_not (pe_callB (isiK (K := K) rfl) (by rfl) T.m_isinstance (by decide +kernel) (pa_cons (pv 0) (pa_cons (pe_bltn (v := .ty "bool") (by rfl) T.m_bool (by decide +kernel) rfl) pa_nil))))))))) ?_
  rintro ds d ⟨x, rfl, rfl⟩
  obtain ⟨a, b, ha, hb, e⟩ := kb_whole x
  rw [← e]
  exact rt_ret (ev_andV (ev_isi (ev_var rfl) ha) (fun _ => ev_notV (ev_isi (ev_var rfl) hb)))
def R_fr (ds : List Dt) (d : Dt) : Prop := ∃ x : Dt, ds = [x] ∧ d = .bl (isFr x)
theorem h_is_fraction (T : Txt K mg ca fa ka) : Has P w K mg base CX0 2 "is_fraction" ["thing"] (spP K R_fr) := by
  refine T.d_is_fraction.pure sc_is_fraction (fun ds d h => by obtain ⟨x, rfl, _⟩ := h; rfl) (fun f cdv A outer s H E hr => (pss_cons (ps_if (PW.pt (pw_or (pt_not (pt_val (pe_callB (isiK (K := K) rfl) (by rfl) T.m_isinstance (by decide +kernel) (pa_cons (pv 0) (pa_cons (pe_bltn (v := .ty "tuple") (by rfl) T.m_tuple (by decide +kernel) rfl) pa_nil))))) (pw_or1 (pt_cmpR (neK (K := K) rfl hr.units) (pe_callB (lenK (K := K) rfl) (by rfl) T.m_len (by decide +kernel) (pa_cons (pv 0) pa_nil)) pe_int (nomark _))))) (pss_one (ps_ret pe_bl)) pss_nil) (pss_cons (ps_asg (pv 0) (tupK (K := K) (n := 2) rfl rfl (pgs_cons (pg_name (i := 1) sc_is_fraction.nd rfl (Or.inl rfl)) (pgs_cons (pg_name (i := 2) sc_is_fraction.nd rfl (Or.inl rfl)) pgs_nil)))) (pss_one (ps_ret (pe_and (pe_h (h_is_whole T) hr (by decide) pass0 (pa_cons (pv 1) pa_nil)) (pe_and (pe_h (h_is_whole T) hr (by decide) pass0 (pa_cons (pv 2) pa_nil)) (pe_and (pe_cmpR op_gt (pv 2) pe_int (nomark _)) (pe_one (pe_cmpR (eqK (K := K) rfl hr.units) (pe_callBfun cr_gcd (by rfl) T.g_gcd (pa_cons (pv 1) (pa_cons (pv 2) pa_nil))) pe_int (nomark _))))))))))) ?_
  rintro ds d ⟨x, rfl, rfl⟩
  obtain ⟨c, hc, hiff⟩ := kb_tup x
  by_cases h : ∃ ds, x = .tup ds
  · obtain ⟨ds, rfl⟩ := h
    have c1 : c = true := hiff.mpr ⟨ds, rfl⟩
    subst c1
    refine rt_cond (et_or (et_not (et_B (ev_isi (ev_var rfl) hc))) (fun _ => et_test (ev_op (ev_cb (ea_cons (ev_var rfl) ea_nil) rc_lenT) ev_int r2_neI))) (fun hb => ?_) (fun hb => ?_)
    · refine rt_is (rt_ret ev_bl) ?_
      have hl : ds.length ≠ 2 := fun z => by
        rw [z] at hb
        simp at hb
      rw [isFr_len hl]
    · have hl : ds.length = 2 := by
        have : ((ds.length : Int) == 2) = true := by simpa using hb
        have := beq_iff_eq.mp this
        omega
      obtain ⟨a, b, rfl⟩ := two_of hl
      refine rt_seq (nt_unp (ev_var rfl)) ?_
      by_cases ha : isWh a = true
      · obtain ⟨t, rfl⟩ := isWh_iff.mp ha
        by_cases hb2 : isWh b = true
        · obtain ⟨u, rfl⟩ := isWh_iff.mp hb2
          refine rt_is (rt_ret (ev_andV (ev_call (ea_cons (ev_var rfl) ea_nil) (by exact ⟨_, rfl, rfl⟩)) (fun _ => ev_andV (ev_call (ea_cons (ev_var rfl) ea_nil) (by exact ⟨_, rfl, rfl⟩)) (fun _ => ev_andV (ev_op (ev_var rfl) ev_int r2_gt) (fun _ => ev_op (ev_cb (ea_cons (ev_var rfl) (ea_cons (ev_var rfl) ea_nil)) rc_gcd) ev_int r2_eqI))))) ?_
          rfl
        · have e : isFr (.tup [.int t, b]) = false := by
            cases b <;> first | rfl | exact absurd rfl hb2
          have hb3 : isWh b = false := by simpa using hb2
          rw [e]
          exact rt_is (rt_ret (ev_andV (ev_call (ea_cons (ev_var rfl) ea_nil) (by exact ⟨_, rfl, rfl⟩)) (fun _ => ev_andV (b := false) (ev_is (ev_call (ea_cons (ev_var rfl) ea_nil) (by exact ⟨_, rfl, rfl⟩)) (by rw [hb3])) (fun h => by cases h)))) rfl
      · have e : isFr (.tup [a, b]) = false := by
          cases a <;> first | rfl | exact absurd rfl ha
        have ha3 : isWh a = false := by simpa using ha
        rw [e]
        exact rt_is (rt_ret (ev_andV (b := false) (ev_is (ev_call (ea_cons (ev_var rfl) ea_nil) (by exact ⟨_, rfl, rfl⟩)) (by rw [ha3])) (fun h => by cases h))) rfl
  · have c0 : c = false := by
      cases c with
      | false => rfl
      | true => exact absurd (hiff.mp rfl) h
    subst c0
    have e : isFr x = false := by
      cases x <;> first | rfl | exact absurd ⟨_, rfl⟩ h
    rw [e]
    exact rt_cond (b := true) (et_is (et_or (b := true) (et_not (et_B (ev_isi (ev_var rfl) hc))) (fun h => by cases h)) rfl) (fun _ => rt_ret ev_bl) (fun h => by cases h)
def R_nt (j : Nat) (ds : List Dt) (d : Dt) : Prop := ∃ n : Int, ds = [.int n] ∧ 0 < j ∧ (j = 1 → 0 ≤ n) ∧ Bt 8000 n ∧ d = .str (mkS (numI n))
theorem numt_at (T : Txt K mg ca fa ka) : ∀ j : Nat, Has P w K mg base CX0 (j + 1) "number_text" ["number"] (spP K (R_nt j))
  | 0 => T.d_number_text.nil trivial fun ds d ⟨n, _, h, _⟩ => absurd h (Nat.lt_irrefl 0)
  | j + 1 => by
    have ih := numt_at T j
    refine T.d_number_text.pure sc_number_text (fun ds d h => by obtain ⟨_, rfl, _⟩ := h; rfl) (fun f cdv A outer s H E hr => (pss_cons (ps_if (pt_cmpR op_lt (pv 0) pe_int (nomark _)) (pss_one (ps_ret (pe_op op_adS pe_str (by exact (pe_h ih hr (Nat.le_refl _) pass0 (pa_cons (pe_un un_neg (pv 0)) pa_nil)))))) pss_nil) (pss_cons (ps_set (i := 1) sc_number_text.nd rfl (Or.inl rfl) pe_str) (pss_cons (ps_while PassesOwn.never (pt_cmpR op_ge (pv 0) (pe_op op_pow pe_int pe_int) (nomark _)) (pss_cons (ps_asg (pe_callB cdvm (by rfl) T.m_divmod (by decide +kernel) (pa_cons (pv 0) (pa_cons (pe_op op_pow pe_int pe_int) pa_nil))) (tupK (K := K) (n := 2) rfl rfl (pgs_cons (pg_name (i := 0) sc_number_text.nd rfl (Or.inl rfl)) (pgs_cons (pg_name (i := 2) sc_number_text.nd rfl (Or.inl rfl)) pgs_nil)))) (pss_one (ps_set (i := 1) sc_number_text.nd rfl (Or.inl rfl) (pe_op op_adS (pe_m1 PySem.F.slot_str_zfill PySem.F.type_str_zfill tzfl (pe_callTy cr_str (by rfl) T.m_str (by decide +kernel) (pa_cons (pv 2) pa_nil)) pe_int) (pv 1)))))) (pss_one (ps_ret (pe_op op_adS (pe_callTy cr_str (by rfl) T.m_str (by decide +kernel) (pa_cons (pv 0) pa_nil)) (pv 1)))))))) ?_
    rintro ds d ⟨n, rfl, _, h1, hb, rfl⟩
    have hlen := numL_short hb
    by_cases hn : n < 0
    · refine rt_yes (et_test (ev_op (ev_var rfl) ev_int r2_lt)) (decide_eq_true hn) ?_
      refine rt_is (rt_ret (ev_op ev_str (ev_call (ea_cons (ev_un (ev_var rfl) r1_neg) ea_nil) (by exact ⟨-n, rfl, by omega, fun _ => by omega, bt_neg hb, rfl⟩)) (r2_adS ?_))) ?_
      · rw [TL.len_tl, TL.len_tl, tl_mkS, numI_pos (by omega), Int.natAbs_neg]
        show 1 + _ ≤ _
        omega
      · refine congrArg Dt.str (TL.ext_tl ?_)
        rw [TL.tl_append, tl_mkS, tl_mkS, numI_pos (show 0 ≤ -n by omega), numI_neg hn, Int.natAbs_neg]
        rfl
    · refine rt_no (et_test (ev_op (ev_var rfl) ev_int r2_lt)) (decide_eq_false hn) ?_
      refine rt_seq (nt_asg ev_str) ?_
      have hp : ((10 : Int) ^ (60 : Int).toNat) = ((10 ^ 60 : Nat) : Int) := by decide +kernel
      have e10 : ∀ {sl : List Sl}, Ev K (tOp (rI CPow fun i j => .int (i ^ j.toNat)) (tC (.int 10)) (tC (.int 60))) sl (.int ((10 ^ 60 : Nat) : Int)) := fun {sl} => ev_is (ev_op ev_int ev_int (r2_pow ⟨by decide, by decide, by decide⟩)) (congrArg Dt.int hp)
      refine rt_ir (ir_ip (ip_while (N := fun s => ∃ (N : Nat) (B : List Nat) (c : Sl), N < 10 ^ 60 ∧ TL.numL N ++ B = TL.numL n.natAbs ∧ s = [.d (.int (N : Nat)), .d (.str (mkS B)), c]) (fun m s => ∃ (B : List Nat) (c : Sl), TL.numL m ++ B = TL.numL n.natAbs ∧ m < 2 ^ 8000 ∧ s = [.d (.int (m : Nat)), .d (.str (mkS B)), c]) n.natAbs ⟨[], .no, by rw [List.append_nil], hb, ?_⟩ ?_) ?_)
      · show [Sl.d (.int n), .d (.str ""), .no] = _
        rw [show ((n.natAbs : Nat) : Int) = n by omega]
        rfl
      · rintro m s ⟨B, c, hB, hm, rfl⟩
        have hBl : B.length ≤ 8001 := by
          have := congrArg List.length hB
          rw [List.length_append] at this
          omega
        refine ⟨_, et_test (ev_op (ev_var rfl) e10 r2_ge), fun z => ?_, fun z => ?_⟩
        · have h60 : 10 ^ 60 ≤ m := by
            have z := of_decide_eq_true z
            exact_mod_cast z
          have ed : ((m : Nat) : Int) / ((10 ^ 60 : Nat) : Int) = ((m / 10 ^ 60 : Nat) : Int) := (Int.natCast_ediv _ _).symm
          have em : ((m : Nat) : Int) % ((10 ^ 60 : Nat) : Int) = ((m % 10 ^ 60 : Nat) : Int) := (Int.natCast_emod _ _).symm
          have hr60 : m % 10 ^ 60 < 10 ^ 60 := Nat.mod_lt _ (Nat.pow_pos (by decide))
          refine ip_nt (nt_dvm (ea_cons (ev_var rfl) (ea_cons e10 ea_nil)) dvp_ok) ?_
          rw [ed, em]
          refine ip_asg1 (ep_ev (ev_op (ev_m1 (ev_cb (ea_cons (ev_var rfl) ea_nil) (rc_str (log_60 hr60))) ev_int (m1_zfl (by decide +kernel))) (ev_var rfl) (r2_adS ?_)) ?_)
          · rw [TL.len_tl, TL.len_tl, zfl_pad hr60, padL_len hr60, tl_mkS]
            omega
          · refine ⟨m / 10 ^ 60, Nat.div_lt_self (Nat.lt_of_lt_of_le (by decide) h60) (by decide +kernel), padL 60 (m % 10 ^ 60) ++ B, .d (.int ((m % 10 ^ 60 : Nat) : Int)), ?_, Nat.lt_of_le_of_lt (Nat.div_le_self _ _) hm, ?_⟩
            · rw [← List.append_assoc, ← numL_pad (by decide) h60, hB]
            · have ex : Txt.zfill (toString ((m % 10 ^ 60 : Nat) : Int) : String) 60 ++ mkS B = mkS (padL 60 (m % 10 ^ 60) ++ B) := TL.ext_tl (by rw [TL.tl_append, zfl_pad hr60, tl_mkS, tl_mkS])
              rw [ex]
              rfl
        · have h60 : m < 10 ^ 60 := by
            have z := of_decide_eq_false z
            have z : ¬ ((10 ^ 60 : Nat) : Int) ≤ ((m : Nat) : Int) := z
            have : ¬ 10 ^ 60 ≤ m := fun y => z (by exact_mod_cast y)
            omega
          exact ⟨m, B, c, h60, hB, rfl⟩
      · rintro s ⟨N, B, c, hN, hB, rfl⟩
        have hBl : B.length ≤ 8001 := by
          have := congrArg List.length hB
          rw [List.length_append] at this
          omega
        have es : TL.tl (toString ((N : Nat) : Int) : String) = TL.numL N := TL.tl_num N
        refine ir_ret (ep_ev (ev_op (ev_cb (ea_cons (ev_var rfl) ea_nil) (rc_str (log_60 hN))) (ev_var rfl) (r2_adS ?_)) ?_)
        · rw [TL.len_tl, TL.len_tl, es, tl_mkS]
          have := congrArg List.length hB
          rw [List.length_append] at this
          omega
        · refine congrArg Dt.str (TL.ext_tl ?_)
          rw [TL.tl_append, es, tl_mkS, tl_mkS, hB, numI_pos (by omega)]
theorem h_number_text (T : Txt K mg ca fa ka) : Has P w K mg base CX0 3 "number_text" ["number"] (spP K (R_nt 2)) := numt_at T 2
def R_nr (ds : List Dt) (d : Dt) : Prop := ∃ s : Str, ds = [.str s] ∧ TxC s ∧ allD (behL (TL.tl s)) = true ∧ d = .int (readI (TL.tl s))
def X_nr (ca : Nat → Addr) (ds : List Dt) (c : Value) : Prop := ∃ s : Str, ds = [.str s] ∧ TxC s ∧ allD (behL (TL.tl s)) = false ∧ c = .ref (ca 3)
theorem beh_mr {l : List Nat} (h : Mr 300 l) : Mr 300 (behL l) := by
  unfold behL
  split
  · rename_i r
    exact h.sub (a := [45]) (b := r) (c := []) (by simp)
  · exact h
theorem beh_ok {s : Str} (h : ∀ c ∈ TL.tl s, c < 0x110000) : ∀ c ∈ behL (TL.tl s), c < 0x110000 := fun c hc => by
  unfold behL at hc
  split at hc
  · rename_i r e
    exact h c (by rw [e]; exact List.mem_cons_of_mem _ hc)
  · exact h c hc
theorem nr_step (T : Txt K mg ca fa ka) {s F : Str} (eF : TL.tl F = behL (TL.tl s)) (hm : Mr 300 (TL.tl F)) {k c : Nat} (hc : (TL.tl F)[k]? = some c) (hd : (decide (48 ≤ c) && decide (c ≤ 57)) = true) (ha : PySem.NumText.AllDigits ((TL.tl F).take k)) : Nt K (tAsg (tOp (rI0 fun i j => .int (i + j)) (tOp (rI IntMulOk fun i j => .int (i * j)) (tVar 2) (tC (.int 10))) (tCB rIntS (tCons (tVar 3) tNil))) (gName 2)) [.d (.str s), .d (.str F), .d (.int ((PySem.NumText.digitsVal ((TL.tl F).take k) : Nat) : Int)), .d (sgD F k)] [.d (.str s), .d (.str F), .d (.int ((PySem.NumText.digitsVal ((TL.tl F).take (k + 1)) : Nat) : Int)), .no] := by
  have hd' : 48 ≤ c ∧ c ≤ 57 := by simpa using hd
  have hk : k < (TL.tl F).length := (List.getElem?_eq_some_iff.mp hc).1
  have hl : ((TL.tl F).take k).length ≤ 300 := (hm.sub (a := []) (b := (TL.tl F).take k) (c := (TL.tl F).drop k) (by simp)).whole (dig_noSep ha)
  have hb := dv_bt ha hl
  rw [sg_at hc]
  refine nt_less (nt_asg (ev_op (ev_op (ev_var rfl) ev_int (r2_mul (mulok (m := 4) hb (by show Int.natAbs 10 < 2 ^ 4; decide) (by decide)))) (ev_cb (ea_cons (ev_var rfl) ea_nil) (rc_intS (int_one hd') (by show 1 ≤ 640; decide))) r2_add)) ?_
  have e : (TL.tl F).take (k + 1) = (TL.tl F).take k ++ [c] := by rw [List.take_add_one, hc]; rfl
  rw [e, dv_snoc]
  have e2 : ((PySem.NumText.digitsVal ((TL.tl F).take k) : Nat) : Int) * 10 + ((c - 48 : Nat) : Int) = ((PySem.NumText.digitsVal ((TL.tl F).take k) * 10 + (c - 48) : Nat) : Int) := by push_cast; rfl
  rw [← e2]
  exact .cons (.same _) (.cons (.same _) (.cons (.same _) (.cons (.no _) .nil)))
theorem h_number_read (T : Txt K mg ca fa ka) : Has P w K mg base (L2.CX P w) 1 "number_read" ["text"] (spX K R_nr (X_nr ca)) := by
  refine T.d_number_read.raises sc_number_read (fun ds d h => by obtain ⟨_, rfl, _⟩ := h; rfl) (fun ds d h => by obtain ⟨_, rfl, _⟩ := h; rfl) (fun f cdv A outer s H E hr => (pss_cons (ps_set (i := 1) sc_number_read.nd rfl (Or.inl rfl) (pe_m1 PySem.F.slot_str_removeprefix PySem.F.type_str_removeprefix trmp (pv 0) pe_str)) (pss_cons (ps_set (i := 2) sc_number_read.nd rfl (Or.inl rfl) pe_int) (pss_cons (ps_for (passes_of rfl) rfl (pi_str (pv 1)) (pg_name (i := 3) sc_number_read.nd rfl (Or.inl rfl)) (pss_cons (ps_if (pt_cmpR op_notIn_sign (pv 3) (pe_globX (by rfl) T.v_FIGURES) (by rfl)) (pss_one (ps_raise rfl (takes_of rfl rfl rfl rfl) (pmk_own PySem.F.excBase_ValueError T.x_NoText.x T.x_NoText.g T.x_NoText.k (raises_own T.x_NoText.b T.x_NoText.t) (by exact rfl)))) pss_nil) (pss_one (ps_set (i := 2) sc_number_read.nd rfl (Or.inl rfl) (pe_op op_add (pe_op op_mulA (pv 2) pe_int) (pe_callTy cintS (by rfl) T.m_int (by decide +kernel) (pa_cons (pv 3) pa_nil))))))) (pss_cons (ps_if (pt_cmpR (eqK (K := K) rfl hr.units) (pv 1) (pv 0) (nomark _)) (pss_one (ps_ret (pv 2))) pss_nil) (pss_one (ps_ret (pe_un un_neg (pv 2))))))))) ?_ ?_
  · rintro ds d ⟨s, rfl, ht, ha, rfl⟩
    obtain ⟨F, hF⟩ : ∃ F : Str, F = Txt.removeprefix s "-" := ⟨_, rfl⟩
    have eF : TL.tl F = behL (TL.tl s) := by rw [hF]; exact rmp_min s
    have hm : Mr 300 (TL.tl F) := by rw [eF]; exact beh_mr ht.mr
    have hD : PySem.NumText.AllDigits (TL.tl F) := by rw [eF]; exact allD_iff.mp ha
    have hoF : ∀ c ∈ TL.tl F, c < 0x110000 := by rw [eF]; exact beh_ok ht.ok
    refine rx_nt (nt_asg (x := .str F) (ev_is (ev_m1 (ev_var rfl) ev_str (m1_rmp ht.ln)) (congrArg Dt.str hF.symm))) ?_
    refine rx_nt (nt_asg ev_int) ?_
    have eT : (TL.tl F).take F.cps.size = TL.tl F := by rw [cps_len, List.take_length]
    refine rx_ntE (sl1 := [.d (.str s), .d (.str F), .d (.int ((PySem.NumText.digitsVal ((TL.tl F).take F.cps.size) : Nat) : Int)), .no]) (fun E => nt_forS (i := 3) (z := F) (S := fun k => [.d (.str s), .d (.str F), .d (.int ((PySem.NumText.digitsVal ((TL.tl F).take k) : Nat) : Int)), .no]) (ev_var rfl) rfl (fun k hk => ?_)) ?_
    · rw [cps_len] at hk
      obtain ⟨c, hc⟩ : ∃ c, (TL.tl F)[k]? = some c := ⟨_, List.getElem?_eq_getElem hk⟩
      have hd := hD c (List.mem_of_getElem? hc)
      refine nt_seq (nt_no (et_is (et_test (ev_op (ev_is (ev_var rfl) (sg_at hc)) ev_str r2_sgNotIn)) ?_)) (nr_step T eF hm hc (by simpa using hd) fun x hx => hD x (List.mem_of_mem_take hx))
      rw [figs_mem, show (decide (48 ≤ c) && decide (c ≤ 57)) = true by simpa using hd]
      rfl
    rw [eT]
    have hb : (F == s) = !isMin (TL.tl s) := by
      cases hmn : isMin (TL.tl s) with
      | true =>
        obtain ⟨r, er⟩ := isMin_iff.mp hmn
        refine beq_eq_false_iff_ne.mpr fun e => ?_
        rw [e, er] at eF
        have := congrArg List.length eF
        simp [behL] at this
      | false =>
        refine beq_iff_eq.mpr (TL.ext_tl ?_)
        rw [eF]
        exact behL_no fun r er => by rw [isMin_iff.mpr ⟨r, er⟩] at hmn; cases hmn
    refine rx_all fun E => ?_
    refine rt_cond (et_test (ev_op (ev_var rfl) (ev_var rfl) (r2_eqS (sh_str hoF) (sh_str ht.ok)))) (fun z => ?_) (fun z => ?_)
    · rw [hb] at z
      refine rt_is (rt_ret (ev_var rfl)) ?_
      unfold readI
      rw [if_neg (by rw [Bool.not_eq_true'] at z; rw [z]; exact Bool.false_ne_true), eF]
    · rw [hb] at z
      refine rt_is (rt_ret (ev_un (ev_var rfl) r1_neg)) ?_
      unfold readI
      rw [if_pos (by rwa [Bool.not_eq_false'] at z), eF]
  · rintro ds c ⟨s, rfl, ht, ha, rfl⟩
    obtain ⟨F, hF⟩ : ∃ F : Str, F = Txt.removeprefix s "-" := ⟨_, rfl⟩
    have eF : TL.tl F = behL (TL.tl s) := by rw [hF]; exact rmp_min s
    have hm : Mr 300 (TL.tl F) := by rw [eF]; exact beh_mr ht.mr
    obtain ⟨m, c, h1, h2, h3⟩ := first_no (l := TL.tl F) (by rw [eF]; exact ha)
    refine rx_nt (nt_asg (x := .str F) (ev_is (ev_m1 (ev_var rfl) ev_str (m1_rmp ht.ln)) (congrArg Dt.str hF.symm))) ?_
    refine rx_nt (nt_asg ev_int) ?_
    refine rx_stx (stx_forS (i := 3) (z := F) (m := m) (S := fun k => [.d (.str s), .d (.str F), .d (.int ((PySem.NumText.digitsVal ((TL.tl F).take k) : Nat) : Int)), .no]) (ev_var rfl) rfl (by rw [cps_len]; exact (List.getElem?_eq_some_iff.mp h1).1) (fun k hk E => ?_) (stx_raise (et_test (ev_op (ev_is (ev_var rfl) (sg_at h1)) ev_str r2_sgNotIn)) ?_))
    · have hm1 := (List.getElem?_eq_some_iff.mp h1).1
      obtain ⟨c2, hc⟩ : ∃ c, (TL.tl F)[k]? = some c := ⟨_, List.getElem?_eq_getElem (by omega)⟩
      have hd := h3 c2 (List.mem_of_getElem? (i := k) (by rw [List.getElem?_take, if_pos hk]; exact hc))
      refine nt_seq (nt_no (et_is (et_test (ev_op (ev_is (ev_var rfl) (sg_at hc)) ev_str r2_sgNotIn)) ?_)) (nr_step T eF hm hc (by simpa using hd) fun x hx => h3 x (by
        have : (TL.tl F).take k = ((TL.tl F).take m).take k := by rw [List.take_take, Nat.min_eq_left (by omega)]
        rw [this] at hx
        exact List.mem_of_mem_take hx))
      rw [figs_mem, show (decide (48 ≤ c2) && decide (c2 ≤ 57)) = true by simpa using hd]
      rfl
    · rw [figs_mem, h2]
      rfl
def R_ft (ds : List Dt) (d : Dt) : Prop := ∃ q : Rat, ds = [fq q] ∧ Bq 8000 q ∧ d = .str (mkS (fracL q))
theorem h_fraction_text (T : Txt K mg ca fa ka) : Has P w K mg base CX0 4 "fraction_text" ["one"] (spP K R_ft) := by
  refine T.d_fraction_text.pure sc_fraction_text (fun ds d h => by obtain ⟨_, rfl, _⟩ := h; rfl) (fun f cdv A outer s H E hr => (pss_cons (ps_if (pt_cmpR (eqK (K := K) rfl hr.units) (pe_ix (ixK (K := K) rfl) (pv 0) pe_int (fun _ _ => rfl)) pe_int (nomark _)) (pss_one (ps_ret (pe_h (h_number_text T) hr (by decide) pass0 (pa_cons (pe_ix (ixK (K := K) rfl) (pv 0) pe_int (fun _ _ => rfl)) pa_nil)))) pss_nil) (pss_one (ps_ret (pe_op op_adS (pe_op op_adS (pe_h (h_number_text T) hr (by decide) pass0 (pa_cons (pe_ix (ixK (K := K) rfl) (pv 0) pe_int (fun _ _ => rfl)) pa_nil)) pe_str) (pe_h (h_number_text T) hr (by decide) pass0 (pa_cons (pe_ix (ixK (K := K) rfl) (pv 0) pe_int (fun _ _ => rfl)) pa_nil))))))) ?_
  rintro ds d ⟨q, rfl, bq, rfl⟩
  have nt : ∀ {n : Int}, Bt 8000 n → R_nt 2 [.int n] (.str (mkS (numI n))) := fun {n} h => ⟨n, rfl, by decide, fun z => by omega, h, rfl⟩
  have l1 := numL_short bq.1
  have l2 := numL_short bq.2
  rw [Int.natAbs_natCast] at l2
  have ln : ∀ n : Int, (numI n).length ≤ (TL.numL n.natAbs).length + 1 := fun n => by
    unfold numI
    split
    · rw [List.length_cons]; omega
    · omega
  have l3 := ln q.num
  refine rt_cond (et_test (ev_op (ev_op (ev_var rfl) ev_int (by exact fx1)) ev_int r2_eqI)) (fun z => ?_) (fun z => ?_)
  · have h1 : q.den = 1 := by
      have z := eq_of_beq z
      exact_mod_cast z
    refine rt_is (rt_ret (ev_call (ea_cons (ev_op (ev_var rfl) ev_int (by exact fx0)) ea_nil) (by exact nt bq.1))) ?_
    rw [fracL_den1 h1]
  · have h1 : q.den ≠ 1 := fun e => by
      rw [e] at z
      cases z
    refine rt_is (rt_ret (ev_op (ev_op (ev_call (ea_cons (ev_op (ev_var rfl) ev_int (by exact fx0)) ea_nil) (by exact nt bq.1)) ev_str (r2_adS ?_)) (ev_call (ea_cons (ev_op (ev_var rfl) ev_int (by exact fx1)) ea_nil) (by exact nt bq.2)) (r2_adS ?_))) ?_
    · rw [TL.len_tl, TL.len_tl, tl_mkS, show TL.tl ("/" : Str) = [47] from by decide +kernel]
      show _ + 1 ≤ _
      omega
    · rw [TL.len_tl, TL.len_tl, TL.tl_append, tl_mkS, tl_mkS, show TL.tl ("/" : Str) = [47] from by decide +kernel, numI_nat, List.length_append]
      show _ + 1 + _ ≤ _
      omega
    · rw [fracL_den h1]
      refine congrArg Dt.str (TL.ext_tl ?_)
      rw [TL.tl_append, TL.tl_append, tl_mkS, tl_mkS, tl_mkS, show TL.tl ("/" : Str) = [47] from by decide +kernel, numI_nat]
      simp
def R_hst (ds : List Dt) (d : Dt) : Prop := ∃ ps : List (Rat × Rat), ds = [hapsD ps] ∧ (∀ p ∈ ps, Bq 400 p.1 ∧ Bq 400 p.2) ∧ ps.length ≤ 100 ∧ d = .str (mkS (lineL ps))
theorem hap_text {p : Rat × Rat} {y : Str} (hy : TL.tl y = [64]) : mkS (fracL p.1) ++ y ++ mkS (fracL p.2) = mkS (hapL p) := TL.ext_tl (by
  rw [TL.tl_append, TL.tl_append, hy, tl_mkS, tl_mkS, tl_mkS, hapL_is]
  simp)
theorem line_sum {ps : List (Rat × Rat)} {y : Str} (hy : TL.tl y = [32]) (hb : ∀ p ∈ ps, Bq 400 p.1 ∧ Bq 400 p.2) (hn : ps.length ≤ 100) : ((ps.map fun p => mkS (hapL p)).map (·.length)).sum + (ps.map fun p => mkS (hapL p)).length * y.length ≤ 16777216 := by
  have ly : y.length = 1 := by rw [TL.len_tl, hy]; rfl
  rw [List.map_map, List.length_map, ly]
  have := sum_le (l := ps) ((·.length) ∘ fun p => mkS (hapL p)) 1605 fun p hp => by
    show (mkS (hapL p)).length ≤ 1605
    rw [TL.len_tl, tl_mkS]
    exact hapL_len (k := 400) (by decide) (hb p hp)
  have h2 : ps.length * 1605 ≤ 100 * 1605 := Nat.mul_le_mul_right _ hn
  omega
theorem frac_ln {q : Rat} (h : Bq 400 q) : (mkS (fracL q)).length ≤ 802 := by
  rw [TL.len_tl, tl_mkS]
  exact fracL_len (k := 400) (by decide) h
theorem h_haps_text (T : Txt K mg ca fa ka) : Has P w K mg base CX0 5 "haps_text" ["haps"] (spP K R_hst) := by
  refine T.d_haps_text.pure sc_haps_text (fun ds d h => by obtain ⟨_, rfl, _⟩ := h; rfl) (fun f cdv A outer s H E hr => (pss_one (ps_ret (pe_m1 PySem.F.slot_str_join PySem.F.type_str_join (tjoin (K := K) rfl) pe_str (pe_lc (own := [("time", 1), ("place", 2)]) (g := gTup K 2 (gCons (gName 1) (gCons (gName 2) gNil))) (tt := tYes) rfl sc_haps_text.nd (lstK (K := K) rfl (pv 0)) (blkOk_by (own := [("time", 1), ("place", 2)]) (N := ["haps", "time", "place"]) (sc := defScope s_haps_text) (by decide +kernel)) (fun _ _ _ _ _ => tupK (K := K) (n := 2) rfl rfl (pgs_cons (pg_name (i := 1) sc_haps_text.nd rfl (Or.inl rfl)) (pgs_cons (pg_name (i := 2) sc_haps_text.nd rfl (Or.inl rfl)) pgs_nil))) (fun _ _ _ _ _ => pts_nil) (fun _ _ _ _ _ => (pe_op op_adS (pe_op op_adS (pe_h (h_fraction_text T) hr (by decide) pass0 (pa_cons (pv 1) pa_nil)) pe_str) (pe_h (h_fraction_text T) hr (by decide) pass0 (pa_cons (pv 2) pa_nil))))))))) ?_
  rintro ds d ⟨ps, rfl, hb, hn, rfl⟩
  refine rt_is (rt_ret (ev_m1 ev_str (ev_is (ev_ef (ef_lc2 (as := ps.map fun p => fq p.1) (bs := ps.map fun p => fq p.2) (es := ps.map fun p => .str (mkS (hapL p))) (by rw [List.length_map, List.length_map]) (by rw [List.length_map, List.length_map]) (ev_is (ev_var rfl) (congrArg Dt.lst (haps_zip ps))) (by rw [List.length_map]; omega) (fun k a b e ha hb' he => ?_))) (show _ = Dt.lst ((ps.map fun p => mkS (hapL p)).map Dt.str) by rw [List.map_map]; rfl)) (m1_join (line_sum sl32 hb hn)))) (congrArg Dt.str (join_hap sl32))
  rw [List.getElem?_map] at ha hb' he
  cases hp : ps[k]? with
  | none => rw [hp] at ha; cases ha
  | some p =>
    rw [hp] at ha hb' he
    cases ha
    cases hb'
    cases he
    obtain ⟨h1, h2⟩ := hb p (List.mem_of_getElem? hp)
    have l1 := frac_ln h1
    have l2 := frac_ln h2
    refine ev_is (ev_op (ev_op (ev_call (ea_cons (ev_var rfl) ea_nil) (by exact ⟨_, rfl, h1.mono (by decide), rfl⟩)) ev_str (r2_adS ?_)) (ev_call (ea_cons (ev_var rfl) ea_nil) (by exact ⟨_, rfl, h2.mono (by decide), rfl⟩)) (r2_adS ?_)) (congrArg Dt.str (hap_text sl64))
    · rw [TL.len_tl (x := ("@" : Str)), sl64]
      show _ + 1 ≤ _
      omega
    · rw [TL.len_tl, TL.tl_append, List.length_append, sl64, ← TL.len_tl]
      show _ + 1 + _ ≤ _
      omega
def isTx : Dt → Bool
  | .str _ => true
  | _ => false
def R_ckt (ds : List Dt) (d : Dt) : Prop := ∃ s : Str, ds = [.str s] ∧ d = .non
def X_ckt (ca : Nat → Addr) (ds : List Dt) (c : Value) : Prop := ∃ x : Dt, ds = [x] ∧ isTx x = false ∧ c = .ref (ca 3)
theorem h_check_text (T : Txt K mg ca fa ka) : Has P w K mg base (L2.CX P w) 1 "check_text" ["thing"] (spX K R_ckt (X_ckt ca)) := by
  refine T.d_check_text.raises sc_check_text (fun ds d h => by obtain ⟨_, rfl, _⟩ := h; rfl) (fun ds d h => by obtain ⟨_, rfl, _⟩ := h; rfl) (fun f cdv A outer s H E hr => (pss_one (ps_if (pt_not (pt_val (pe_callB (isiK (K := K) rfl) (by rfl) T.m_isinstance (by decide +kernel) (pa_cons (pv 0) (pa_cons (pe_bltn (v := .ty "str") (by rfl) T.m_str (by decide +kernel) rfl) pa_nil))))) (pss_one (ps_raise rfl (takes_of rfl rfl rfl rfl) (pmk_own PySem.F.excBase_ValueError T.x_NoText.x T.x_NoText.g T.x_NoText.k (raises_own T.x_NoText.b T.x_NoText.t) (by exact rfl)))) pss_nil))) ?_ ?_
  · rintro ds d ⟨s, rfl, rfl⟩
    exact rx_no1 (et_not (et_B (ev_isi (b := true) (ev_var rfl) (by simp only [tyN]; decide +kernel)))) rfl
  · rintro ds c ⟨x, rfl, hx, rfl⟩
    obtain ⟨b, hb, hiff⟩ := kb_strT x
    have b0 : b = false := by
      cases b with
      | false => rfl
      | true =>
        obtain ⟨s, rfl⟩ := hiff.mp rfl
        cases hx
    subst b0
    exact rx_raise1 (et_not (et_B (ev_isi (ev_var rfl) hb))) rfl
def R_frd (ds : List Dt) (d : Dt) : Prop := ∃ (s : Str) (q : Rat), ds = [.str s] ∧ TxC s ∧ TL.tl s = fracL q ∧ d = fq q
def X_frd (ca : Nat → Addr) (ds : List Dt) (c : Value) : Prop := ∃ x : Dt, ds = [x] ∧ (∀ s, x = .str s → TxC s ∧ ∀ q, TL.tl s ≠ fracL q) ∧ c = .ref (ca 3)
theorem h_fraction_read (T : Txt K mg ca fa ka) : Has P w K mg base (L2.CX P w) 5 "fraction_read" ["text"] (spX K R_frd (X_frd ca)) := by
  have b47 : ((("/" : Str).length) == 0) = false := by decide +kernel
  have t47 : SeqAt.shaped (.str ("/" : Str)) = true := by decide +kernel
  have t0 : SeqAt.shaped (.str Str.empty) = true := by decide +kernel
  refine T.d_fraction_read.raises sc_fraction_read (fun ds d h => by obtain ⟨_, _, rfl, _⟩ := h; rfl) (fun ds d h => by obtain ⟨_, rfl, _⟩ := h; rfl) (fun f cdv A outer s H E hr => (pss_cons (ps_expr (pe_h (h_check_text T) hr (by decide) (passC (takes_of rfl rfl rfl rfl)) (pa_cons (pv 0) pa_nil))) (pss_cons (ps_asg (pe_m1 PySem.F.slot_str_partition PySem.F.type_str_partition tpart (pv 0) pe_str) (tupK (K := K) (n := 3) rfl rfl (pgs_cons (pg_name (i := 1) sc_fraction_read.nd rfl (Or.inl rfl)) (pgs_cons (pg_name (i := 2) sc_fraction_read.nd rfl (Or.inl rfl)) (pgs_cons (pg_name (i := 3) sc_fraction_read.nd rfl (Or.inl rfl)) pgs_nil))))) (pss_cons (ps_set (i := 4) sc_fraction_read.nd rfl (Or.inl rfl) (pe_tup (pa_cons (pe_h (h_number_read T) hr (by decide) (passC (takes_of rfl rfl rfl rfl)) (pa_cons (pv 1) pa_nil)) (pa_cons pe_int pa_nil)))) (pss_cons (ps_if (pt_cmpR (eqK (K := K) rfl hr.units) (pv 2) pe_str (nomark _)) (pss_one (ps_set (i := 4) sc_fraction_read.nd rfl (Or.inl rfl) (pe_tup (pa_cons (pe_ix (ixK (K := K) rfl) (pv 4) pe_int (fun _ _ => rfl)) (pa_cons (pe_h (h_number_read T) hr (by decide) (passC (takes_of rfl rfl rfl rfl)) (pa_cons (pv 3) pa_nil)) pa_nil))))) pss_nil) (pss_cons (ps_if (PW.pt (pw_or (pt_not (pt_val (pe_h (h_is_fraction T) hr (by decide) pass0 (pa_cons (pv 4) pa_nil)))) (pw_or1 (pt_cmpR (neK (K := K) rfl hr.units) (pe_h (h_fraction_text T) hr (by decide) pass0 (pa_cons (pv 4) pa_nil)) (pv 0) (nomark _))))) (pss_one (ps_raise rfl (takes_of rfl rfl rfl rfl) (pmk_own PySem.F.excBase_ValueError T.x_NoText.x T.x_NoText.g T.x_NoText.k (raises_own T.x_NoText.b T.x_NoText.t) (by exact rfl)))) pss_nil) (pss_one (ps_ret (pv 4))))))))) ?_ ?_
  · rintro ds d ⟨s, q, rfl, ht, e, rfl⟩
    have bq : Bq 1000 q := frac_bq (by rw [← e]; exact ht.mr)
    have ms : mkS (fracL q) = s := TL.ext_tl e.symm
    have shs := sh_str ht.ok
    refine rx_ok (by walk_at "ea") (by exact ⟨s, rfl, rfl⟩) (rx_nt (nt_part (ev_var rfl) ev_str b47 ht.ln) ?_)
    rcases part1 sl47 s with ⟨h47, ep⟩ | ⟨a, b, eab, ha, ep⟩
    · have h1 := part_none e h47
      rw [ep]
      have en : TL.tl s = numI q.num := by rw [e, fracL_den1 h1]
      have rd : R_nr [.str s] (.int q.num) := ⟨s, rfl, ht, by rw [en]; exact (readI_num _).1, by rw [en, (readI_num _).2]⟩
      refine rx_ntE (sl1 := [.d (.str s), .d (.str s), .d (.str Str.empty), .d (.str Str.empty), .d (fq q)]) (fun E => nt_asg (ev_is (ev_tup (ea_cons (ev_callX (ea_cons (ev_var rfl) ea_nil) (by exact rd)) (ea_cons ev_int ea_nil))) (den1_eq h1).symm)) ?_
      refine rx_noE (fun E => et_test (ev_op (ev_var rfl) ev_str (r2_eqS t0 t47))) (by decide +kernel) ?_
      refine rx_noE (fun E => et_or (a := false) (b := false) (et_is (et_not (et_B (ev_call (ea_cons (ev_var rfl) ea_nil) (by exact ⟨fq q, rfl, rfl⟩)))) (by rw [isFr_fq]; rfl)) (fun _ => et_test (ev_op (ev_call (ea_cons (ev_var rfl) ea_nil) (by exact ⟨q, rfl, bq.mono (by decide), rfl⟩)) (ev_var rfl) (r2_neSelf (by rw [ms]) (show py (.str (mkS (fracL q))) = some (.str (mkS (fracL q))) from rfl) (by rw [ms]; exact shs))))) rfl ?_
      exact rx_rt (rt_ret (ev_var rfl))
    · obtain ⟨h1, rfl, rfl⟩ := part_some e eab ha
      rw [ep]
      have ta : TxC (mkS (numI q.num)) := ht.sub (a := []) (c := 47 :: TL.numL q.den) eab
      have tb : TxC (mkS (TL.numL q.den)) := ht.sub (a := numI q.num ++ [47]) (c := []) (by rw [eab]; simp)
      have ra : R_nr [.str (mkS (numI q.num))] (.int q.num) := ⟨_, rfl, ta, by rw [tl_mkS]; exact (readI_num _).1, by rw [tl_mkS, (readI_num _).2]⟩
      have rb : R_nr [.str (mkS (TL.numL q.den))] (.int ((q.den : Nat) : Int)) := ⟨_, rfl, tb, by rw [tl_mkS, ← numI_nat]; exact (readI_num _).1, by rw [tl_mkS, ← numI_nat, (readI_num _).2]⟩
      refine rx_ntE (sl1 := [.d (.str s), .d (.str (mkS (numI q.num))), .d (.str "/"), .d (.str (mkS (TL.numL q.den))), .d (.tup [.int q.num, .int 1])]) (fun E => nt_asg (ev_tup (ea_cons (ev_callX (ea_cons (ev_var rfl) ea_nil) (by exact ra)) (ea_cons ev_int ea_nil)))) ?_
      refine rx_ntE (sl1 := [.d (.str s), .d (.str (mkS (numI q.num))), .d (.str "/"), .d (.str (mkS (TL.numL q.den))), .d (fq q)]) (fun E => nt_if (b := true) (et_is (et_test (ev_op (ev_var rfl) ev_str (r2_eqS t47 t47))) (by decide +kernel)) (fun _ => nt_asg (ev_tup (ea_cons (ev_op (ev_var rfl) ev_int (by exact r2_ixT rfl)) (ea_cons (ev_callX (ea_cons (ev_var rfl) ea_nil) (by exact rb)) ea_nil)))) (fun z => by cases z)) ?_
      refine rx_noE (fun E => et_or (a := false) (b := false) (et_is (et_not (et_B (ev_call (ea_cons (ev_var rfl) ea_nil) (by exact ⟨fq q, rfl, rfl⟩)))) (by rw [isFr_fq]; rfl)) (fun _ => et_test (ev_op (ev_call (ea_cons (ev_var rfl) ea_nil) (by exact ⟨q, rfl, bq.mono (by decide), rfl⟩)) (ev_var rfl) (r2_neSelf (by rw [ms]) (show py (.str (mkS (fracL q))) = some (.str (mkS (fracL q))) from rfl) (by rw [ms]; exact shs))))) rfl ?_
      exact rx_rt (rt_ret (ev_var rfl))
  · rintro ds c ⟨x, rfl, hx, rfl⟩
    cases htx : isTx x with
    | false => exact rx_out (by walk_at "ea") (by exact ⟨x, rfl, htx, rfl⟩)
    | true =>
      obtain ⟨s, rfl⟩ : ∃ s, x = .str s := by
        cases x <;> first | exact ⟨_, rfl⟩ | cases htx
      obtain ⟨ht, hno⟩ := hx s rfl
      have shs := sh_str ht.ok
      have bad : ∀ {q : Rat}, SeqAt.shaped (.str (mkS (fracL q))) = true → (!(mkS (fracL q) == s)) = true := fun {q} _ => by
        rw [Bool.not_eq_true']
        exact beq_eq_false_iff_ne.mpr fun z => hno q (by rw [← z, tl_mkS])
      have shf : ∀ q : Rat, SeqAt.shaped (.str (mkS (fracL q))) = true := fun q => sh_str fun c hc => by
        rw [tl_mkS] at hc
        have hn : ∀ (n : Int) (c : Nat), c ∈ numI n → c < 0x110000 := fun n c hc => by
          unfold numI at hc
          split at hc
          · rcases List.mem_cons.mp hc with rfl | hc
            · decide
            · have := TL.numL_digits _ c hc
              omega
          · have := TL.numL_digits _ c hc
            omega
        by_cases h1 : q.den = 1
        · rw [fracL_den1 h1] at hc
          exact hn _ c hc
        · rw [fracL_den h1] at hc
          rcases List.mem_append.mp hc with hc | hc
          · exact hn _ c hc
          · rcases List.mem_cons.mp hc with rfl | hc
            · decide
            · have := TL.numL_digits _ c hc
              omega
      refine rx_ok (by walk_at "ea") (by exact ⟨s, rfl, rfl⟩) (rx_nt (nt_part (ev_var rfl) ev_str b47 ht.ln) ?_)
      rcases part1 sl47 s with ⟨h47, ep⟩ | ⟨a, b, eab, ha, ep⟩
      · rw [ep]
        cases hal : allD (behL (TL.tl s)) with
        | false => exact rx_asgX (evx_tup (evxa_head (evx_call (fun E => ea_cons (ev_var rfl) ea_nil) (by exact ⟨s, rfl, ht, hal, rfl⟩))))
        | true =>
          obtain ⟨ef, el⟩ := int_frac (readI (TL.tl s))
          have bn := readI_bt ht hal
          have bq : Bq 8000 ((readI (TL.tl s) : Int) : Rat) := ⟨by rw [Rat.num_intCast]; exact bn.mono (by decide), by rw [Rat.den_intCast]; show Int.natAbs 1 < 2 ^ 8000; exact Nat.one_lt_two_pow (by decide)⟩
          refine rx_ntE (sl1 := [.d (.str s), .d (.str s), .d (.str Str.empty), .d (.str Str.empty), .d (fq ((readI (TL.tl s) : Int) : Rat))]) (fun E => nt_asg (ev_is (ev_tup (ea_cons (ev_callX (ea_cons (ev_var rfl) ea_nil) (by exact ⟨s, rfl, ht, hal, rfl⟩)) (ea_cons ev_int ea_nil))) ef.symm)) ?_
          refine rx_noE (fun E => et_test (ev_op (ev_var rfl) ev_str (r2_eqS t0 t47))) (by decide +kernel) ?_
          exact rx_raiseE (fun E => et_or (a := false) (b := true) (et_is (et_not (et_B (ev_call (ea_cons (ev_var rfl) ea_nil) (by exact ⟨_, rfl, rfl⟩)))) (by rw [isFr_fq]; rfl)) (fun _ => et_is (et_test (ev_op (ev_call (ea_cons (ev_var rfl) ea_nil) (by exact ⟨_, rfl, bq, rfl⟩)) (ev_var rfl) (r2_neS (shf _) shs))) (bad (shf _)))) rfl
      · rw [ep]
        have ta : TxC (mkS a) := ht.sub (a := []) (c := 47 :: b) eab
        have tb : TxC (mkS b) := ht.sub (a := a ++ [47]) (c := []) (by rw [eab]; simp)
        cases hal : allD (behL (TL.tl (mkS a))) with
        | false => exact rx_asgX (evx_tup (evxa_head (evx_call (fun E => ea_cons (ev_var rfl) ea_nil) (by exact ⟨mkS a, rfl, ta, hal, rfl⟩))))
        | true =>
          refine rx_ntE (sl1 := [.d (.str s), .d (.str (mkS a)), .d (.str "/"), .d (.str (mkS b)), .d (.tup [.int (readI (TL.tl (mkS a))), .int 1])]) (fun E => nt_asg (ev_tup (ea_cons (ev_callX (ea_cons (ev_var rfl) ea_nil) (by exact ⟨mkS a, rfl, ta, hal, rfl⟩)) (ea_cons ev_int ea_nil)))) ?_
          cases hbl : allD (behL (TL.tl (mkS b))) with
          | false => exact rx_stx (stx_if (et_is (et_test (ev_op (ev_var rfl) ev_str (r2_eqS t47 t47))) (by decide +kernel)) (stx_asg (evx_tup (evxa_tail (fun E => ev_op (ev_var rfl) ev_int (by exact r2_ixT rfl)) (evxa_head (evx_call (fun E => ea_cons (ev_var rfl) ea_nil) (by exact ⟨mkS b, rfl, tb, hbl, rfl⟩)))))))
          | true =>
            obtain ⟨n, hn⟩ : ∃ n, n = readI (TL.tl (mkS a)) := ⟨_, rfl⟩
            obtain ⟨m, hm⟩ : ∃ m, m = readI (TL.tl (mkS b)) := ⟨_, rfl⟩
            have bn := readI_bt ta hal
            have bm := readI_bt tb hbl
            rw [← hn] at bn
            rw [← hm] at bm
            refine rx_ntE (sl1 := [.d (.str s), .d (.str (mkS a)), .d (.str "/"), .d (.str (mkS b)), .d (.tup [.int n, .int m])]) (fun E => nt_if (b := true) (et_is (et_test (ev_op (ev_var rfl) ev_str (r2_eqS t47 t47))) (by decide +kernel)) (fun _ => nt_asg (ev_tup (ea_cons (ev_op (ev_var rfl) ev_int (by rw [hn]; exact r2_ixT rfl)) (ea_cons (ev_callX (ea_cons (ev_var rfl) ea_nil) (by exact ⟨mkS b, rfl, tb, hbl, by rw [hm]⟩)) ea_nil)))) (fun z => by cases z)) ?_
            cases hf : isFr (.tup [.int n, .int m]) with
            | false => exact rx_raiseE (fun E => et_or (a := true) (b := true) (et_is (et_not (et_B (ev_call (ea_cons (ev_var rfl) ea_nil) (by exact ⟨_, rfl, rfl⟩)))) (by rw [hf]; rfl)) (fun z => by cases z)) rfl
            | true =>
              obtain ⟨q, q1, q2⟩ := isFr_tup hf
              have bq : Bq 8000 q := ⟨by rw [q1]; exact bn.mono (by decide), by rw [q2]; exact bm.mono (by decide)⟩
              have rt : R_ft [.tup [.int n, .int m]] (.str (mkS (fracL q))) := ⟨q, by rw [fq_of q1 q2], bq, rfl⟩
              exact rx_raiseE (fun E => et_or (a := false) (b := true) (et_is (et_not (et_B (ev_call (ea_cons (ev_var rfl) ea_nil) (by exact ⟨_, rfl, rfl⟩)))) (by rw [hf]; rfl)) (fun _ => et_is (et_test (ev_op (ev_call (ea_cons (ev_var rfl) ea_nil) (by exact rt)) (ev_var rfl) (r2_neS (shf _) shs))) (bad (shf _)))) rfl
def R_hrd (ds : List Dt) (d : Dt) : Prop := ∃ (s : Str) (p : Rat × Rat), ds = [.str s] ∧ TxC s ∧ TL.tl s = hapL p ∧ d = hpD p
def X_hrd (ca : Nat → Addr) (ds : List Dt) (c : Value) : Prop := ∃ s : Str, ds = [.str s] ∧ TxC s ∧ (∀ p, TL.tl s ≠ hapL p) ∧ c = .ref (ca 3)
theorem h_hap_read (T : Txt K mg ca fa ka) : Has P w K mg base (L2.CX P w) 6 "hap_read" ["text"] (spX K R_hrd (X_hrd ca)) := by
  have b64 : ((("@" : Str).length) == 0) = false := by decide +kernel
  refine T.d_hap_read.raises sc_hap_read (fun ds d h => by obtain ⟨_, _, rfl, _⟩ := h; rfl) (fun ds d h => by obtain ⟨_, rfl, _⟩ := h; rfl) (fun f cdv A outer s H E hr => (pss_cons (ps_asg (pe_m1 PySem.F.slot_str_partition PySem.F.type_str_partition tpart (pv 0) pe_str) (tupK (K := K) (n := 3) rfl rfl (pgs_cons (pg_name (i := 1) sc_hap_read.nd rfl (Or.inl rfl)) (pgs_cons (pg_name (i := 2) sc_hap_read.nd rfl (Or.inl rfl)) (pgs_cons (pg_name (i := 3) sc_hap_read.nd rfl (Or.inl rfl)) pgs_nil))))) (pss_one (ps_ret (pe_tup (pa_cons (pe_h (h_fraction_read T) hr (by decide) (passC (takes_of rfl rfl rfl rfl)) (pa_cons (pv 1) pa_nil)) (pa_cons (pe_h (h_fraction_read T) hr (by decide) (passC (takes_of rfl rfl rfl rfl)) (pa_cons (pv 3) pa_nil)) pa_nil))))))) ?_ ?_
  · rintro ds d ⟨s, p, rfl, ht, e, rfl⟩
    refine rx_nt (nt_part (ev_var rfl) ev_str b64 ht.ln) ?_
    rcases part1 sl64 s with ⟨h64, ep⟩ | ⟨a, b, eab, ha, ep⟩
    · exact absurd (by rw [e, hapL_is]; simp) h64
    · rw [ep]
      have e2 : fracL p.1 ++ 64 :: fracL p.2 = a ++ 64 :: b := by rw [← hapL_is, ← e, eab]
      obtain ⟨x, y⟩ := cut_uniq (fracL_no _ (.inr (by decide)) (by decide)) ha e2
      have ta : TxC (mkS a) := ht.sub (a := []) (c := 64 :: b) eab
      have tb : TxC (mkS b) := ht.sub (a := a ++ [64]) (c := []) (by rw [eab]; simp)
      refine rx_all fun E => rt_ret (ev_tup (ea_cons (ev_callX (ea_cons (ev_var rfl) ea_nil) (by exact ⟨mkS a, p.1, rfl, ta, by rw [tl_mkS, x], rfl⟩)) (ea_cons (ev_callX (ea_cons (ev_var rfl) ea_nil) (by exact ⟨mkS b, p.2, rfl, tb, by rw [tl_mkS, y], rfl⟩)) ea_nil)))
  · rintro ds c ⟨s, rfl, ht, hno, rfl⟩
    have ot : ∀ {t : Str}, TxC t → (∀ q, TL.tl t ≠ fracL q) → X_frd ca [.str t] (.ref (ca 3)) := fun {t} h1 h2 => ⟨.str t, rfl, fun s2 e => by cases e; exact ⟨h1, h2⟩, rfl⟩
    refine rx_nt (nt_part (ev_var rfl) ev_str b64 ht.ln) ?_
    rcases part1 sl64 s with ⟨h64, ep⟩ | ⟨a, b, eab, ha, ep⟩
    · rw [ep]
      have n0 : ∀ q, TL.tl Str.empty ≠ fracL q := fun q => by rw [empty_is]; exact nil_frac q
      have t0 : TxC Str.empty := by rw [empty_is]; exact TxC.empty
      by_cases hq : ∃ q, TL.tl s = fracL q
      · obtain ⟨q, hq⟩ := hq
        exact rx_retX (evx_tup (evxa_tail (fun E => ev_callX (ea_cons (ev_var rfl) ea_nil) (by exact ⟨s, q, rfl, ht, hq, rfl⟩)) (evxa_head (evx_call (fun E => ea_cons (ev_var rfl) ea_nil) (ot t0 n0)))))
      · exact rx_retX (evx_tup (evxa_head (evx_call (fun E => ea_cons (ev_var rfl) ea_nil) (ot ht fun q z => hq ⟨q, z⟩))))
    · rw [ep]
      have ta : TxC (mkS a) := ht.sub (a := []) (c := 64 :: b) eab
      have tb : TxC (mkS b) := ht.sub (a := a ++ [64]) (c := []) (by rw [eab]; simp)
      by_cases hq : ∃ q, a = fracL q
      · obtain ⟨q, hq⟩ := hq
        have hb : ∀ r, TL.tl (mkS b) ≠ fracL r := fun r z => hno (q, r) (by rw [eab, hq, hapL_is, ← z, tl_mkS])
        exact rx_retX (evx_tup (evxa_tail (fun E => ev_callX (ea_cons (ev_var rfl) ea_nil) (by exact ⟨mkS a, q, rfl, ta, by rw [tl_mkS, hq], rfl⟩)) (evxa_head (evx_call (fun E => ea_cons (ev_var rfl) ea_nil) (ot tb hb)))))
      · exact rx_retX (evx_tup (evxa_head (evx_call (fun E => ea_cons (ev_var rfl) ea_nil) (ot ta fun q z => hq ⟨q, by rw [← z, tl_mkS]⟩))))
def R_hsr (ds es : List Dt) : Prop := ∃ (s : Str) (ps : List (Rat × Rat)), ds = [.str s] ∧ TxC s ∧ ps ≠ [] ∧ TL.tl s = lineL ps ∧ es = ps.map fun p => hapD p.1 p.2
def X_hsr (ca : Nat → Addr) (ds : List Dt) (c : Value) : Prop := ∃ x : Dt, ds = [x] ∧ (∀ s, x = .str s → TxC s ∧ ∀ ps, ps ≠ [] → TL.tl s ≠ lineL ps) ∧ c = .ref (ca 3)
theorem split_is {s y : Str} {z : Nat} (hy : TL.tl y = [z]) (hz : y.cps.all (· < 256) = true) : (Txt.split s y).map TL.tl = TL.spl [z] 0 [] (TL.tl s) := by
  have := TL.split_spl s y (by rw [hy]; exact List.cons_ne_nil _ _) (TL.kind_ok hz)
  rwa [hy] at this
theorem spl_len (z : Nat) : ∀ (l acc : List Nat), (TL.spl [z] 0 acc l).length ≤ l.length + 1
  | [], acc => by rw [TL.spl_nil]; exact Nat.le_refl _
  | c :: r, acc => by
    cases h : TL.pre [z] (c :: r) with
    | true =>
      rw [TL.spl_hit h, List.length_cons]
      have := spl_len z r []
      show (TL.spl [z] 0 [] r).length + 1 ≤ _
      rw [List.length_cons]
      omega
    | false =>
      rw [TL.spl_miss h]
      have := spl_len z r (acc ++ [c])
      rw [List.length_cons]
      omega
theorem join_mem {z : Nat} : ∀ {parts : List (List Nat)} {p : List Nat}, p ∈ parts → ∃ a c, TL.joinL [z] parts = a ++ (p ++ c)
  | [x], p, h => by
    rw [List.mem_singleton.mp h]
    exact ⟨[], [], by simp [TL.joinL]⟩
  | x :: y :: r, p, h => by
    rcases List.mem_cons.mp h with rfl | h
    · exact ⟨[], [z] ++ TL.joinL [z] (y :: r), rfl⟩
    · obtain ⟨a, c, e⟩ := join_mem (z := z) h
      exact ⟨x ++ ([z] ++ a), c, by show x ++ ([z] ++ TL.joinL [z] (y :: r)) = _; rw [e]; simp⟩
theorem part_ok {s y : Str} {z : Nat} (hy : TL.tl y = [z]) (hz : y.cps.all (· < 256) = true) (ht : TxC s) {p : Str} (hp : p ∈ Txt.split s y) : TxC p := by
  have e := split_is (s := s) hy hz
  have hm : TL.tl p ∈ TL.spl [z] 0 [] (TL.tl s) := by rw [← e]; exact List.mem_map.mpr ⟨p, hp, rfl⟩
  obtain ⟨a, c, h⟩ := join_mem (z := z) hm
  rw [join_spl z, List.nil_append] at h
  have := ht.sub h
  rwa [mkS_tl] at this
theorem split_ln {s y : Str} {z : Nat} (hy : TL.tl y = [z]) (hz : y.cps.all (· < 256) = true) : (Txt.split s y).length ≤ s.length + 1 := by
  have e := congrArg List.length (split_is (s := s) hy hz)
  rw [List.length_map] at e
  have := spl_len z (TL.tl s) []
  rw [TL.len_tl]
  omega
/-- the first item that is none -/
theorem first_out {α : Type} {P : α → Prop} : ∀ {l : List α}, (¬ ∀ a ∈ l, P a) → ∃ m a, l[m]? = some a ∧ ¬ P a ∧ ∀ b ∈ l.take m, P b
  | [], h => absurd (fun a ha => by cases ha) h
  | a :: l, h => by
    by_cases ha : P a
    · obtain ⟨m, b, h1, h2, h3⟩ := first_out (l := l) fun z => h fun x hx => by
        rcases List.mem_cons.mp hx with rfl | hx
        · exact ha
        · exact z x hx
      refine ⟨m + 1, b, h1, h2, fun x hx => ?_⟩
      rw [List.take_succ_cons] at hx
      rcases List.mem_cons.mp hx with rfl | hx
      · exact ha
      · exact h3 x hx
    · exact ⟨0, a, rfl, ha, fun b hb => by cases hb⟩
theorem all_haps : ∀ {l : List Str}, (∀ x ∈ l, ∃ p, TL.tl x = hapL p) → ∃ ps : List (Rat × Rat), l.map TL.tl = ps.map hapL
  | [], _ => ⟨[], rfl⟩
  | x :: l, h => by
    obtain ⟨p, hp⟩ := h x List.mem_cons_self
    obtain ⟨ps, e⟩ := all_haps fun y hy => h y (List.mem_cons_of_mem _ hy)
    exact ⟨p :: ps, by rw [List.map_cons, List.map_cons, hp, e]⟩
theorem h_haps_read (T : Txt K mg ca fa ka) : Has P w K mg base (L2.CX P w) 7 "haps_read" ["text"] (spXL K R_hsr (X_hsr ca)) := by
  have b32 : (((" " : Str).length) == 0) = false := by decide +kernel
  have k32 : (" " : Str).cps.all (· < 256) = true := by decide +kernel
  refine T.d_haps_read.raisesLX sc_haps_read (fun ds d h => by obtain ⟨_, _, rfl, _⟩ := h; rfl) (fun ds d h => by obtain ⟨_, rfl, _⟩ := h; rfl) (fun f cdv A outer s H E hr => (pss_cons (ps_expr (pe_h (h_check_text T) hr (by decide) (passC (takes_of rfl rfl rfl rfl)) (pa_cons (pv 0) pa_nil))) (pss_one (ps_ret (pe_lcX (own := [("part", 1)]) (g := gName 1) (tt := tYes) rfl rfl rfl (takes_of rfl rfl rfl rfl) sc_haps_read.nd (lstK (K := K) rfl (pe_m1 PySem.F.slot_str_split PySem.F.type_str_split tsplit (pv 0) pe_str)) (blkOk_by (own := [("part", 1)]) (N := ["text", "part"]) (sc := defScope s_haps_read) (by decide +kernel)) (fun _ _ _ _ _ => pg_name (i := 1) sc_haps_read.nd rfl (Or.inl rfl)) (fun _ _ _ _ _ => pts_nil) (fun _ _ _ _ _ => (pe_h (h_hap_read T) hr (by decide) passB (pa_cons (pv 1) pa_nil)))))))) ?_ ?_
  · rintro ds es ⟨s, ps, rfl, ht, hne, e, rfl⟩ E
    have es := split_is (s := s) sl32 k32
    rw [e, spl_line hne] at es
    have ln := split_ln (s := s) sl32 k32
    have ll : (Txt.split s " ").length = ps.length := by
      have := congrArg List.length es
      rwa [List.length_map, List.length_map] at this
    have hl := ht.len
    refine rf_drop (ea_cons (ev_var rfl) ea_nil) (by exact ⟨s, rfl, rfl⟩) (rf_ret (ef_lcP (ds := (Txt.split s " ").map Dt.str) (by rw [List.length_map, List.length_map, ll]) (ev_m1 (ev_var rfl) ev_str (m1_split b32 ht.ln)) (by rw [List.length_map]; omega) (fun k d x hd hx => ?_)))
    rw [List.getElem?_map] at hd hx
    obtain ⟨t, htk, rfl⟩ := Option.map_eq_some_iff.mp hd
    obtain ⟨p, hpk, rfl⟩ := Option.map_eq_some_iff.mp hx
    have etp : TL.tl t = hapL p := by
      have h1 : ((Txt.split s " ").map TL.tl)[k]? = some (TL.tl t) := by rw [List.getElem?_map, htk]; rfl
      rw [es, List.getElem?_map, hpk] at h1
      exact (Option.some.inj h1).symm
    exact ev_callX (ea_cons (ev_var rfl) ea_nil) (by exact ⟨t, p, rfl, part_ok sl32 k32 ht (List.mem_of_getElem? htk), etp, rfl⟩)
  · rintro ds c ⟨x, rfl, hx, rfl⟩
    cases htx : isTx x with
    | false => exact rx_out (by walk_at "ea") (by exact ⟨x, rfl, htx, rfl⟩)
    | true =>
      obtain ⟨s, rfl⟩ : ∃ s, x = .str s := by
        cases x <;> first | exact ⟨_, rfl⟩ | cases htx
      obtain ⟨ht, hno⟩ := hx s rfl
      have es := split_is (s := s) sl32 k32
      have ln := split_ln (s := s) sl32 k32
      have hl := ht.len
      have hbad : ¬ ∀ t ∈ Txt.split s " ", ∃ p, TL.tl t = hapL p := fun z => by
        obtain ⟨ps, h⟩ := all_haps z
        have hj : TL.tl s = lineL ps := by
          unfold lineL
          rw [← h, es, join_spl, List.nil_append]
        have hne : ps ≠ [] := fun y => by
          rw [y, List.map_nil, es] at h
          exact spl_ne1 32 _ _ h
        exact hno ps hne hj
      obtain ⟨m, t, h1, h2, h3⟩ := first_out hbad
      have hm := (List.getElem?_eq_some_iff.mp h1).1
      obtain ⟨qs, hqs⟩ : ∃ qs : List (Rat × Rat), ((Txt.split s " ").take m).map TL.tl = qs.map hapL := all_haps h3
      have lq : qs.length = m := by
        have := congrArg List.length hqs
        rw [List.length_map, List.length_map, List.length_take] at this
        omega
      refine rx_ok (by walk_at "ea") (by exact ⟨s, rfl, rfl⟩) (rx_retX (evx_lcP (m := m) (ds := (Txt.split s " ").map Dt.str) (es := qs.map fun p => hapD p.1 p.2) (ev_m1 (ev_var rfl) ev_str (m1_split b32 ht.ln)) (by rw [List.length_map]; omega) (by rw [List.length_map]; exact hm) (by rw [List.length_map, lq]) (fun k d x hk hd hx E => ?_) (fun d hd => ?_)))
      · rw [List.getElem?_map] at hd hx
        obtain ⟨u, huk, rfl⟩ := Option.map_eq_some_iff.mp hd
        obtain ⟨p, hpk, rfl⟩ := Option.map_eq_some_iff.mp hx
        have etp : TL.tl u = hapL p := by
          have h4 : (((Txt.split s " ").take m).map TL.tl)[k]? = some (TL.tl u) := by rw [List.getElem?_map, List.getElem?_take, if_pos hk, huk]; rfl
          rw [hqs, List.getElem?_map, hpk] at h4
          exact (Option.some.inj h4).symm
        exact ev_callX (ea_cons (ev_var rfl) ea_nil) (by exact ⟨u, p, rfl, part_ok sl32 k32 ht (List.mem_of_getElem? huk), etp, rfl⟩)
      · rw [List.getElem?_map, h1] at hd
        cases hd
        exact evx_call (fun E => ea_cons (ev_var rfl) ea_nil) (by exact ⟨t, rfl, part_ok sl32 k32 ht (List.mem_of_getElem? h1), fun p z => h2 ⟨p, z⟩, rfl⟩)
def R_cell_at (ds : List Dt) (d : Dt) : Prop := ∃ (ns : List Int) (k : Nat), ds = [.lst (ns.map Dt.int), .int k] ∧ d = .int (ns.getD k 0)
theorem cell_ok {ns : List Int} {k : Nat} : R_cell_at [.lst (ns.map Dt.int), .int k] (.int (ns.getD k 0)) := ⟨ns, k, rfl, rfl⟩
local macro_rules | `(tactic| walk_at "rok") => `(tactic| exact cell_ok)
theorem h__law_cell_at (T : Txt K mg ca fa ka) : Has P w K mg base CX0 1 "_law_cell_at" ["_law_script", "_law_k"] (spP K R_cell_at) := by
  refine T.d__law_cell_at.pure sc__law_cell_at (fun ds d h => by obtain ⟨ns, k, rfl, _⟩ := h; rfl) (fun f cdv A outer s H E hr => (pss_cons (ps_if (pt_cmpR op_lt (pv 1) (pe_callB (lenK (K := K) rfl) (by rfl) T.m_len (by decide +kernel) (pa_cons (pv 0) pa_nil)) (nomark _)) (pss_one (ps_ret (pe_ix (ixK (K := K) rfl) (pv 0) (pv 1) (fun _ _ => rfl)))) pss_nil) (pss_one (ps_ret pe_int)))) ?_
  rintro ds d ⟨ns, k, rfl, rfl⟩
  refine rt_cond (et_test (ev_op (ev_var rfl) (ev_cb (ea_cons (ev_var rfl) ea_nil) rc_lenL) r2_lt)) (fun hb => ?_) (fun hb => ?_)
  · have hk := of_decide_eq_true hb
    rw [List.length_map] at hk
    have hk' : k < ns.length := by omega
    refine rt_ret (ev_op (ev_var rfl) (ev_var rfl) (r2_ixL ?_))
    rw [List.getD_eq_getElem?_getD, List.getElem?_eq_getElem hk', Option.getD_some]
    exact atI_nat (by rw [List.getElem?_map, List.getElem?_eq_getElem hk']; rfl)
  · have hk := of_decide_eq_false hb
    rw [List.length_map] at hk
    refine rt_is (rt_ret ev_int) ?_
    rw [List.getD_eq_getElem?_getD, List.getElem?_eq_none (by omega), Option.getD_none]
theorem h__law_pot (T : Txt K mg ca fa ka) : Has P w K mg base CX0 1 "_law_pot" ["_law_cell"] (spNew K fun ds => ∃ c : Int, ds = [.int c]) := by
  refine T.d__law_pot.newpot sc__law_pot (fun ds h => by obtain ⟨c, rfl⟩ := h; rfl) (fun f cdv A outer s H E hr => (pss_cons (ps_if (pt_cmpR op_ge (pv 0) (pe_op op_pow pe_int pe_int) (nomark _)) (pss_one (ps_ret (pe_lst (pa_cons (pe_op op_sub (pv 0) (pe_op op_pow pe_int pe_int)) pa_nil)))) pss_nil) (pss_cons (ps_set (i := 1) sc__law_pot.nd rfl (Or.inl rfl) pe_int) (pss_cons (ps_for PassesOwn.never rfl (pi_range1 rfl T.m_range (pa_cons pe_int pa_nil)) (pg_name (i := 2) sc__law_pot.nd rfl (Or.inl rfl)) (pss_cons (ps_set (i := 3) sc__law_pot.nd rfl (Or.inl rfl) (pe_op op_modN (pe_op op_mulA (pe_op op_add (pe_op op_add (pe_op op_modN (pv 0) pe_int) (pe_op op_mulA pe_int (pv 2))) pe_int) pe_int) pe_int)) (pss_cons (ps_set (i := 3) sc__law_pot.nd rfl (Or.inl rfl) (pe_op op_modN (pe_op op_add (pe_op op_add (pe_op op_mulA (pv 3) (pv 3)) (pe_op op_mulA pe_int (pv 2))) pe_int) pe_int)) (pss_one (ps_set (i := 1) sc__law_pot.nd rfl (Or.inl rfl) (pe_op op_add (pe_op op_mulA (pv 1) pe_int) (pv 3))))))) (pss_one (ps_ret (pe_lst (pa_cons (pv 1) pa_nil)))))))) ?_
  rintro ds ⟨c, rfl⟩ G H σ k f D q
  have new : ∀ (e : Int) (te : TE) (sl : List Sl) (G1 H1 : Hp) (σ1 : L2.St), Nx G H G1 H1 → FrD K G1 σ1 sl → Ev K te sl (.int e) → tRet (tLst (tCons te tNil)) D σ1 H1 := fun e te sl G1 H1 σ1 n1 f1 h =>
    h G1 H1 σ1 n1.k f1 _ fun v G2 H2 n2 r2 => by
      cases r2
      refine ⟨sz_ok (by decide : 1 ≤ 100000), fun p hp => ?_⟩
      have n12 := n1.trans n2
      have hp0 : H p = none := free_of n12.h hp
      exact q p e G2 _ ⟨n12.g, n12.h.trans (Ex.new hp), n12.k.trans (Ex.new hp), n12.f⟩ hp0 (free_of n12.k hp) upd_same
  have ht : EvT K (tTest (tOp (rI0 fun i j => .bl (decide (j ≤ i))) (tVar 0) (tOp (rI CPow fun i j => .int (i ^ j.toNat)) (tC (.int 10)) (tC (.int 18))))) [.d (.int c), .no, .no, .no] (decide ((10 : Int) ^ (18 : Int).toNat ≤ c)) :=
    et_test (ev_op (ev_var rfl) (ev_op ev_int ev_int (r2_pow ⟨by decide, by decide, by decide⟩)) r2_ge)
  refine ht G H σ k f _ fun G1 H1 n1 => ?_
  by_cases hc : (10 : Int) ^ (18 : Int).toNat ≤ c
  · rw [decide_eq_true hc]
    exact new _ _ _ G1 H1 σ n1 (FrD.mono n1.g f) (ev_op (ev_var rfl) (ev_op ev_int ev_int (r2_pow ⟨by decide, by decide, by decide⟩)) r2_sub)
  · rw [decide_eq_false hc]
    refine iteF ?_
    dsimp only [tNext]
    refine (nt_asg ev_int : Nt K (tAsg (tC (.int 0)) (gName 1)) _ _) G1 H1 σ n1.k (FrD.mono n1.g f) _ fun σ2 G2 H2 n2 f2 => ?_
    refine (ip_for (K := K) (ps := []) (n := 64) (I := fun _ sl => ∃ (n : Int) (s2 s3 : Sl), sl = [.d (.int c), .d (.int n), s2, s3]) (ea_cons ev_int ea_nil) ⟨by decide, by decide⟩ ⟨0, _, _, rfl⟩ ?_) G2 H2 σ2 n2.k f2 .nil _ fun σ3 sl3 G3 H3 ⟨n, s2, s3, e⟩ n3 _ f3 => ?_
    · rintro i sl hi ⟨n, s2, s3, rfl⟩
      have p1 : IntMulOk ((c.fmod 2147483629 + 7919 * (i : Int) + 1)) 48271 := mulR ⟨by decide, by decide⟩
      refine ip_nt (nt_asg (ev_op (ev_op (ev_op (ev_op (ev_op (ev_var rfl) ev_int (r2_mod (by decide))) (ev_op ev_int (ev_var rfl) (r2_mul (mulL ⟨by decide, by decide⟩))) r2_add) ev_int r2_add) ev_int (r2_mul p1)) ev_int (r2_mod (by decide)))) ?_
      generalize hm : ((c.fmod 2147483629 + 7919 * (i : Int) + 1) * 48271).fmod 2147483647 = m
      have bm : -(2 ^ 64) < m ∧ m < 2 ^ 64 := by
        have := fmod_bd (a := (c.fmod 2147483629 + 7919 * (i : Int) + 1) * 48271) (b := 2147483647) (by decide)
        rw [hm] at this
        omega
      refine ip_nt (nt_asg (ev_op (ev_op (ev_op (ev_op (ev_var rfl) (ev_var rfl) (r2_mul (mulL bm))) (ev_op ev_int (ev_var rfl) (r2_mul (mulL ⟨by decide, by decide⟩))) r2_add) ev_int r2_add) ev_int (r2_mod (by decide)))) ?_
      exact ip_end (nt_asg (ev_op (ev_op (ev_var rfl) ev_int (r2_mul (mulR ⟨by decide, by decide⟩))) (ev_var rfl) r2_add)) ⟨_, _, _, rfl⟩
    · subst e
      exact new n _ _ G3 H3 σ3 ((n1.trans n2).trans n3.nx) f3 (ev_var rfl)
theorem h__law_take (T : Txt K mg ca fa ka) : Has P w K mg base CX0 1 "_law_take" ["_law_pot_here", "_law_far"] spTake := by
  refine T.d__law_take.any sc__law_take (fun vs H Q E h => by obtain ⟨p, n, f, rfl, _⟩ := h; rfl) (fun f cdv A outer s H E hr => (pss_cons (ps_set (i := 2) sc__law_take.nd rfl (Or.inl rfl) (pe_op op_modN (pe_ix (ixK (K := K) rfl) (pv 0) pe_int (fun _ _ => rfl)) (pv 1))) (pss_cons (ps_asg (pe_op op_fdivA (pe_ix (ixK (K := K) rfl) (pv 0) pe_int (fun _ _ => rfl)) (pv 1)) (pg_sub (pv 0) pe_int set_list)) (pss_one (ps_ret (pv 2)))))) ?_
  rintro vs H Q E ⟨p, n, f, rfl, hp, h0, h9, q⟩
  have at0 : atI [V.int n] 0 = some (.int n) := rfl
  refine ⟨.ref p, rfl, .inl ⟨p, [.int n], 0, .int n, rfl, rfl, .inl (.inl hp), at0, .int f, rfl, n, f, rfl, rfl, by omega, ?_⟩⟩
  refine ⟨.ref p, rfl, .inl ⟨p, [.int n], 0, .int n, rfl, rfl, .inl (.inl hp), at0, .int f, rfl, n, f, rfl, rfl, ⟨by omega, h9⟩, ?_⟩⟩
  refine ⟨.ref p, rfl, p, [.int n], 0, 0, rfl, rfl, hp, rfl, .int (n.fmod f), rfl, ?_⟩
  have b := fmod_bd (a := n) h0
  exact q _ _ b.1 b.2
theorem h__law_low (T : Txt K mg ca fa ka) : Has P w K mg base CX0 1 "_law_low" ["_law_top", "_law_bottom"] (spP K R_low) := by
  refine T.d__law_low.pure sc__law_low (fun ds d h => by obtain ⟨t, b, rfl, _⟩ := h; rfl) (fun f cdv A outer s H E hr => (pss_cons (ps_par (i := 2) (j := 3) rfl sc__law_low.nd rfl rfl (by decide) rfl rfl (pa_cons (pe_callB cr_abs (by rfl) T.m_abs (by decide +kernel) (pa_cons (pv 0) pa_nil)) (pa_cons (pe_callB cr_abs (by rfl) T.m_abs (by decide +kernel) (pa_cons (pv 1) pa_nil)) pa_nil)) (by rfl)) (pss_cons (ps_while PassesOwn.never (pt_cmpR op_gt (pv 3) pe_int (nomark _)) (pss_one (ps_par (i := 2) (j := 3) rfl sc__law_low.nd rfl rfl (by decide) rfl rfl (pa_cons (pv 3) (pa_cons (pe_op op_modN (pv 2) (pv 3)) pa_nil)) (by rfl)))) (pss_cons (ps_if (pt_cmpR op_lt (pv 1) pe_int (nomark _)) (pss_one (ps_set (i := 2) sc__law_low.nd rfl (Or.inl rfl) (pe_op op_sub pe_int (pv 2)))) pss_nil) (pss_one (ps_ret (pe_tup (pa_cons (pe_op op_fdivA (pv 0) (pv 2)) (pa_cons (pe_op op_fdivA (pv 1) (pv 2)) pa_nil))))))))) ?_
  rintro ds d ⟨t, b, rfl, hb0, hb, rfl⟩
  refine rt_seq (nt_par (ea_cons (ev_cb (ea_cons (ev_var rfl) ea_nil) rc_abs) (ea_cons (ev_cb (ea_cons (ev_var rfl) ea_nil) rc_abs) ea_nil))) ?_
  have g0 : 0 < Nat.gcd t.natAbs b.natAbs := gcd_pos hb0
  refine rt_seq (nt_while (sl2 := [.d (.int t), .d (.int b), .d (.int ((Nat.gcd t.natAbs b.natAbs : Nat) : Int)), .d (.int ((0 : Nat) : Int))]) (fun s : Nat × Nat => [.d (.int t), .d (.int b), .d (.int (s.1 : Int)), .d (.int (s.2 : Int))]) (fun s => Nat.gcd s.1 s.2 = Nat.gcd t.natAbs b.natAbs) (fun s => s.2) (t.natAbs, b.natAbs) rfl rfl ?_) ?_
  · rintro ⟨x, y⟩ hg
    refine ⟨_, et_test (ev_op (ev_var rfl) ev_int r2_gt), fun hy => ?_, fun hy => ?_⟩
    · have hy : (0 : Int) < (y : Int) := of_decide_eq_true hy
      refine ⟨(y, x % y), ?_, Nat.mod_lt _ (by omega), ?_⟩
      · rw [← hg]
        show Nat.gcd y (x % y) = Nat.gcd x y
        rw [Nat.gcd_comm y, ← Nat.gcd_rec y x, Nat.gcd_comm]
      · refine nt_is (nt_par (ea_cons (ev_var rfl) (ea_cons (ev_op (ev_var rfl) (ev_var rfl) (r2_mod (by omega))) ea_nil))) ?_
        rw [fmod_nat]
        rfl
    · have hy : ¬ (0 : Int) < (y : Int) := of_decide_eq_false hy
      have y0 : y = 0 := by omega
      subst y0
      rw [← hg]
      show _ = _
      rw [Nat.gcd_zero_right]
  · refine rt_seq (nt_if (sl2 := [.d (.int t), .d (.int b), .d (.int (dvs t b)), .d (.int ((0 : Nat) : Int))]) (et_test (ev_op (ev_var rfl) ev_int r2_lt)) (fun h => ?_) (fun h => ?_)) ?_
    · refine nt_is (nt_asg (ev_op ev_int (ev_var rfl) r2_sub)) ?_
      have e : dvs t b = 0 - ((Nat.gcd t.natAbs b.natAbs : Nat) : Int) := by
        unfold dvs
        rw [if_pos (of_decide_eq_true h)]
        omega
      rw [e]
      rfl
    · refine nt_is nt_next ?_
      have e : dvs t b = ((Nat.gcd t.natAbs b.natAbs : Nat) : Int) := by
        unfold dvs
        rw [if_neg (of_decide_eq_false h)]
      rw [e]
    · have dk : ∀ i, CDivA i (dvs t b) := fun i => divok (dvs_ne hb0) (bt_dvs hb0 hb) (by decide)
      exact rt_is (rt_ret (ev_tup (ea_cons (ev_op (ev_var rfl) (ev_var rfl) (r2_div (dk _))) (ea_cons (ev_op (ev_var rfl) (ev_var rfl) (r2_div (dk _))) ea_nil)))) (low_fq hb0)
theorem h__law_frac (T : Txt K mg ca fa ka) : Has P w K mg base CX0 2 "_law_frac" ["_law_pot_here"] (spM K (fun ds => ds = []) fun _ d => ∃ q, d = fq q ∧ Bq 110 q) := by
  refine T.d__law_frac.draws sc__law_frac (fun ds h => by subst h; rfl) (fun f cdv A outer s H E hr => (pss_cons (ps_set (i := 1) sc__law_frac.nd rfl (Or.inl rfl) (pe_h (h__law_take T) hr (by decide) pass0 (pa_cons (pv 0) (pa_cons pe_int pa_nil)))) (pss_cons (ps_if (pt_cmpR (eqK (K := K) rfl hr.units) (pv 1) pe_int (nomark _)) (pss_one (ps_ret (pe_tup (pa_cons pe_int (pa_cons pe_int pa_nil))))) pss_nil) (pss_cons (ps_if (pt_cmpR (eqK (K := K) rfl hr.units) (pv 1) pe_int (nomark _)) (pss_cons (ps_set (i := 2) sc__law_frac.nd rfl (Or.inl rfl) (pe_op op_sub (pe_h (h__law_take T) hr (by decide) pass0 (pa_cons (pv 0) (pa_cons (pe_op op_add (pe_op op_mulA pe_int (pe_op op_pow pe_int pe_int)) pe_int) pa_nil))) (pe_op op_pow pe_int pe_int))) (pss_one (ps_ret (pe_h (h__law_low T) hr (by decide) pass0 (pa_cons (pv 2) (pa_cons (pe_op op_add pe_int (pe_h (h__law_take T) hr (by decide) pass0 (pa_cons (pv 0) (pa_cons (pe_op op_pow pe_int pe_int) pa_nil)))) pa_nil)))))) pss_nil) (pss_cons (ps_set (i := 2) sc__law_frac.nd rfl (Or.inl rfl) (pe_op op_sub (pe_h (h__law_take T) hr (by decide) pass0 (pa_cons (pv 0) (pa_cons pe_int pa_nil))) pe_int)) (pss_one (ps_ret (pe_h (h__law_low T) hr (by decide) pass0 (pa_cons (pv 2) (pa_cons (pe_ix (ixK (K := K) rfl) (pe_lst (pa_cons pe_int (pa_cons pe_int (pa_cons pe_int (pa_cons pe_int (pa_cons pe_int (pa_cons pe_int pa_nil))))))) (pe_h (h__law_take T) hr (by decide) pass0 (pa_cons (pv 0) (pa_cons pe_int pa_nil))) (fun _ _ => rfl)) pa_nil)))))))))) ?_
  rintro ds rfl p
  have mem : p ∈ [p] := by simp
  refine ir_asg (ep_take rfl mem (ep_ev ev_int ⟨8, rfl, by decide, by decide, fun m m0 m1 => ?_⟩))
  refine ir_cond (et_test (ev_op (ev_var rfl) ev_int r2_eqI)) (fun _ => ?_) (fun _ => ?_)
  · exact ir_ret (ep_ev (ev_tup (ea_cons ev_int (ea_cons ev_int ea_nil))) ⟨0, rfl, (by show Int.natAbs 0 < 2 ^ 110; decide), (by show Int.natAbs 1 < 2 ^ 110; decide)⟩)
  refine ir_cond (et_test (ev_op (ev_var rfl) ev_int r2_eqI)) (fun _ => ?_) (fun _ => ?_)
  · have far : Ev K (tOp (rI0 fun i j => V.int (i + j)) (tOp (rI IntMulOk fun i j => V.int (i * j)) (tC (V.int 2)) (tOp (rI CPow fun i j => V.int (i ^ j.toNat)) (tC (V.int 10)) (tC (V.int 30)))) (tC (V.int 1))) [.raw (.ref p), .d (.int m), .no] (.int (2 * 10 ^ 30 + 1)) :=
      ev_op (ev_op ev_int (ev_op ev_int ev_int (r2_pow ⟨by decide, by decide, by decide⟩)) (r2_mul (mulL ⟨by decide, by decide⟩))) ev_int r2_add
    refine ir_asg (ep_op (ep_take rfl mem (ep_ev far ⟨_, rfl, by decide, by decide +kernel, fun n n0 n1 => ep_ev (ev_op ev_int ev_int (r2_pow ⟨by decide, by decide, by decide⟩)) ⟨_, r2_sub, ?_⟩⟩)))
    refine ir_ret (ep_call (epa_cons (ep_ev (ev_var rfl) (epa_cons (ep_op (ep_ev ev_int (ep_take rfl mem (ep_ev (ev_op ev_int ev_int (r2_pow ⟨by decide, by decide, by decide⟩)) ⟨10 ^ 30, rfl, by decide, by decide +kernel, fun l l0 l1 => ?_⟩))))))))
    have bl : Bt 110 (1 + l) := by
      show (1 + l).natAbs < 2 ^ 110
      omega
    refine ⟨_, r2_add, epa_nil ⟨_, ⟨_, _, rfl, by omega, bl.mono (by decide), rfl⟩, _, rfl, bq_div (by omega) ?_ bl⟩⟩
    show (n - 10 ^ (30 : Int).toNat).natAbs < 2 ^ 110
    have e : (10 : Int) ^ (30 : Int).toNat = 10 ^ 30 := rfl
    omega
  refine ir_asg (ep_op (ep_take rfl mem (ep_ev ev_int ⟨25, rfl, by decide, by decide, fun n n0 n1 => ep_ev ev_int ⟨_, r2_sub, ?_⟩⟩)))
  refine ir_ret (ep_call (epa_cons (ep_ev (ev_var rfl) (epa_cons (ep_op (ep_ev (ev_lst (ea_cons ev_int (ea_cons ev_int (ea_cons ev_int (ea_cons ev_int (ea_cons ev_int (ea_cons ev_int ea_nil))))))) (ep_take rfl mem (ep_ev ev_int ⟨6, rfl, by decide, by decide, fun l l0 l1 => ?_⟩))))))))
  have hl : ∃ b : Int, atI [Dt.int 1, .int 1, .int 2, .int 3, .int 4, .int 12] l = some (.int b) ∧ 0 < b ∧ b ≤ 12 := by
    obtain ⟨k, rfl⟩ : ∃ k : Nat, l = (k : Int) := ⟨l.toNat, by omega⟩
    match k, l1 with
    | 0, _ => exact ⟨1, rfl, by decide, by decide⟩
    | 1, _ => exact ⟨1, rfl, by decide, by decide⟩
    | 2, _ => exact ⟨2, rfl, by decide, by decide⟩
    | 3, _ => exact ⟨3, rfl, by decide, by decide⟩
    | 4, _ => exact ⟨4, rfl, by decide, by decide⟩
    | 5, _ => exact ⟨12, rfl, by decide, by decide⟩
    | k + 6, h => omega
  obtain ⟨b, hb, b0, b12⟩ := hl
  have bb : Bt 110 b := by
    show b.natAbs < 2 ^ 110
    omega
  refine ⟨_, r2_ixL hb, epa_nil ⟨_, ⟨_, _, rfl, by omega, bb.mono (by decide), rfl⟩, _, rfl, bq_div (by omega) ?_ bb⟩⟩
  show (n - 12).natAbs < 2 ^ 110
  omega
theorem h__law_hap (T : Txt K mg ca fa ka) : Has P w K mg base CX0 2 "_law_hap" ["_law_pot_here"] (spM K (fun ds => ds = []) fun _ d => ∃ t p : Rat, d = .tup [fq t, fq p] ∧ Bq 90 t ∧ Bq 4 p ∧ t.den ≤ 2) := by
  refine T.d__law_hap.draws sc__law_hap (fun ds h => by subst h; rfl) (fun f cdv A outer s H E hr => (pss_cons (ps_set (i := 1) sc__law_hap.nd rfl (Or.inl rfl) (pe_ix (ixK (K := K) rfl) (pe_lst (pa_cons pe_int (pa_cons (pe_op op_pow pe_int pe_int) pa_nil))) (pe_op op_fdivA (pe_h (h__law_take T) hr (by decide) pass0 (pa_cons (pv 0) (pa_cons pe_int pa_nil))) pe_int) (fun _ _ => rfl))) (pss_cons (ps_set (i := 2) sc__law_hap.nd rfl (Or.inl rfl) (pe_h (h__law_low T) hr (by decide) pass0 (pa_cons (pe_op op_add (pe_op op_sub (pe_h (h__law_take T) hr (by decide) pass0 (pa_cons (pv 0) (pa_cons pe_int pa_nil))) pe_int) (pe_op op_mulA pe_int (pv 1))) (pa_cons (pe_op op_add pe_int (pe_h (h__law_take T) hr (by decide) pass0 (pa_cons (pv 0) (pa_cons pe_int pa_nil)))) pa_nil)))) (pss_one (ps_ret (pe_tup (pa_cons (pv 2) (pa_cons (pe_h (h__law_low T) hr (by decide) pass0 (pa_cons (pe_op op_sub (pe_h (h__law_take T) hr (by decide) pass0 (pa_cons (pv 0) (pa_cons pe_int pa_nil))) pe_int) (pa_cons (pe_op op_add pe_int (pe_h (h__law_take T) hr (by decide) pass0 (pa_cons (pv 0) (pa_cons pe_int pa_nil)))) pa_nil))) pa_nil)))))))) ?_
  rintro ds rfl p
  have mem : p ∈ [p] := by simp
  refine ir_asg (ep_op (ep_ev (ev_lst (ea_cons ev_int (ea_cons (ev_op ev_int ev_int (r2_pow ⟨by decide, by decide, by decide⟩)) ea_nil))) (ep_op (ep_take rfl mem (ep_ev ev_int ⟨12, rfl, by decide, by decide, fun m m0 m1 => ep_ev ev_int ⟨_, r2_div ⟨by decide, by decide⟩, ?_⟩⟩)))))
  have hfar : ∃ far : Int, atI [Dt.int 0, .int (10 ^ (25 : Int).toNat)] (m.fdiv 11) = some (.int far) ∧ 0 ≤ far ∧ far ≤ 10 ^ 25 := by
    rw [Int.fdiv_eq_ediv_of_nonneg _ (by decide)]
    by_cases h : m < 11
    · rw [show m / 11 = 0 by omega]
      exact ⟨0, rfl, by decide, by decide⟩
    · rw [show m / 11 = 1 by omega]
      exact ⟨10 ^ (25 : Int).toNat, rfl, by decide, by decide⟩
  obtain ⟨far, hat, f0, f1⟩ := hfar
  refine ⟨_, r2_ixL hat, ?_⟩
  refine ir_asg (ep_call (epa_cons (ep_op (ep_op (ep_take rfl mem (ep_ev ev_int ⟨13, rfl, by decide, by decide, fun a a0 a1 => ep_ev ev_int ⟨_, r2_sub, ep_ev (ev_op ev_int (ev_var rfl) (r2_mul (mulL ⟨by decide, by decide⟩))) ⟨_, r2_add, epa_cons (ep_op (ep_ev ev_int (ep_take rfl mem (ep_ev ev_int ⟨2, rfl, by decide, by decide, fun b b0 b1 => ⟨_, r2_add, epa_nil ?_⟩⟩))))⟩⟩⟩))))))
  have bb : Bt 90 (1 + b) := by
    show (1 + b).natAbs < 2 ^ 90
    omega
  have ba : Bt 90 (a - 6 + 2 * far) := by
    show (a - 6 + 2 * far).natAbs < 2 ^ 90
    omega
  refine ⟨_, ⟨_, _, rfl, by omega, bb.mono (by decide), rfl⟩, ?_⟩
  refine ir_ret (ep_tup (epa_cons (ep_ev (ev_var rfl) (epa_cons (ep_call (epa_cons (ep_op (ep_take rfl mem (ep_ev ev_int ⟨13, rfl, by decide, by decide, fun c c0 c1 => ep_ev ev_int ⟨_, r2_sub, epa_cons (ep_op (ep_ev ev_int (ep_take rfl mem (ep_ev ev_int ⟨2, rfl, by decide, by decide, fun d d0 d1 => ⟨_, r2_add, epa_nil ?_⟩⟩))))⟩⟩)))))))))
  have bd : Bt 4 (1 + d) := by
    show (1 + d).natAbs < 2 ^ 4
    omega
  have bc : Bt 4 (c - 6) := by
    show (c - 6).natAbs < 2 ^ 4
    omega
  exact ⟨_, ⟨_, _, rfl, by omega, bd.mono (by decide), rfl⟩, epa_nil ⟨by exact Nat.le_of_ble_eq_true rfl, _, _, rfl, bq_div (by omega) ba bb, bq_div (by omega) bc bd, Nat.le_trans (den_le (by omega)) (by omega)⟩⟩
def HapsUp (n : Nat) (d : Dt) : Prop := ∃ ts : List (Rat × Rat), d = hapsD ts ∧ ts.Nodup ∧ 1 ≤ ts.length ∧ ts.length ≤ n ∧ ∀ p ∈ ts, Bq 90 p.1 ∧ Bq 4 p.2 ∧ p.1.den ≤ 2
theorem h__law_haps (T : Txt K mg ca fa ka) : Has P w K mg base CX0 3 "_law_haps" ["_law_pot_here", "_law_most"] (spM K (fun ds => ∃ n : Nat, ds = [.int (n : Nat)] ∧ 1 ≤ n ∧ n ≤ 60) fun ds d => ∀ n : Nat, ds = [.int (n : Nat)] → HapsUp n d) := by
  refine T.d__law_haps.draws sc__law_haps (fun ds h => by obtain ⟨n, rfl, _⟩ := h; rfl) (fun f cdv A outer s H E hr => (pss_cons (ps_set (i := 2) sc__law_haps.nd rfl (Or.inl rfl) (pe_lst pa_nil)) (pss_cons (ps_for PassesOwn.never rfl (pi_range1 rfl T.m_range (pa_cons (pe_op op_add pe_int (pe_h (h__law_take T) hr (by decide) pass0 (pa_cons (pv 0) (pa_cons (pv 1) pa_nil)))) pa_nil)) (pg_name (i := 3) sc__law_haps.nd rfl (Or.inl rfl)) (pss_cons (ps_set (i := 4) sc__law_haps.nd rfl (Or.inl rfl) (pe_h (h__law_hap T) hr (by decide) pass0 (pa_cons (pv 0) pa_nil))) (pss_one (ps_if (pt_cmpR (notInK (K := K) rfl hr) (pv 4) (pv 2) (by rfl)) (pss_one (ps_expr (bmK (K := K) rfl (pe_bm PySem.F.plainAttrs_list PySem.F.slot_list_append PySem.F.type_list_append mt_append (pv 2) (pa_cons (pv 4) pa_nil))))) pss_nil)))) (pss_one (ps_ret (pv 2)))))) ?_
  rintro ds ⟨n, rfl, n1, n60⟩ p
  have mem : p ∈ [p] := by simp
  have small : ∀ n : Nat, n ≤ 60 → ((n : Nat) : Int).natAbs.log2 < 9000 := fun n h => Nat.lt_of_le_of_lt (Nat.log2_le_self _) (by omega)
  refine ir_mkL fun q => ?_
  refine irk_il (il_forE (C := fun k => 1 ≤ k ∧ k ≤ n) (fun k s d => (∃ x y, s = [.raw (.ref p), .d (.int (n : Nat)), .raw (.ref q), x, y]) ∧ ∃ ts : List (Rat × Rat), d = ts.map (fun p => hapD p.1 p.2) ∧ ts.Nodup ∧ (0 < k → 1 ≤ ts.length) ∧ ts.length ≤ k ∧ ∀ p ∈ ts, Bq 90 p.1 ∧ Bq 4 p.2 ∧ p.1.den ≤ 2) (epa_cons (ep_op (ep_ev ev_int (ep_take rfl mem (ep_ev (ev_var rfl) ⟨(n : Nat), rfl, by omega, small n n60, fun m m0 m1 => ⟨_, r2_add, epa_nil ⟨(1 + m).toNat, by rw [Int.toNat_of_nonneg (by omega)], by omega, by omega, by omega⟩⟩⟩))))) ⟨⟨_, _, rfl⟩, [], rfl, List.nodup_nil, fun z => by omega, Nat.le_refl _, fun _ h => by cases h⟩ (fun k s d hk hs => ?_)) (fun s d hs => ?_)
  · obtain ⟨⟨x, y, rfl⟩, ts, rfl, nd, h1, h2, hb⟩ := hs
    obtain ⟨N, ⟨_, hN⟩, hkN⟩ := hk
    refine il_ip (M := fun s => ∃ t r : Rat, Bq 90 t ∧ (Bq 4 r ∧ t.den ≤ 2) ∧ s = [.raw (.ref p), .d (.int (n : Nat)), .raw (.ref q), .d (.int (k : Nat)), .d (hapD t r)]) (ip_asg1 (ep_callM rfl mem (epa_nil ⟨rfl, ?_⟩))) (fun s hs => ?_)
    · rintro _ ⟨t, r, rfl, bt, br⟩
      exact ⟨t, r, bt, br, rfl⟩
    obtain ⟨t, r, bt, br, rfl⟩ := hs
    refine il_ifL (i := 2) (b := !(ts.contains (t, r))) rfl (et_test (ev_op (ev_var rfl) (ev_var rfl) (by exact r2_notInH))) (fun z => il_app1 rfl (ea_cons (ev_var rfl) ea_nil) ?_ ⟨⟨_, _, rfl⟩, ts ++ [(t, r)], by rw [List.map_append]; rfl, ?_, fun _ => by rw [List.length_append, List.length_singleton]; omega, by rw [List.length_append, List.length_singleton]; omega, fun o ho => ?_⟩) (fun z => ⟨⟨_, _, rfl⟩, ts, rfl, nd, fun _ => ?_, by omega, hb⟩)
    · rw [List.length_map]; omega
    · have z' : (t, r) ∉ ts := fun h => by simp [h] at z
      exact List.nodup_append.mpr ⟨nd, by simp, fun a ha c hc e => z' (by rw [List.mem_singleton.mp hc] at e; rwa [e] at ha)⟩
    · rcases List.mem_append.mp ho with ho | ho
      · exact hb o ho
      · rw [List.mem_singleton.mp ho]; exact ⟨bt, br⟩
    · have z' : (t, r) ∈ ts := by simpa using z
      exact List.length_pos_of_mem z'
  · obtain ⟨k, ⟨k1, k2⟩, ⟨x, y, rfl⟩, ts, rfl, nd, h1, h2, hb⟩ := hs
    refine irk_ret rfl (fun n' e => ⟨ts, rfl, nd, h1 (by omega), ?_, hb⟩)
    injection e with e
    injection e with e
    omega
theorem h__law_whole (T : Txt K mg ca fa ka) : Has P w K mg base CX0 1 "_law_whole" ["_law_thing"] (spP K R_wh) := by
  refine T.d__law_whole.pure sc__law_whole (fun ds d h => by obtain ⟨x, rfl, _⟩ := h; rfl) (fun f cdv A outer s H E hr => (pss_one (ps_ret (pe_and (pe_callB (isiK (K := K) rfl) (by rfl) T.m_isinstance (by decide +kernel) (pa_cons (pv 0) (pa_cons (pe_bltn (v := .ty "int") (by rfl) T.m_int (by decide +kernel) rfl) pa_nil))) (pe_one (pe_not (pe_callB (isiK (K := K) rfl) (by rfl) T.m_isinstance (by decide +kernel) (pa_cons (pv 0) (pa_cons (pe_bltn (v := .ty "bool") (by rfl) T.m_bool (by decide +kernel) rfl) pa_nil))))))))) ?_
  rintro ds d ⟨x, rfl, rfl⟩
  obtain ⟨a, b, ha, hb, e⟩ := kb_whole x
  rw [← e]
  exact rt_ret (ev_andV (ev_isi (ev_var rfl) ha) (fun _ => ev_notV (ev_isi (ev_var rfl) hb)))
def R_good (ds : List Dt) (d : Dt) : Prop := ∃ x : Dt, ds = [x] ∧ Sz x ∧ d = .bl (isFr x)
theorem h__law_good (T : Txt K mg ca fa ka) : Has P w K mg base CX0 2 "_law_good" ["_law_thing"] (spP K R_good) := by
  refine T.d__law_good.pure sc__law_good (fun ds d h => by obtain ⟨x, rfl, _⟩ := h; rfl) (fun f cdv A outer s H E hr => (pss_cons (ps_if (PW.pt (pw_or (pt_not (pt_val (pe_callB (isiK (K := K) rfl) (by rfl) T.m_isinstance (by decide +kernel) (pa_cons (pv 0) (pa_cons (pe_bltn (v := .ty "tuple") (by rfl) T.m_tuple (by decide +kernel) rfl) pa_nil))))) (pw_or (pt_cmpR (neK (K := K) rfl hr.units) (pe_callB (lenK (K := K) rfl) (by rfl) T.m_len (by decide +kernel) (pa_cons (pv 0) pa_nil)) pe_int (nomark _)) (pw_or (pt_not (pt_val (pe_h (h__law_whole T) hr (by decide) pass0 (pa_cons (pe_ix (ixK (K := K) rfl) (pv 0) pe_int (fun _ _ => rfl)) pa_nil)))) (pw_or1 (pt_not (pt_val (pe_h (h__law_whole T) hr (by decide) pass0 (pa_cons (pe_ix (ixK (K := K) rfl) (pv 0) pe_int (fun _ _ => rfl)) pa_nil))))))))) (pss_one (ps_ret pe_bl)) pss_nil) (pss_one (ps_ret (pe_and (pe_cmpR op_gt (pe_ix (ixK (K := K) rfl) (pv 0) pe_int (fun _ _ => rfl)) pe_int (nomark _)) (pe_one (pe_cmpR (eqK (K := K) rfl hr.units) (pe_h (h__law_low T) hr (by decide) pass0 (pa_cons (pe_ix (ixK (K := K) rfl) (pv 0) pe_int (fun _ _ => rfl)) (pa_cons (pe_ix (ixK (K := K) rfl) (pv 0) pe_int (fun _ _ => rfl)) pa_nil))) (pv 0) (nomark _)))))))) ?_
  rintro ds d ⟨x, rfl, hsz, rfl⟩
  obtain ⟨c, hc, hiff⟩ := kb_tup x
  by_cases h : ∃ ds, x = .tup ds
  · obtain ⟨ds, rfl⟩ := h
    have c1 : c = true := hiff.mpr ⟨ds, rfl⟩
    subst c1
    by_cases hl : ds.length = 2
    · obtain ⟨a, b, rfl⟩ := two_of hl
      by_cases ha : isWh a = true
      · obtain ⟨t, rfl⟩ := isWh_iff.mp ha
        by_cases hb2 : isWh b = true
        · obtain ⟨u, rfl⟩ := isWh_iff.mp hb2
          have hu := hsz t u rfl
          refine rt_cond (b := false) (et_is (et_or (et_not (et_B (ev_isi (ev_var rfl) hc))) (fun _ => et_or (et_test (ev_op (ev_cb (ea_cons (ev_var rfl) ea_nil) rc_lenT) ev_int r2_neI)) (fun _ => et_or (et_not (et_B (ev_call (ea_cons (ev_op (ev_var rfl) ev_int ix0) ea_nil) (by exact ⟨_, rfl, rfl⟩)))) (fun _ => et_not (et_B (ev_call (ea_cons (ev_op (ev_var rfl) ev_int ix1) ea_nil) (by exact ⟨_, rfl, rfl⟩))))))) rfl) (fun h => by cases h) (fun _ => ?_)
          by_cases u0 : 0 < u
          · have un : u ≠ 0 := by omega
            refine rt_is (rt_ret (ev_andV (ev_op (ev_op (ev_var rfl) ev_int ix1) ev_int r2_gt) (fun _ => ev_op (ev_call (ea_cons (ev_op (ev_var rfl) ev_int ix0) (ea_cons (ev_op (ev_var rfl) ev_int ix1) ea_nil)) (by exact ⟨t, u, rfl, un, hu, rfl⟩)) (ev_var rfl) (r2_eq (py_fq _) (by exact rfl) (sh_fq _ _) (sh_fq _ _))))) ?_
            rw [eqv_pair, isFr_pair u0]
            rfl
          · rw [show isFr (.tup [.int t, .int u]) = false by show (decide (0 < u) && _) = false; rw [decide_eq_false u0]; rfl]
            exact rt_is (rt_ret (ev_andV (b := false) (ev_is (ev_op (ev_op (ev_var rfl) ev_int ix1) ev_int r2_gt) (by rw [decide_eq_false u0])) (fun h => by cases h))) rfl
        · have e : isFr (.tup [.int t, b]) = false := by
            cases b <;> first | rfl | exact absurd rfl hb2
          have hb3 : isWh b = false := by simpa using hb2
          rw [e]
          exact rt_cond (b := true) (et_is (et_or (et_not (et_B (ev_isi (ev_var rfl) hc))) (fun _ => et_or (et_test (ev_op (ev_cb (ea_cons (ev_var rfl) ea_nil) rc_lenT) ev_int r2_neI)) (fun _ => et_or (et_not (et_B (ev_call (ea_cons (ev_op (ev_var rfl) ev_int ix0) ea_nil) (by exact ⟨_, rfl, rfl⟩)))) (fun _ => et_not (et_B (ev_call (ea_cons (ev_op (ev_var rfl) ev_int ix1) ea_nil) (by exact ⟨_, rfl, rfl⟩))))))) (by rw [hb3]; rfl)) (fun _ => rt_ret ev_bl) (fun h => by cases h)
      · have e : isFr (.tup [a, b]) = false := by
          cases a <;> first | rfl | exact absurd rfl ha
        have ha3 : isWh a = false := by simpa using ha
        rw [e]
        exact rt_cond (b := true) (et_is (et_or (et_not (et_B (ev_isi (ev_var rfl) hc))) (fun _ => et_or (et_test (ev_op (ev_cb (ea_cons (ev_var rfl) ea_nil) rc_lenT) ev_int r2_neI)) (fun _ => et_or (b := true) (et_is (et_not (et_B (ev_call (ea_cons (ev_op (ev_var rfl) ev_int ix0) ea_nil) (by exact ⟨_, rfl, rfl⟩)))) (show (!isWh a) = true by rw [ha3]; rfl)) (fun h => by cases h)))) rfl) (fun _ => rt_ret ev_bl) (fun h => by cases h)
    · rw [isFr_len hl]
      exact rt_cond (b := true) (et_is (et_or (et_not (et_B (ev_isi (ev_var rfl) hc))) (fun _ => et_or (b := true) (et_is (et_test (ev_op (ev_cb (ea_cons (ev_var rfl) ea_nil) rc_lenT) ev_int r2_neI)) (by rw [beq_eq_false_iff_ne.mpr (show ¬ (ds.length : Int) = 2 by omega)]; rfl : (!((ds.length : Int) == 2)) = true)) (fun h => by cases h))) rfl) (fun _ => rt_ret ev_bl) (fun h => by cases h)
  · have c0 : c = false := by
      cases c with
      | false => rfl
      | true => exact absurd (hiff.mp rfl) h
    subst c0
    have e : isFr x = false := by
      cases x <;> first | rfl | exact absurd ⟨_, rfl⟩ h
    rw [e]
    exact rt_cond (b := true) (et_is (et_or (b := true) (et_not (et_B (ev_isi (ev_var rfl) hc))) (fun h => by cases h)) rfl) (fun _ => rt_ret ev_bl) (fun h => by cases h)
def Kd (ca : Nat → Addr) (D : Addr) (ans : Str) : Prop := (D = ca 3 ∧ ans = "text")
theorem h__law_kind_of (T : Txt K mg ca fa ka) : HasE P w K mg base 1 "_law_kind_of" "_law_e" (Kd ca) := by
  obtain ⟨f, fd, F, hm, b⟩ := T.d__law_kind_of.ex
  refine ⟨f, fd, fun D ans h => ?_, hm, F.kp, b⟩
  rcases h with ⟨rfl, rfl⟩
  · refine fnE_of F sc__law_kind_of (fun cdv A outer s H a oe hr hz hf => (pss_cons (ps_set (i := 1) sc__law_kind_of.nd rfl (Or.inl rfl) (pe_lst (pa_cons (pe_callB (isE (K := K) rfl List.mem_cons_self T.e_NoText hz hf) (by rfl) T.m_isinstance (by decide +kernel) (pa_cons (pv 0) (pa_cons (pe_glob (v := .ref (ca 17)) (by rfl) T.c_NoDeed rfl) pa_nil))) (pa_cons (pe_callB (isE (K := K) rfl List.mem_cons_self T.e_NoText hz hf) (by rfl) T.m_isinstance (by decide +kernel) (pa_cons (pv 0) (pa_cons (pe_glob (v := .ref (ca 15)) (by rfl) T.c_NoFlash rfl) pa_nil))) (pa_cons (pe_callB (isE (K := K) rfl List.mem_cons_self T.e_NoText hz hf) (by rfl) T.m_isinstance (by decide +kernel) (pa_cons (pv 0) (pa_cons (pe_glob (v := .ref (ca 1)) (by rfl) T.c_NoFraction rfl) pa_nil))) (pa_cons (pe_callB (isE (K := K) rfl List.mem_cons_self T.e_NoText hz hf) (by rfl) T.m_isinstance (by decide +kernel) (pa_cons (pv 0) (pa_cons (pe_glob (v := .ref (ca 2)) (by rfl) T.c_NoHap rfl) pa_nil))) pa_nil)))))) (pss_cons (ps_set (i := 1) sc__law_kind_of.nd rfl (Or.inl rfl) (pe_op (catK (K := K) rfl) (pv 1) (pe_lst (pa_cons (pe_callB (isE (K := K) rfl List.mem_cons_self T.e_NoText hz hf) (by rfl) T.m_isinstance (by decide +kernel) (pa_cons (pv 0) (pa_cons (pe_glob (v := .ref (ca 8)) (by rfl) T.c_NoHaps rfl) pa_nil))) (pa_cons (pe_callB (isE (K := K) rfl List.mem_cons_self T.e_NoText hz hf) (by rfl) T.m_isinstance (by decide +kernel) (pa_cons (pv 0) (pa_cons (pe_glob (v := .ref (ca 16)) (by rfl) T.c_NoName rfl) pa_nil))) (pa_cons (pe_callB (isE (K := K) rfl List.mem_cons_self T.e_NoText hz hf) (by rfl) T.m_isinstance (by decide +kernel) (pa_cons (pv 0) (pa_cons (pe_glob (v := .ref (ca 11)) (by rfl) T.c_NoNumber rfl) pa_nil))) pa_nil)))))) (pss_cons (ps_set (i := 1) sc__law_kind_of.nd rfl (Or.inl rfl) (pe_op (catK (K := K) rfl) (pv 1) (pe_lst (pa_cons (pe_callB (isE (K := K) rfl List.mem_cons_self T.e_NoText hz hf) (by rfl) T.m_isinstance (by decide +kernel) (pa_cons (pv 0) (pa_cons (pe_glob (v := .ref (ca 9)) (by rfl) T.c_NoOrder rfl) pa_nil))) (pa_cons (pe_callB (isE (K := K) rfl List.mem_cons_self T.e_NoText hz hf) (by rfl) T.m_isinstance (by decide +kernel) (pa_cons (pv 0) (pa_cons (pe_glob (v := .ref (ca 13)) (by rfl) T.c_NoRod rfl) pa_nil))) (pa_cons (pe_callB (isE (K := K) rfl List.mem_cons_self T.e_NoText hz hf) (by rfl) T.m_isinstance (by decide +kernel) (pa_cons (pv 0) (pa_cons (pe_glob (v := .ref (ca 18)) (by rfl) T.c_NoRow rfl) pa_nil))) (pa_cons (pe_callB (isE (K := K) rfl List.mem_cons_self T.e_NoText hz hf) (by rfl) T.m_isinstance (by decide +kernel) (pa_cons (pv 0) (pa_cons (pe_glob (v := .ref (ca 12)) (by rfl) T.c_NoSeat rfl) pa_nil))) pa_nil))))))) (pss_cons (ps_set (i := 1) sc__law_kind_of.nd rfl (Or.inl rfl) (pe_op (catK (K := K) rfl) (pv 1) (pe_lst (pa_cons (pe_callB (isE (K := K) rfl List.mem_cons_self T.e_NoText hz hf) (by rfl) T.m_isinstance (by decide +kernel) (pa_cons (pv 0) (pa_cons (pe_glob (v := .ref (ca 4)) (by rfl) T.c_NoSpeed rfl) pa_nil))) (pa_cons (pe_callB (isE (K := K) rfl List.mem_cons_self T.e_NoText hz hf) (by rfl) T.m_isinstance (by decide +kernel) (pa_cons (pv 0) (pa_cons (pe_glob (v := .ref (ca 10)) (by rfl) T.c_NoStep rfl) pa_nil))) (pa_cons (pe_callB (isE (K := K) rfl List.mem_cons_self T.e_NoText hz hf) (by rfl) T.m_isinstance (by decide +kernel) (pa_cons (pv 0) (pa_cons (pe_glob (v := .ref (ca 7)) (by rfl) T.c_NoStretch rfl) pa_nil))) pa_nil)))))) (pss_cons (ps_set (i := 1) sc__law_kind_of.nd rfl (Or.inl rfl) (pe_op (catK (K := K) rfl) (pv 1) (pe_lst (pa_cons (pe_callB (isE (K := K) rfl List.mem_cons_self T.e_NoText hz hf) (by rfl) T.m_isinstance (by decide +kernel) (pa_cons (pv 0) (pa_cons (pe_glob (v := .ref (ca 3)) (by rfl) T.c_NoText rfl) pa_nil))) (pa_cons (pe_callB (isE (K := K) rfl List.mem_cons_self T.e_NoText hz hf) (by rfl) T.m_isinstance (by decide +kernel) (pa_cons (pv 0) (pa_cons (pe_glob (v := .ref (ca 6)) (by rfl) T.c_NotPlain rfl) pa_nil))) (pa_cons (pe_callB (isE (K := K) rfl List.mem_cons_self T.e_NoText hz hf) (by rfl) T.m_isinstance (by decide +kernel) (pa_cons (pv 0) (pa_cons (pe_glob (v := .ref (ca 14)) (by rfl) T.c_NoWay rfl) pa_nil))) (pa_cons (pe_callB (isE (K := K) rfl List.mem_cons_self T.e_NoText hz hf) (by rfl) T.m_isinstance (by decide +kernel) (pa_cons (pv 0) (pa_cons (pe_glob (v := .ref (ca 5)) (by rfl) T.c_TooMany rfl) pa_nil))) pa_nil))))))) (pss_cons (ps_if (PW.pt (pw_or (pt_cmpR (neK (K := K) rfl (unH hr)) (bmK (K := K) rfl (pe_bm PySem.F.plainAttrs_list PySem.F.slot_list_count PySem.F.type_list_count (cntK (K := K) rfl (unH hr)) (pv 1) (pa_cons pe_bl pa_nil))) pe_int (nomark _)) (pw_or1 (pt_not (pt_val (pe_callB (isE (K := K) rfl List.mem_cons_self T.e_NoText hz hf) (by rfl) T.m_isinstance (by decide +kernel) (pa_cons (pv 0) (pa_cons (pe_bltn (v := .ty "ValueError") (by rfl) T.m_ValueError (by decide +kernel) rfl) pa_nil)))))))) (pss_one (ps_ret pe_str)) pss_nil) (pss_cons (ps_set (i := 2) sc__law_kind_of.nd rfl (Or.inl rfl) (pe_lst (pa_cons pe_str (pa_cons pe_str (pa_cons pe_str (pa_cons pe_str (pa_cons pe_str (pa_cons pe_str (pa_cons pe_str (pa_cons pe_str (pa_cons pe_str (pa_cons pe_str (pa_cons pe_str (pa_cons pe_str pa_nil)))))))))))))) (pss_one (ps_ret (pe_ix (ixK (K := K) rfl) (pe_op (catK (K := K) rfl) (pv 2) (pe_lst (pa_cons pe_str (pa_cons pe_str (pa_cons pe_str (pa_cons pe_str (pa_cons pe_str (pa_cons pe_str pa_nil)))))))) (bmK (K := K) rfl (pe_bm PySem.F.plainAttrs_list PySem.F.slot_list_index PySem.F.type_list_index (idxK (K := K) rfl) (pv 1) (pa_cons pe_bl pa_nil))) (fun _ _ => rfl)))))))))))) fun a => ?_
    refine (rt_seq (nt_asg (ev_lst (ea_cons (ev_isE rfl (fun _ r => r) T.k_NoText_NoDeed) (ea_cons (ev_isE rfl (fun _ r => r) T.k_NoText_NoFlash) (ea_cons (ev_isE rfl (fun _ r => r) T.k_NoText_NoFraction) (ea_cons (ev_isE rfl (fun _ r => r) T.k_NoText_NoHap) ea_nil)))))) (rt_seq (nt_asg (ev_op (ev_var rfl) (ev_lst (ea_cons (ev_isE rfl (fun _ r => r) T.k_NoText_NoHaps) (ea_cons (ev_isE rfl (fun _ r => r) T.k_NoText_NoName) (ea_cons (ev_isE rfl (fun _ r => r) T.k_NoText_NoNumber) ea_nil)))) (r2_cat (by exact Nat.le_of_ble_eq_true rfl)))) (rt_seq (nt_asg (ev_op (ev_var rfl) (ev_lst (ea_cons (ev_isE rfl (fun _ r => r) T.k_NoText_NoOrder) (ea_cons (ev_isE rfl (fun _ r => r) T.k_NoText_NoRod) (ea_cons (ev_isE rfl (fun _ r => r) T.k_NoText_NoRow) (ea_cons (ev_isE rfl (fun _ r => r) T.k_NoText_NoSeat) ea_nil))))) (r2_cat (by exact Nat.le_of_ble_eq_true rfl)))) (rt_seq (nt_asg (ev_op (ev_var rfl) (ev_lst (ea_cons (ev_isE rfl (fun _ r => r) T.k_NoText_NoSpeed) (ea_cons (ev_isE rfl (fun _ r => r) T.k_NoText_NoStep) (ea_cons (ev_isE rfl (fun _ r => r) T.k_NoText_NoStretch) ea_nil)))) (r2_cat (by exact Nat.le_of_ble_eq_true rfl)))) (rt_seq (nt_asg (ev_op (ev_var rfl) (ev_lst (ea_cons (ev_isE rfl (fun _ r => r) T.k_NoText_NoText) (ea_cons (ev_isE rfl (fun _ r => r) T.k_NoText_NotPlain) (ea_cons (ev_isE rfl (fun _ r => r) T.k_NoText_NoWay) (ea_cons (ev_isE rfl (fun _ r => r) T.k_NoText_TooMany) ea_nil))))) (r2_cat (by exact Nat.le_of_ble_eq_true rfl)))) ?_)))))
    refine rt_cond (b := false) (et_is (et_or (et_test (ev_op (ev_count (bs := [false, false, false, false, false, false, false, false, false, false, false, false, false, false, true, false, false, false]) (ev_var rfl)) ev_int r2_neI)) (fun _ => et_not (et_B (ev_isE rfl (fun _ r => r) T.v_NoText)))) rfl) (fun h => by cases h) (fun _ => ?_)
    refine rt_seq (nt_asg (ev_lst (ea_cons ev_str (ea_cons ev_str (ea_cons ev_str (ea_cons ev_str (ea_cons ev_str (ea_cons ev_str (ea_cons ev_str (ea_cons ev_str (ea_cons ev_str (ea_cons ev_str (ea_cons ev_str (ea_cons ev_str ea_nil)))))))))))))) ?_
    refine rt_ret (ev_op (ev_op (ev_var rfl) (ev_lst (ea_cons ev_str (ea_cons ev_str (ea_cons ev_str (ea_cons ev_str (ea_cons ev_str (ea_cons ev_str ea_nil))))))) (r2_cat (by exact Nat.le_of_ble_eq_true rfl))) (ev_index (bs := [false, false, false, false, false, false, false, false, false, false, false, false, false, false, true, false, false, false]) (j := 14) (ev_var rfl) rfl ?_) (r2_ixL rfl))
    intro m hm
    match m, hm with
    | 0, _ => rfl
    | 1, _ => rfl
    | 2, _ => rfl
    | 3, _ => rfl
    | 4, _ => rfl
    | 5, _ => rfl
    | 6, _ => rfl
    | 7, _ => rfl
    | 8, _ => rfl
    | 9, _ => rfl
    | 10, _ => rfl
    | 11, _ => rfl
    | 12, _ => rfl
    | 13, _ => rfl
    | m + 14, h => exact absurd h (by omega)
def R_pln (ds : List Dt) (d : Dt) : Prop := ∃ q : Rat, ds = [fq q] ∧ Bq 1900 q ∧ d = .str (mkS (fracL q))
theorem mul_1 (x : Str) : PySem.MulOk x 1 ∧ Txt.mul x 1 = x := ⟨⟨by decide +kernel, fun _ h => by simp at h, fun _ h => by simp at h⟩, by
  unfold Txt.mul
  rw [if_neg (by decide), if_pos (by rfl)]⟩
theorem mul_0 (x : Str) : PySem.MulOk x 0 ∧ Txt.mul x 0 = Str.empty := ⟨⟨by decide +kernel, fun h => absurd (by decide) h, fun h => absurd (by decide) h⟩, by
  unfold Txt.mul
  rw [if_pos (by decide)]⟩
theorem h__law_plain (T : Txt K mg ca fa ka) : Has P w K mg base CX0 1 "_law_plain" ["_law_one"] (spP K R_pln) := by
  refine T.d__law_plain.pure sc__law_plain (fun ds d h => by obtain ⟨_, rfl, _⟩ := h; rfl) (fun f cdv A outer s H E hr => (pss_one (ps_ret (pe_op op_adS (pe_callTy cr_str (by rfl) T.m_str (by decide +kernel) (pa_cons (pe_ix (ixK (K := K) rfl) (pv 0) pe_int (fun _ _ => rfl)) pa_nil)) (pe_op op_muS (pe_op op_adS pe_str (pe_callTy cr_str (by rfl) T.m_str (by decide +kernel) (pa_cons (pe_ix (ixK (K := K) rfl) (pv 0) pe_int (fun _ _ => rfl)) pa_nil))) (pe_callTy cr_int (by rfl) T.m_int (by decide +kernel) (pa_cons (pe_cmpR (neK (K := K) rfl hr.units) (pe_ix (ixK (K := K) rfl) (pv 0) pe_int (fun _ _ => rfl)) pe_int (nomark _)) pa_nil))))))) ?_
  rintro ds d ⟨q, rfl, bq, rfl⟩
  have l1 := numI_k (k := 1900) (by decide) bq.1
  have l2 := numI_k (k := 1900) (by decide) bq.2
  have e1 : TL.tl (toString q.num : String) = numI q.num := tl_strI q.num
  have e2 : TL.tl (toString ((q.den : Nat) : Int) : String) = numI ((q.den : Nat) : Int) := tl_strI _
  have es : ∀ {sl : List Sl}, sl[0]? = some (.d (fq q)) → Ev K (tOp rAdS (tC (.str "/")) (tCB rStrI (tCons (tOp (rIx K) (tVar 0) (tC (.int 1))) tNil))) sl (.str (("/" : Str) ++ (toString ((q.den : Nat) : Int) : String))) := fun h => ev_op ev_str (ev_cb (ea_cons (ev_op (ev_var h) ev_int (by exact fx1)) ea_nil) (rc_str (log_bt bq.2 (by decide)))) (r2_adS (by
    rw [TL.len_tl, TL.len_tl, sl47, e2]
    show 1 + _ ≤ _
    omega))
  have et : ∀ {sl : List Sl} {b : Bool}, sl[0]? = some (.d (fq q)) → (!(((q.den : Nat) : Int) == 1)) = b → Ev K (tCB rIntB (tCons (tOp (rNeD K) (tOp (rIx K) (tVar 0) (tC (.int 1))) (tC (.int 1))) tNil)) sl (.int (if b then 1 else 0)) := fun h e => ev_cb (ea_cons (ev_is (ev_op (ev_op (ev_var h) ev_int (by exact fx1)) ev_int r2_neI) (by rw [e])) ea_nil) rc_intB
  have e0 : ∀ {sl : List Sl}, sl[0]? = some (.d (fq q)) → Ev K (tCB rStrI (tCons (tOp (rIx K) (tVar 0) (tC (.int 0))) tNil)) sl (.str (toString q.num : String)) := fun h => ev_cb (ea_cons (ev_op (ev_var h) ev_int (by exact fx0)) ea_nil) (rc_str (log_bt bq.1 (by decide)))
  by_cases h1 : q.den = 1
  · obtain ⟨m1, m2⟩ := mul_0 (("/" : Str) ++ (toString ((q.den : Nat) : Int) : String))
    refine rt_is (rt_ret (ev_op (e0 rfl) (ev_op (es rfl) (ev_is (et (b := false) rfl (by rw [h1]; rfl)) (show Dt.int (if false = true then 1 else 0) = .int 0 from rfl)) (r2_muS m1)) (r2_adS ?_))) ?_
    · rw [m2, TL.len_tl, e1, show (Str.empty).length = 0 from by decide +kernel]
      omega
    · rw [m2, fracL_den1 h1]
      refine congrArg Dt.str (TL.ext_tl ?_)
      rw [TL.tl_append, e1, tl_mkS, empty_is, sl0, List.append_nil]
  · obtain ⟨m1, m2⟩ := mul_1 (("/" : Str) ++ (toString ((q.den : Nat) : Int) : String))
    refine rt_is (rt_ret (ev_op (e0 rfl) (ev_op (es rfl) (ev_is (et (b := true) rfl ?_) (show Dt.int (if true = true then 1 else 0) = .int 1 from rfl)) (r2_muS m1)) (r2_adS ?_))) ?_
    · rw [Bool.not_eq_true']
      exact beq_eq_false_iff_ne.mpr fun z => h1 (by exact_mod_cast z)
    · rw [m2, TL.len_tl, TL.len_tl, TL.tl_append, e1, e2, sl47, List.length_append]
      show _ + (1 + _) ≤ _
      omega
    · rw [m2, fracL_den h1]
      refine congrArg Dt.str (TL.ext_tl ?_)
      rw [TL.tl_append, TL.tl_append, e1, e2, tl_mkS, sl47, numI_nat]
      simp
def R_lin (ds : List Dt) (d : Dt) : Prop := ∃ ps : List (Rat × Rat), ds = [hapsD ps] ∧ (∀ p ∈ ps, Bq 400 p.1 ∧ Bq 400 p.2) ∧ ps.length ≤ 100 ∧ d = .str (mkS (lineL ps))
theorem h__law_line (T : Txt K mg ca fa ka) : Has P w K mg base CX0 2 "_law_line" ["_law_haps_here"] (spP K R_lin) := by
  refine T.d__law_line.pure sc__law_line (fun ds d h => by obtain ⟨_, rfl, _⟩ := h; rfl) (fun f cdv A outer s H E hr => (pss_one (ps_ret (pe_m1 PySem.F.slot_str_join PySem.F.type_str_join (tjoin (K := K) rfl) pe_str (pe_lc (own := [("_law_time", 1), ("_law_place", 2)]) (g := gTup K 2 (gCons (gName 1) (gCons (gName 2) gNil))) (tt := tYes) rfl sc__law_line.nd (lstK (K := K) rfl (pv 0)) (blkOk_by (own := [("_law_time", 1), ("_law_place", 2)]) (N := ["_law_haps_here", "_law_time", "_law_place"]) (sc := defScope s__law_line) (by decide +kernel)) (fun _ _ _ _ _ => tupK (K := K) (n := 2) rfl rfl (pgs_cons (pg_name (i := 1) sc__law_line.nd rfl (Or.inl rfl)) (pgs_cons (pg_name (i := 2) sc__law_line.nd rfl (Or.inl rfl)) pgs_nil))) (fun _ _ _ _ _ => pts_nil) (fun _ _ _ _ _ => (pe_op op_adS (pe_op op_adS (pe_h (h__law_plain T) hr (by decide) pass0 (pa_cons (pv 1) pa_nil)) pe_str) (pe_h (h__law_plain T) hr (by decide) pass0 (pa_cons (pv 2) pa_nil))))))))) ?_
  rintro ds d ⟨ps, rfl, hb, hn, rfl⟩
  refine rt_is (rt_ret (ev_m1 ev_str (ev_is (ev_ef (ef_lc2 (as := ps.map fun p => fq p.1) (bs := ps.map fun p => fq p.2) (es := ps.map fun p => .str (mkS (hapL p))) (by rw [List.length_map, List.length_map]) (by rw [List.length_map, List.length_map]) (ev_is (ev_var rfl) (congrArg Dt.lst (haps_zip ps))) (by rw [List.length_map]; omega) (fun k a b e ha hb' he => ?_))) (show _ = Dt.lst ((ps.map fun p => mkS (hapL p)).map Dt.str) by rw [List.map_map]; rfl)) (m1_join (line_sum sl32 hb hn)))) (congrArg Dt.str (join_hap sl32))
  rw [List.getElem?_map] at ha hb' he
  cases hp : ps[k]? with
  | none => rw [hp] at ha; cases ha
  | some p =>
    rw [hp] at ha hb' he
    cases ha
    cases hb'
    cases he
    obtain ⟨h1, h2⟩ := hb p (List.mem_of_getElem? hp)
    have l1 := frac_ln h1
    have l2 := frac_ln h2
    refine ev_is (ev_op (ev_op (ev_call (ea_cons (ev_var rfl) ea_nil) (by exact ⟨_, rfl, h1.mono (by decide), rfl⟩)) ev_str (r2_adS ?_)) (ev_call (ea_cons (ev_var rfl) ea_nil) (by exact ⟨_, rfl, h2.mono (by decide), rfl⟩)) (r2_adS ?_)) (congrArg Dt.str (hap_text sl64))
    · rw [TL.len_tl (x := ("@" : Str)), sl64]
      show _ + 1 ≤ _
      omega
    · rw [TL.len_tl, TL.tl_append, List.length_append, sl64, ← TL.len_tl]
      show _ + 1 + _ ≤ _
      omega
def R_nin (ds : List Dt) (d : Dt) : Prop := ∃ s : Str, ds = [.str s] ∧ TxC s ∧ d = numInD (TL.tl s)
theorem h__law_number_in (T : Txt K mg ca fa ka) : Has P w K mg base CX0 1 "_law_number_in" ["_law_word"] (spP K R_nin) := by
  refine T.d__law_number_in.pure sc__law_number_in (fun ds d h => by obtain ⟨_, rfl, _⟩ := h; rfl) (fun f cdv A outer s H E hr => (pss_cons (ps_set (i := 1) sc__law_number_in.nd rfl (Or.inl rfl) (pe_slice sl_str (pv 0) (po_some (pe_callTy cr_int (by rfl) T.m_int (by decide +kernel) (pa_cons (pe_cmpR (eqK (K := K) rfl hr.units) (pe_slice sl_str (pv 0) po_none (po_some pe_int)) pe_str (nomark _)) pa_nil))) po_none)) (pss_cons (ps_if (PW.pt (pw_or (pt_cmpR (eqK (K := K) rfl hr.units) (pv 1) pe_str (nomark _)) (pw_or1 (pt_not (pt_val (pe_callB (allK (K := K) rfl rfl) (by rfl) T.m_all (by decide +kernel) (pa_cons (pe_lc (own := [("_law_sign", 2)]) (g := gName 2) (tt := tYes) rfl sc__law_number_in.nd (pi_str (pv 1)) (blkOk_by (own := [("_law_sign", 2)]) (N := ["_law_word", "_law_figures", "_law_sign"]) (sc := defScope s__law_number_in) (by decide +kernel)) (fun _ _ _ _ _ => pg_name (i := 2) sc__law_number_in.nd rfl (Or.inl rfl)) (fun _ _ _ _ _ => pts_nil) (fun _ _ _ _ _ => (pe_cmpR op_in_sign (pv 2) pe_str (by rfl)))) pa_nil))))))) (pss_one (ps_ret pe_non)) pss_nil) (pss_one (ps_ret (pe_ifExp (pt_cmpR (eqK (K := K) rfl hr.units) (pe_callTy cr_str (by rfl) T.m_str (by decide +kernel) (pa_cons (pe_callTy cintS (by rfl) T.m_int (by decide +kernel) (pa_cons (pv 0) pa_nil)) pa_nil)) (pv 0) (nomark _)) (pe_callTy cintS (by rfl) T.m_int (by decide +kernel) (pa_cons (pv 0) pa_nil)) pe_non)))))) ?_
  rintro ds d ⟨s, rfl, ht, rfl⟩
  have l9 : s.length ≤ 100000 := Nat.le_trans ht.len (by decide)
  have shs := sh_str ht.ok
  obtain ⟨C, hC⟩ : ∃ C : Str, C = cutS s none (some ((1 : Nat) : Int)) := ⟨_, rfl⟩
  have eC : TL.tl C = (TL.tl s).take 1 := by rw [hC]; exact cut_to s 1
  have hb : (C == ("-" : Str)) = isMin (TL.tl s) := by
    have hy : TL.tl ("-" : Str) = [45] := by decide +kernel
    cases hm : isMin (TL.tl s) with
    | true =>
      obtain ⟨r, er⟩ := isMin_iff.mp hm
      exact beq_iff_eq.mpr (TL.ext_tl (by rw [eC, er, hy]; rfl))
    | false =>
      refine beq_eq_false_iff_ne.mpr fun e => ?_
      rw [e, hy] at eC
      cases hl : TL.tl s with
      | nil => rw [hl] at eC; cases eC
      | cons c r =>
        rw [hl] at eC
        have : c = 45 := by
          have := (List.cons.inj eC).1
          exact this.symm
        rw [isMin_iff.mpr ⟨r, by rw [hl, this]⟩] at hm
        cases hm
  have shC : SeqAt.shaped (.str C) = true := sh_str fun c hc => ht.ok c (by rw [eC] at hc; exact List.mem_of_mem_take hc)
  obtain ⟨F, hF⟩ : ∃ F : Str, F = cutS s (some (if isMin (TL.tl s) = true then 1 else 0)) none := ⟨_, rfl⟩
  have eF : TL.tl F = behL (TL.tl s) := by
    rw [hF]
    cases hm : isMin (TL.tl s) with
    | true =>
      obtain ⟨r, er⟩ := isMin_iff.mp hm
      rw [if_pos rfl]
      have := cut_from s 1
      rw [er] at this ⊢
      exact this
    | false =>
      rw [if_neg Bool.false_ne_true, behL_no (fun r e => by rw [isMin_iff.mpr ⟨r, e⟩] at hm; cases hm)]
      exact cut_from s 0
  have hoF : ∀ c ∈ TL.tl F, c < 0x110000 := by rw [eF]; exact beh_ok ht.ok
  refine rt_seq (nt_asg (x := .str F) (ev_is (ev_slSfrom (ev_var rfl) (ev_is (ev_cb (ea_cons (ev_is (ev_op (ev_is (ev_slSto (ev_var rfl) ev_int l9) (congrArg Dt.str hC.symm)) ev_str (r2_eqS shC (by decide +kernel))) (by rw [hb])) ea_nil) rc_intB) rfl) l9) (congrArg Dt.str hF.symm))) ?_
  have nF : F.cps.size ≤ 90000 := by
    rw [cps_len, eF]
    have := ht.len
    rw [TL.len_tl] at this
    unfold behL
    split
    · rename_i r e
      rw [e, List.length_cons] at this
      omega
    · omega
  have t1 : ∀ {sl : List Sl}, sl[1]? = some (.d (.str F)) → EvT K (tTest (tOp (rEqD K) (tVar 1) (tC (.str "")))) sl (F == "") := fun h => et_test (ev_op (ev_var h) ev_str (r2_eqS (sh_str hoF) (by decide +kernel)))
  have eE : (F == ("" : Str)) = (behL (TL.tl s)).isEmpty := by
    rw [← eF]
    cases hl : TL.tl F with
    | nil => exact beq_iff_eq.mpr (TL.ext_tl (by rw [hl, sl0]))
    | cons c r =>
      refine beq_eq_false_iff_ne.mpr fun e => ?_
      rw [e, sl0] at hl
      cases hl
  have t2 : EvT K (tNot (tB (tCB (rAll K) (tCons (tLc (iStr (tVar 1)) (gName 2) tYes (tOp (fun x y H Q => ∃ (c : Nat) (z : Str), x = .str ⟨#[c]⟩ ∧ y = .str z ∧ Q (.bl (decide (c ∈ z.cps.toList))) H) (tVar 2) (tC (.str "0123456789"))) [2]) tNil)))) [.d (.str s), .d (.str F), .no] (!allD (behL (TL.tl s))) := by
    refine et_not (et_B (ev_is (ev_cb (ea_cons (ev_is (ev_lcS (s := F) (es := ((TL.tl F).map fun c => (decide (48 ≤ c) && decide (c ≤ 57))).map Dt.bl) (by rw [List.length_map, List.length_map, cps_len]) (ev_var rfl) nF (fun k e hk he => ?_)) rfl) ea_nil) rc_all) ?_))
    · rw [List.getElem?_map, List.getElem?_map] at he
      rw [cps_len] at hk
      obtain ⟨c, hc⟩ : ∃ c, (TL.tl F)[k]? = some c := ⟨_, List.getElem?_eq_getElem hk⟩
      rw [hc] at he
      cases he
      exact ev_is (ev_op (ev_is (ev_var rfl) (sg_at hc)) ev_str r2_sgIn) (by rw [figs_mem])
    · rw [eF]
      refine congrArg Dt.bl ?_
      unfold allD
      rw [List.all_map]
      rfl
  cases hbad : ((behL (TL.tl s)).isEmpty || !allD (behL (TL.tl s))) with
  | true =>
    refine rt_yes (et_or (a := (behL (TL.tl s)).isEmpty) (et_is (t1 rfl) eE) (fun _ => t2)) hbad (rt_is (rt_ret ev_non) ?_)
    refine (numIn_none fun n e => ?_).symm
    rw [e] at hbad
    rw [(readI_num n).1] at hbad
    have : behL (numI n) ≠ [] := by
      by_cases hn : n < 0
      · rw [numI_neg hn]
        exact TL.numL_ne _
      · rw [numI_pos (by omega), behL_no fun r e => numL_45 n.natAbs (by rw [e]; exact List.mem_cons_self)]
        exact TL.numL_ne _
    cases hl : behL (numI n) with
    | nil => exact this hl
    | cons c r => rw [hl] at hbad; cases hbad
  | false =>
    refine rt_no (et_or (a := (behL (TL.tl s)).isEmpty) (et_is (t1 rfl) eE) (fun _ => t2)) hbad ?_
    rw [Bool.or_eq_false_iff, Bool.not_eq_false'] at hbad
    obtain ⟨hne, hal⟩ := hbad
    have hD := allD_iff.mp hal
    have hne2 : behL (TL.tl s) ≠ [] := fun z => by rw [z] at hne; cases hne
    have hl300 : (behL (TL.tl s)).length ≤ 300 := by
      have := beh_mr ht.mr
      exact this.whole (dig_noSep hD)
    have hln : s.length ≤ 301 := by
      rw [TL.len_tl]
      cases hm : isMin (TL.tl s) with
      | true =>
        obtain ⟨r, er⟩ := isMin_iff.mp hm
        rw [er] at hl300 ⊢
        exact Nat.succ_le_succ hl300
      | false =>
        rw [behL_no fun r e => by rw [isMin_iff.mpr ⟨r, e⟩] at hm; cases hm] at hl300
        omega
    have hi : PySem.intText? s = some (readI (TL.tl s)) := by
      unfold readI
      cases hm : isMin (TL.tl s) with
      | true =>
        obtain ⟨r, er⟩ := isMin_iff.mp hm
        rw [if_pos rfl]
        rw [er] at hD hne2 ⊢
        exact PySem.intText_neg (cs := r) er hD hne2 (by omega)
      | false =>
        rw [if_neg Bool.false_ne_true]
        have e := behL_no (l := TL.tl s) fun r e => by rw [isMin_iff.mpr ⟨r, e⟩] at hm; cases hm
        rw [e] at hD hne2 ⊢
        exact PySem.intText_digits hD hne2 (by omega)
    have bn := readI_bt ht hal
    have es : TL.tl (toString (readI (TL.tl s)) : String) = numI (readI (TL.tl s)) := tl_strI _
    have iw : ∀ {sl : List Sl}, sl[0]? = some (.d (.str s)) → Ev K (tCB rIntS (tCons (tVar 0) tNil)) sl (.int (readI (TL.tl s))) := fun h => ev_cb (ea_cons (ev_var h) ea_nil) (rc_intS hi (by omega))
    refine rt_ret (ev_if (b := ((toString (readI (TL.tl s)) : String) : Str) == s) (et_test (ev_op (ev_cb (ea_cons (iw rfl) ea_nil) (rc_str (log_bt bn (by decide)))) (ev_var rfl) (r2_eqS (sh_str fun c hc => ?_) shs))) (fun z => ?_) (fun z => ?_))
    · rw [es] at hc
      unfold numI at hc
      split at hc
      · rcases List.mem_cons.mp hc with rfl | hc
        · decide
        · have := TL.numL_digits _ c hc
          omega
      · have := TL.numL_digits _ c hc
        omega
    · have z := eq_of_beq z
      have e : TL.tl s = numI (readI (TL.tl s)) := by rw [← es, z]
      refine ev_is (iw rfl) ?_
      generalize readI (TL.tl s) = n at e
      rw [e, numIn_some]
    · refine ev_is ev_non ?_
      refine (numIn_none fun n e => ?_).symm
      have h2 := (readI_num n).2
      rw [← e] at h2
      have : ((toString (readI (TL.tl s)) : String) : Str) = s := TL.ext_tl (by rw [es, h2, e])
      rw [beq_iff_eq.mpr this] at z
      cases z
def R_oin (ds : List Dt) (d : Dt) : Prop := ∃ s : Str, ds = [.str s] ∧ TxC s ∧ d = oneInD (TL.tl s)
def txD : Dt → List Nat
  | .str t => TL.tl t
  | _ => []
theorem parts_ev {f : List Nat → Dt} {s y : Str} {z : Nat} (hy : TL.tl y = [z]) (hz : y.cps.all (· < 256) = true) : ((Txt.split s y).map Dt.str).map (fun d => f (txD d)) = (TL.spl [z] 0 [] (TL.tl s)).map f := by
  rw [← split_is hy hz, List.map_map, List.map_map]
  rfl
theorem parts_num (q : Rat) : ∃ ns : List Int, partsF q = ns.map numI ∧ ns.length ≤ 2 := by
  unfold partsF
  split
  · exact ⟨[q.num], rfl, by show 1 ≤ 2; decide⟩
  · exact ⟨[q.num, (q.den : Int)], by rw [List.map_cons, List.map_cons, numI_nat]; rfl, by show 2 ≤ 2; decide⟩
theorem any_nums : ∀ ns : List Int, ((ns.map numI).map numInD).any nonB = false
  | [] => rfl
  | n :: ns => by
    rw [List.map_cons, List.map_cons, List.any_cons, any_nums ns, numIn_some]
    rfl
theorem nums_inj : ∀ {a b : List Int}, a.map numI = b.map numI → a = b
  | [], [], _ => rfl
  | x :: a, y :: b, h => by
    rw [List.map_cons, List.map_cons] at h
    injection h with h1 h2
    rw [numI_inj h1, nums_inj h2]
theorem partsF_map (q : Rat) : partsF q = (if q.den = 1 then [q.num] else [q.num, (q.den : Int)]).map numI := by
  unfold partsF
  split
  · rfl
  · rw [List.map_cons, List.map_cons, numI_nat]
    rfl
theorem sz_pair {n m : Int} (h : Bt 9000 m) : Sz (.tup [.int n, .int m]) := fun t b e => by
  injection e with e
  injection e with e1 e2
  injection e2 with e2 _
  injection e2 with e2
  rw [← e2]
  exact h
theorem h__law_one_in (T : Txt K mg ca fa ka) : Has P w K mg base CX0 3 "_law_one_in" ["_law_word"] (spP K R_oin) := by
  have b47 : ((("/" : Str).length) == 0) = false := by decide +kernel
  have k47 : ("/" : Str).cps.all (· < 256) = true := by decide +kernel
  refine T.d__law_one_in.pure sc__law_one_in (fun ds d h => by obtain ⟨_, rfl, _⟩ := h; rfl) (fun f cdv A outer s H E hr => (pss_cons (ps_setLc (i := 1) (own := [("_law_part", 2)]) (g := gName 2) (tt := tYes) rfl sc__law_one_in.nd rfl rfl (by rfl) (lstK (K := K) rfl (pe_m1 PySem.F.slot_str_split PySem.F.type_str_split tsplit (pv 0) pe_str)) (blkOk_by (own := [("_law_part", 2)]) (N := ["_law_word", "_law_parts", "_law_part", "_law_found"]) (sc := defScope s__law_one_in) (by decide +kernel)) (fun _ _ _ _ _ => pg_name (i := 2) sc__law_one_in.nd rfl (Or.inl rfl)) (fun _ _ _ _ _ => pts_nil) (fun _ _ _ _ _ => (pe_h (h__law_number_in T) hr (by decide) pass0 (pa_cons (pv 2) pa_nil)))) (pss_cons (ps_if (pt_cmpR (inK (K := K) rfl hr) pe_non (pv 1) (by rfl)) (pss_one (ps_ret pe_non)) pss_nil) (pss_cons (ps_set (i := 3) sc__law_one_in.nd rfl (Or.inl rfl) (pe_tup (pa_cons (pe_ix (ixK (K := K) rfl) (pe_op (catK (K := K) rfl) (pv 1) (pe_lst (pa_cons pe_int pa_nil))) pe_int (fun _ _ => rfl)) (pa_cons (pe_ix (ixK (K := K) rfl) (pe_op (catK (K := K) rfl) (pv 1) (pe_lst (pa_cons pe_int pa_nil))) pe_int (fun _ _ => rfl)) pa_nil)))) (pss_cons (ps_if (PW.pt (pw_or (pt_cmpR op_gt (pe_callB (lenK (K := K) rfl) (by rfl) T.m_len (by decide +kernel) (pa_cons (pv 1) pa_nil)) pe_int (nomark _)) (pw_or (PW.pt (pw_and (pt_cmpR (eqK (K := K) rfl hr.units) (pe_callB (lenK (K := K) rfl) (by rfl) T.m_len (by decide +kernel) (pa_cons (pv 1) pa_nil)) pe_int (nomark _)) (pw_and1 (pt_cmpR (eqK (K := K) rfl hr.units) (pe_ix (ixK (K := K) rfl) (pv 3) pe_int (fun _ _ => rfl)) pe_int (nomark _))))) (pw_or1 (pt_not (pt_val (pe_h (h__law_good T) hr (by decide) pass0 (pa_cons (pv 3) pa_nil)))))))) (pss_one (ps_ret pe_non)) pss_nil) (pss_one (ps_ret (pv 3)))))))) ?_
  rintro ds d ⟨s, rfl, ht, rfl⟩
  have es := split_is (s := s) sl47 k47
  have ln := split_ln (s := s) sl47 k47
  have hl := ht.len
  have ej : TL.joinL [47] (TL.spl [47] 0 [] (TL.tl s)) = TL.tl s := by rw [join_spl, List.nil_append]
  obtain ⟨L, hL⟩ : ∃ L, L = TL.spl [47] 0 [] (TL.tl s) := ⟨_, rfl⟩
  have hfr : ∀ q, TL.tl s = fracL q → L = partsF q := fun q e => by rw [hL, e, spl_frac]
  refine rt_seq (nt_asg (x := .lst (L.map numInD)) (ev_is (ev_lc (fun d => numInD (txD d)) (ev_m1 (ev_var rfl) ev_str (m1_split b47 ht.ln)) (by rw [List.length_map]; omega) (fun d hd => ?_)) ?_)) ?_
  · obtain ⟨t, htm, rfl⟩ := List.mem_map.mp hd
    exact ev_call (ea_cons (ev_var rfl) ea_nil) (by exact ⟨t, rfl, part_ok sl47 k47 ht htm, rfl⟩)
  · rw [hL]
    exact congrArg Dt.lst (parts_ev sl47 k47)
  refine rt_cond (et_test (ev_op ev_non (ev_var rfl) (r2_noneNums L))) (fun z => rt_is (rt_ret ev_non) ?_) (fun z => ?_)
  · refine (oneIn_none fun q e => ?_).symm
    obtain ⟨ns, en, _⟩ := parts_num q
    rw [hfr q e, en, any_nums] at z
    cases z
  obtain ⟨ns, e1, e2⟩ := nums_all z
  have hbt : ∀ n ∈ ns, Bt 9000 n := fun n hn => by
    have hm : numI n ∈ (Txt.split s "/").map TL.tl := by rw [es, ← hL, e1]; exact List.mem_map.mpr ⟨n, hn, rfl⟩
    obtain ⟨t, htm, et⟩ := List.mem_map.mp hm
    have := (part_ok sl47 k47 ht htm).mr
    rw [et] at this
    exact (numI_bt (this.whole (numI_noSep _))).mono (by decide)
  have hfr2 : ∀ q, TL.tl s = fracL q → ns = if q.den = 1 then [q.num] else [q.num, (q.den : Int)] := fun q e => nums_inj (by rw [← e1, hfr q e, partsF_map])
  have etl : TL.tl s = TL.joinL [47] (ns.map numI) := by rw [← e1, hL, ej]
  rw [e2]
  clear z e2
  match ns, e1, hbt, hfr2, etl with
  | [], e1, _, _, _ => exact absurd e1 (by rw [hL]; exact spl_ne1 47 _ _)
  | [n], _, _, _, etl =>
    obtain ⟨ef, el⟩ := int_frac n
    refine rt_seq (nt_asg (ev_tup (ea_cons (ev_op (ev_op (ev_var rfl) (ev_lst (ea_cons ev_int ea_nil)) (r2_cat (by show 2 ≤ _; decide))) ev_int (by exact r2_ixL rfl)) (ea_cons (ev_op (ev_op (ev_var rfl) (ev_lst (ea_cons ev_int ea_nil)) (r2_cat (by show 2 ≤ _; decide))) ev_int (by exact r2_ixL rfl)) ea_nil)))) ?_
    refine rt_no (et_or (a := false) (b := false) (et_is (et_test (ev_op (ev_cb (ea_cons (ev_var rfl) ea_nil) rc_lenL) ev_int r2_gt)) (by rfl)) (fun _ => et_is (et_or (a := false) (b := false) (et_is (et_and (a := false) (b := false) (et_is (et_test (ev_op (ev_cb (ea_cons (ev_var rfl) ea_nil) rc_lenL) ev_int r2_eqI)) (by rfl)) (fun z => by cases z)) rfl) (fun _ => et_is (et_not (et_B (ev_call (ea_cons (ev_var rfl) ea_nil) (by exact ⟨.tup [.int n, .int 1], rfl, sz_pair (by show Int.natAbs 1 < _; exact Nat.one_lt_two_pow (by decide)), rfl⟩)))) (by rw [← ef, isFr_fq]; rfl))) rfl)) rfl ?_
    refine rt_is (rt_ret (ev_var rfl)) ?_
    rw [etl, show TL.joinL [47] (([n] : List Int).map numI) = numI n from rfl, ← el, oneIn_some, ef]
  | [n, m], _, hbt, hfr2, etl =>
    refine rt_seq (nt_asg (ev_tup (ea_cons (ev_op (ev_op (ev_var rfl) (ev_lst (ea_cons ev_int ea_nil)) (r2_cat (by show 3 ≤ _; decide))) ev_int (by exact r2_ixL rfl)) (ea_cons (ev_op (ev_op (ev_var rfl) (ev_lst (ea_cons ev_int ea_nil)) (r2_cat (by show 3 ≤ _; decide))) ev_int (by exact r2_ixL rfl)) ea_nil)))) ?_
    refine rt_cond (b := (true && m == 1 || !isFr (.tup [.int n, .int m]))) (et_is (et_or (a := false) (et_is (et_test (ev_op (ev_cb (ea_cons (ev_var rfl) ea_nil) rc_lenL) ev_int r2_gt)) (by rfl)) (fun _ => et_or (et_and (a := true) (et_is (et_test (ev_op (ev_cb (ea_cons (ev_var rfl) ea_nil) rc_lenL) ev_int r2_eqI)) (by rfl)) (fun _ => et_test (ev_op (ev_op (ev_var rfl) ev_int (by exact r2_ixT rfl)) ev_int r2_eqI))) (fun _ => et_not (et_B (ev_call (ea_cons (ev_var rfl) ea_nil) (by exact ⟨.tup [.int n, .int m], rfl, sz_pair (hbt m (by simp)), rfl⟩)))))) rfl) (fun z => rt_is (rt_ret ev_non) ?_) (fun z => rt_is (rt_ret (ev_var rfl)) ?_)
    · refine (oneIn_none fun q e => ?_).symm
      have hq := hfr2 q e
      by_cases h1 : q.den = 1
      · rw [if_pos h1] at hq
        cases hq
      · rw [if_neg h1] at hq
        injection hq with x1 hq
        injection hq with x2 _
        rw [x1, x2, show Dt.tup [.int q.num, .int (q.den : Int)] = fq q from rfl, isFr_fq] at z
        have : ¬ (q.den : Int) = 1 := fun y => h1 (by exact_mod_cast y)
        simp [this] at z
    · have z : isFr (.tup [.int n, .int m]) = true ∧ ¬ m = 1 := by
        simp at z
        exact ⟨z.2, z.1⟩
      obtain ⟨q, q1, q2⟩ := isFr_tup z.1
      have h1 : q.den ≠ 1 := fun y => z.2 (by rw [← q2, y]; rfl)
      rw [etl, show TL.joinL [47] (([n, m] : List Int).map numI) = numI n ++ 47 :: numI m from rfl, ← q1, ← q2, numI_nat, ← fracL_den h1, oneIn_some]
      rfl
  | a :: b :: c :: r, _, _, hfr2, _ =>
    have hlen : (a :: b :: c :: r).length ≤ 80002 := by
      have : L.length = (a :: b :: c :: r).length := by rw [‹L = _›, List.length_map]
      rw [← this, hL, ← es, List.length_map]
      omega
    have hcat : ((a :: b :: c :: r).map Dt.int).length + [Dt.int 1].length ≤ 100000 := by
      rw [List.length_map]
      show _ + 1 ≤ _
      omega
    have at0 : atI ((a :: b :: c :: r).map Dt.int ++ [Dt.int 1]) 0 = some (.int a) := atI_k (k := 0) _ (by simp)
    have at1 : atI ((a :: b :: c :: r).map Dt.int ++ [Dt.int 1]) 1 = some (.int b) := atI_k (k := 1) _ (by simp)
    refine rt_seq (nt_asg (ev_tup (ea_cons (ev_op (ev_op (ev_var rfl) (ev_lst (ea_cons ev_int ea_nil)) (r2_cat hcat)) ev_int (by exact r2_ixL at0)) (ea_cons (ev_op (ev_op (ev_var rfl) (ev_lst (ea_cons ev_int ea_nil)) (r2_cat hcat)) ev_int (by exact r2_ixL at1)) ea_nil)))) ?_
    refine rt_yes (et_or (a := true) (b := true) (et_is (et_test (ev_op (ev_cb (ea_cons (ev_var rfl) ea_nil) rc_lenL) ev_int r2_gt)) (decide_eq_true (by simp [List.length_map]; omega))) (fun z => by cases z)) rfl ?_
    refine rt_is (rt_ret ev_non) (oneIn_none fun q e => ?_).symm
    have hq := congrArg List.length (hfr2 q e)
    split at hq <;> simp at hq
def R_smi (ds : List Dt) (d : Dt) : Prop := ∃ s : Str, ds = [.str s] ∧ TxC s ∧ d = someInD (TL.tl s)
/-- one word's parts: two fractions, or not -/
theorem word_or {l : List Nat} : (∃ p, l = hapL p ∧ (TL.spl [64] 0 [] l).map oneInD = [fq p.1, fq p.2]) ∨ ((∀ p, l ≠ hapL p) ∧ ((!((((TL.spl [64] 0 [] l).map oneInD).length : Nat) : Int) == 2) || ((TL.spl [64] 0 [] l).map oneInD).any nonB) = true) := by
  by_cases h : ∃ p, l = hapL p
  · obtain ⟨p, rfl⟩ := h
    refine .inl ⟨p, rfl, ?_⟩
    rw [spl_hap, List.map_cons, List.map_cons, oneIn_some, oneIn_some]
    rfl
  · refine .inr ⟨fun p e => h ⟨p, e⟩, ?_⟩
    cases hb : ((TL.spl [64] 0 [] l).map oneInD).any nonB with
    | true => rw [Bool.or_true]
    | false =>
      obtain ⟨qs, e1, e2⟩ := ones_all hb
      rw [Bool.or_false, e2, List.length_map, Bool.not_eq_true']
      refine beq_eq_false_iff_ne.mpr fun z => ?_
      match qs, z with
      | [a, b], _ =>
        have ej : TL.joinL [64] (TL.spl [64] 0 [] l) = l := by rw [join_spl, List.nil_append]
        exact h ⟨(a, b), by rw [← ej, e1]; rfl⟩
      | [], z => cases z
      | [_], z => cases z
      | a :: b :: c :: r, z =>
        simp only [List.length_cons] at z
        omega
theorem h__law_some_in (T : Txt K mg ca fa ka) : Has P w K mg base CX0 4 "_law_some_in" ["_law_text"] (spP K R_smi) := by
  have b32 : (((" " : Str).length) == 0) = false := by decide +kernel
  have k32 : (" " : Str).cps.all (· < 256) = true := by decide +kernel
  have b64 : ((("@" : Str).length) == 0) = false := by decide +kernel
  have k64 : ("@" : Str).cps.all (· < 256) = true := by decide +kernel
  refine T.d__law_some_in.pure sc__law_some_in (fun ds d h => by obtain ⟨_, rfl, _⟩ := h; rfl) (fun f cdv A outer s H E hr => (pss_cons (ps_set (i := 1) sc__law_some_in.nd rfl (Or.inl rfl) (pe_lst pa_nil)) (pss_cons (ps_for PassesOwn.never rfl (lstK (K := K) rfl (pe_m1 PySem.F.slot_str_split PySem.F.type_str_split tsplit (pv 0) pe_str)) (pg_name (i := 2) sc__law_some_in.nd rfl (Or.inl rfl)) (pss_cons (ps_setLc (i := 3) (own := [("_law_part", 4)]) (g := gName 4) (tt := tYes) rfl sc__law_some_in.nd rfl rfl (by rfl) (lstK (K := K) rfl (pe_m1 PySem.F.slot_str_split PySem.F.type_str_split tsplit (pv 2) pe_str)) (blkOk_by (own := [("_law_part", 4)]) (N := ["_law_text", "_law_found", "_law_word", "_law_parts", "_law_part"]) (sc := defScope s__law_some_in) (by decide +kernel)) (fun _ _ _ _ _ => pg_name (i := 4) sc__law_some_in.nd rfl (Or.inl rfl)) (fun _ _ _ _ _ => pts_nil) (fun _ _ _ _ _ => (pe_h (h__law_one_in T) hr (by decide) pass0 (pa_cons (pv 4) pa_nil)))) (pss_cons (ps_if (PW.pt (pw_or (pt_cmpR (neK (K := K) rfl hr.units) (pe_callB (lenK (K := K) rfl) (by rfl) T.m_len (by decide +kernel) (pa_cons (pv 3) pa_nil)) pe_int (nomark _)) (pw_or1 (pt_cmpR (inK (K := K) rfl hr) pe_non (pv 3) (by rfl))))) (pss_one (ps_ret pe_non)) pss_nil) (pss_one (ps_expr (bmK (K := K) rfl (pe_bm PySem.F.plainAttrs_list PySem.F.slot_list_append PySem.F.type_list_append mt_append (pv 1) (pa_cons (tupOfK (K := K) rfl (by rfl) T.m_tuple (pv 3)) pa_nil)))))))) (pss_one (ps_ret (pv 1)))))) ?_
  rintro ds d ⟨s, rfl, ht, rfl⟩
  have es := split_is (s := s) sl32 k32
  have ln := split_ln (s := s) sl32 k32
  have hl := ht.len
  have wok : ∀ t ∈ Txt.split s " ", TxC t := fun t h => part_ok sl32 k32 ht h
  have hev : ∀ {E} {t : Str} {sl : List Sl}, TxC t → sl[2]? = some (.d (.str t)) → sl.length = 5 → sl[4]? = some .no → Ev K (tLc (iList K (tM1 rSplit (tVar 2) (tC (.str "@")))) (gName 4) tYes (tCall (spP K R_oin) [] E (tCons (tVar 4) tNil)) [4]) sl (.lst ((TL.spl [64] 0 [] (TL.tl t)).map oneInD)) := fun {E t sl} htt h2 h5 h4 => by
    have ln2 := split_ln (s := t) sl64 k64
    have hl2 := htt.len
    refine ev_is (ev_lc (fun d => oneInD (txD d)) (ev_m1 (ev_var h2) ev_str (m1_split b64 htt.ln)) (by rw [List.length_map]; omega) (fun d hd => ?_)) (congrArg Dt.lst (parts_ev sl64 k64))
    obtain ⟨u, hu, rfl⟩ := List.mem_map.mp hd
    exact ev_call (ea_cons (ev_var (by rw [List.getElem?_set_self (by rw [List.length_set, h5]; decide)])) ea_nil) (by exact ⟨u, rfl, part_ok sl64 k64 htt hu, rfl⟩)
  refine rt_mk fun p => ?_
  by_cases hall : ∀ t ∈ Txt.split s " ", ∃ p, TL.tl t = hapL p
  · obtain ⟨ps, h⟩ := all_haps hall
    have hne : ps ≠ [] := fun y => by
      rw [y, List.map_nil, es] at h
      exact spl_ne1 32 _ _ h
    have hj : TL.tl s = lineL ps := by
      unfold lineL
      rw [← h, es, join_spl, List.nil_append]
    have lq : ps.length = (Txt.split s " ").length := by
      have := congrArg List.length h
      rw [List.length_map, List.length_map] at this
      exact this.symm
    refine rk_forG (fun k sl d => (∃ a b, sl = [.d (.str s), .raw (.ref p), a, b, .no]) ∧ d = (ps.take k).map fun p => hapD p.1 p.2) (ev_m1 (ev_var rfl) ev_str (m1_split b32 ht.ln)) (by rw [List.length_map]; omega) ⟨⟨.no, .no, rfl⟩, rfl⟩ ?_ ?_
    · rintro k a sl d hk ⟨⟨x, y, rfl⟩, rfl⟩
      rw [List.getElem?_map] at hk
      obtain ⟨t, htk, rfl⟩ := Option.map_eq_some_iff.mp hk
      have htm := List.mem_of_getElem? htk
      obtain ⟨q, hq⟩ : ∃ q, ps[k]? = some q := ⟨_, List.getElem?_eq_getElem (by rw [lq]; exact (List.getElem?_eq_some_iff.mp htk).1)⟩
      have et : TL.tl t = hapL q := by
        have h1 : ((Txt.split s " ").map TL.tl)[k]? = some (TL.tl t) := by rw [List.getElem?_map, htk]; rfl
        rw [h, List.getElem?_map, hq] at h1
        exact (Option.some.inj h1).symm
      refine il_nt (nt_asg (x := .lst [fq q.1, fq q.2]) (ev_is (hev (wok t htm) rfl rfl rfl) ?_)) ?_
      · rw [et, spl_hap, List.map_cons, List.map_cons, oneIn_some, oneIn_some]
        rfl
      · have hn : R2D K (rInD K) .non (.lst [fq q.1, fq q.2]) (.bl false) := by
          have := r2_noneOnes (K := K) [fracL q.1, fracL q.2]
          rw [List.map_cons, List.map_cons, oneIn_some, oneIn_some] at this
          exact this
        refine il_nt (nt_no (et_is (et_or (a := false) (et_is (et_test (ev_op (ev_cb (ea_cons (ev_var rfl) ea_nil) rc_lenL) ev_int r2_neI)) (by rfl)) (fun _ => et_test (ev_op ev_non (ev_var rfl) hn))) rfl)) (il_app1 rfl (ea_cons (ev_tupOf (ev_var rfl)) ea_nil) (by rw [List.length_map, List.length_take]; omega) ⟨⟨_, _, rfl⟩, ?_⟩)
        rw [List.take_add_one, hq, List.map_append]
        rfl
    · rintro sl d ⟨⟨x, y, rfl⟩, rfl⟩
      refine rk_fz (i := 1) rfl (rt_is (rt_ret (ev_var rfl)) ?_)
      rw [List.length_map, ← lq, List.take_length, hj, someIn_some hne]
      rfl
  · obtain ⟨m, t, h1, h2, h3⟩ := first_out hall
    have hm := (List.getElem?_eq_some_iff.mp h1).1
    obtain ⟨ps, h⟩ := all_haps h3
    have lq : ps.length = m := by
      have := congrArg List.length h
      rw [List.length_map, List.length_map, List.length_take] at this
      omega
    refine rk_forO (m := m) (fun k sl d => (∃ a b, sl = [.d (.str s), .raw (.ref p), a, b, .no]) ∧ (k ≤ m → d = (ps.take k).map fun p => hapD p.1 p.2)) (ev_m1 (ev_var rfl) ev_str (m1_split b32 ht.ln)) (by rw [List.length_map]; omega) (by rw [List.length_map]; exact hm) ⟨⟨.no, .no, rfl⟩, fun _ => rfl⟩ ?_ ?_
    · rintro k a sl d hkm hk ⟨⟨x, y, rfl⟩, hd⟩
      rw [hd (by omega)]
      rw [List.getElem?_map] at hk
      obtain ⟨t, htk, rfl⟩ := Option.map_eq_some_iff.mp hk
      have htm := List.mem_of_getElem? htk
      obtain ⟨q, hq⟩ : ∃ q, ps[k]? = some q := ⟨_, List.getElem?_eq_getElem (by omega)⟩
      have et : TL.tl t = hapL q := by
        have h1 : (((Txt.split s " ").take m).map TL.tl)[k]? = some (TL.tl t) := by rw [List.getElem?_map, List.getElem?_take, if_pos hkm, htk]; rfl
        rw [h, List.getElem?_map, hq] at h1
        exact (Option.some.inj h1).symm
      refine il_nt (nt_asg (x := .lst [fq q.1, fq q.2]) (ev_is (hev (wok t htm) rfl rfl rfl) ?_)) ?_
      · rw [et, spl_hap, List.map_cons, List.map_cons, oneIn_some, oneIn_some]
        rfl
      · have hn : R2D K (rInD K) .non (.lst [fq q.1, fq q.2]) (.bl false) := by
          have := r2_noneOnes (K := K) [fracL q.1, fracL q.2]
          rw [List.map_cons, List.map_cons, oneIn_some, oneIn_some] at this
          exact this
        refine il_nt (nt_no (et_is (et_or (a := false) (et_is (et_test (ev_op (ev_cb (ea_cons (ev_var rfl) ea_nil) rc_lenL) ev_int r2_neI)) (by rfl)) (fun _ => et_test (ev_op ev_non (ev_var rfl) hn))) rfl)) (il_app1 rfl (ea_cons (ev_tupOf (ev_var rfl)) ea_nil) (by rw [List.length_map, List.length_take]; omega) ⟨⟨_, _, rfl⟩, fun _ => ?_⟩)
        rw [List.take_add_one, hq, List.map_append]
        rfl
    · rintro a sl d ha ⟨⟨x, y, rfl⟩, _⟩
      rw [List.getElem?_map, h1] at ha
      cases ha
      have htm := List.mem_of_getElem? h1
      rcases word_or (l := TL.tl t) with ⟨q, e, _⟩ | ⟨_, hb⟩
      · exact absurd ⟨q, e⟩ h2
      · refine rk_fz (i := 1) rfl (rt_seq (nt_asg (hev (wok t htm) rfl rfl rfl)) (rt_yes (et_or (et_test (ev_op (ev_cb (ea_cons (ev_var rfl) ea_nil) rc_lenL) ev_int r2_neI)) (fun _ => et_test (ev_op ev_non (ev_var rfl) (r2_noneOnes _)))) hb (rt_is (rt_ret ev_non) ?_)))
        refine (someIn_none fun qs hne e => h2 ?_).symm
        rw [e, spl_line hne] at es
        have hm2 : TL.tl t ∈ qs.map hapL := by rw [← es]; exact List.mem_map.mpr ⟨t, htm, rfl⟩
        obtain ⟨q, _, hq⟩ := List.mem_map.mp hm2
        exact ⟨q, hq.symm⟩
def wordD (f : List Nat → Dt) : Dt → Dt
  | .str s => f (TL.tl s)
  | _ => .non
def orT : Dt → Dt
  | .non => .str "text"
  | d => d
def TxX (x : Dt) : Prop := ∀ s, x = .str s → TxC s
theorem one_or {x : Dt} (h : TxX x) : (∃ s q, x = .str s ∧ TxC s ∧ TL.tl s = fracL q ∧ wordD oneInD x = fq q) ∨ ((∀ s, x = .str s → TxC s ∧ ∀ q, TL.tl s ≠ fracL q) ∧ wordD oneInD x = .non) := by
  cases x with
  | str s =>
    rcases oneIn_or (TL.tl s) with ⟨q, e1, e2⟩ | ⟨e1, e2⟩
    · exact .inl ⟨s, q, rfl, h s rfl, e1, e2⟩
    · exact .inr ⟨fun t e => by cases e; exact ⟨h s rfl, e1⟩, e2⟩
  | _ => exact .inr ⟨(fun t e => by cases e), rfl⟩
theorem some_or {x : Dt} (h : TxX x) : (∃ s ps, x = .str s ∧ TxC s ∧ ps ≠ [] ∧ TL.tl s = lineL ps ∧ wordD someInD x = hapsD ps) ∨ ((∀ s, x = .str s → TxC s ∧ ∀ ps, ps ≠ [] → TL.tl s ≠ lineL ps) ∧ wordD someInD x = .non) := by
  cases x with
  | str s =>
    rcases someIn_or (TL.tl s) with ⟨q, e0, e1, e2⟩ | ⟨e1, e2⟩
    · exact .inl ⟨s, q, rfl, h s rfl, e0, e1, e2⟩
    · exact .inr ⟨fun t e => by cases e; exact ⟨h s rfl, e1⟩, e2⟩
  | _ => exact .inr ⟨(fun t e => by cases e), rfl⟩
def R_tld (ds : List Dt) (d : Dt) : Prop := ∃ (j : Int) (x : Dt), ds = [.int j, x] ∧ TxX x ∧ ((j = 0 ∧ d = orT (wordD oneInD x)) ∨ (j = 1 ∧ d = orT (wordD someInD x)))
theorem h__law_told (T : Txt K mg ca fa ka) : Has P w K mg base CX0 8 "_law_told" ["_law_way", "_law_text"] (spP K R_tld) := by
  refine T.d__law_told.pure sc__law_told (fun ds d h => by obtain ⟨_, _, rfl, _⟩ := h; rfl) (fun f cdv A outer s H E hr => (pss_one (tryT (K := K) rfl (ps_try_as (i := 2) (Wout := fun _ _ _ _ => False) rfl rfl sc__law_told.nd rfl rfl ⟨rfl, by decide, Or.inl T.c_MotionError⟩ takes0 (fun W pn xe tk po => (pss_cons (ps_if (pt_cmpR (eqK (K := K) rfl hr.units) (pv 0) pe_int (nomark _)) (pss_one (ps_ret (by exact (pe_hS (h_fraction_read T) hr (by decide) (fun σ => passAt tk σ) (pa_cons (pv 1) pa_nil))))) pss_nil) (pss_one (ps_ret (by exact (pe_hS (h_haps_read T) hr (by decide) (fun σ => passAt tk σ) (pa_cons (pv 1) pa_nil))))))) (fun a oe cls d pn hz hf => (pss_one (ps_ret (pe_kind (i := 2) (h__law_kind_of T) (roomS hr) (by decide) List.mem_cons_self hz hf rfl (Or.inl rfl))))))))) ?_
  rintro ds d ⟨j, x, rfl, hx, ⟨rfl, rfl⟩ | ⟨rfl, rfl⟩⟩
  · rcases one_or hx with ⟨s, q, rfl, ht, e, ew⟩ | ⟨hn, ew⟩
    · rw [ew]
      exact rt_try (Kd := Kd ca) (tb_cond (b := true) (et_is (et_test (ev_op (ev_var rfl) ev_int r2_eqI)) rfl) (fun _ => ⟨tb_ret (fun W => ev_callS (ea_cons (ev_var rfl) ea_nil) (by exact ⟨s, q, rfl, ht, e, rfl⟩)), fun z => by cases z⟩) (fun z => by cases z)) (by show 2 < 3; decide) rfl
    · rw [ew]
      exact rt_try (Kd := Kd ca) (tb_cond (b := true) (et_is (et_test (ev_op (ev_var rfl) ev_int r2_eqI)) rfl) (fun _ => ⟨tb_retX (tx_callS (ea_cons (ev_var rfl) ea_nil) (by exact ⟨x, rfl, hn, rfl⟩)), fun z => by cases z⟩) (fun z => by cases z)) (by show 2 < 3; decide) ⟨_, _, rfl, T.r_NoText, ⟨rfl, rfl⟩, rfl⟩
  · rcases some_or hx with ⟨s, ps, rfl, ht, hne, e, ew⟩ | ⟨hn, ew⟩
    · rw [ew]
      exact rt_try (Kd := Kd ca) (tb_cond (b := false) (et_is (et_test (ev_op (ev_var rfl) ev_int r2_eqI)) rfl) (fun z => by cases z) (fun _ => tb_ret (fun W => ev_callSL (ea_cons (ev_var rfl) ea_nil) (by exact ⟨s, ps, rfl, ht, hne, e, rfl⟩)))) (by show 2 < 3; decide) rfl
    · rw [ew]
      exact rt_try (Kd := Kd ca) (tb_cond (b := false) (et_is (et_test (ev_op (ev_var rfl) ev_int r2_eqI)) rfl) (fun z => by cases z) (fun _ => tb_retX (tx_callSL (ea_cons (ev_var rfl) ea_nil) (by exact ⟨x, rfl, hn, rfl⟩)))) (by show 2 < 3; decide) ⟨_, _, rfl, T.r_NoText, ⟨rfl, rfl⟩, rfl⟩
def R_rgt (ds : List Dt) (d : Dt) : Prop := ∃ x : Dt, ds = [x] ∧ TxX x ∧ d = .bl true
theorem h__law_right (T : Txt K mg ca fa ka) : Has P w K mg base CX0 9 "_law_right" ["_law_text"] (spP K R_rgt) := by
  refine T.d__law_right.pure sc__law_right (fun ds d h => by obtain ⟨_, rfl, _⟩ := h; rfl) (fun f cdv A outer s H E hr => (pss_cons (ps_asg (pe_ifExp (pt_val (pe_callB (isiK (K := K) rfl) (by rfl) T.m_isinstance (by decide +kernel) (pa_cons (pv 0) (pa_cons (pe_bltn (v := .ty "str") (by rfl) T.m_str (by decide +kernel) rfl) pa_nil)))) (pe_tup (pa_cons (pe_h (h__law_one_in T) hr (by decide) pass0 (pa_cons (pv 0) pa_nil)) (pa_cons (pe_h (h__law_some_in T) hr (by decide) pass0 (pa_cons (pv 0) pa_nil)) pa_nil))) (pe_tup (pa_cons pe_non (pa_cons pe_non pa_nil)))) (tupK (K := K) (n := 2) rfl rfl (pgs_cons (pg_name (i := 1) sc__law_right.nd rfl (Or.inl rfl)) (pgs_cons (pg_name (i := 2) sc__law_right.nd rfl (Or.inl rfl)) pgs_nil)))) (pss_cons (ps_set (i := 3) sc__law_right.nd rfl (Or.inl rfl) (pe_h (h__law_told T) hr (by decide) pass0 (pa_cons pe_int (pa_cons (pv 0) pa_nil)))) (pss_cons (ps_if (PW.pt (pw_or (pt_cmpR (neK (K := K) rfl hr.units) (pv 3) (pe_ifExp (pt_cmpR op_isN1 (pv 1) pe_non (nomark _)) pe_str (pv 1)) (nomark _)) (pw_or1 (PW.pt (pw_and (pt_cmpR op_notN1 (pv 1) pe_non (nomark _)) (pw_and1 (pt_not (pt_val (pe_h (h__law_good T) hr (by decide) pass0 (pa_cons (pv 3) pa_nil)))))))))) (pss_one (ps_ret pe_bl)) pss_nil) (pss_cons (ps_set (i := 3) sc__law_right.nd rfl (Or.inl rfl) (pe_h (h__law_told T) hr (by decide) pass0 (pa_cons pe_int (pa_cons (pv 0) pa_nil)))) (pss_cons (ps_if (pt_cmpR op_isN1 (pv 2) pe_non (nomark _)) (pss_one (ps_ret (pe_cmpR (eqK (K := K) rfl hr.units) (pv 3) pe_str (nomark _)))) pss_nil) (pss_one (ps_ret (pe_and (pe_callB (isiK (K := K) rfl) (by rfl) T.m_isinstance (by decide +kernel) (pa_cons (pv 3) (pa_cons (pe_bltn (v := .ty "list") (by rfl) T.m_list (by decide +kernel) rfl) pa_nil))) (pe_and (pe_cmpR (eqK (K := K) rfl hr.units) (pv 3) (pv 2) (nomark _)) (pe_one (pe_callB (allK (K := K) rfl rfl) (by rfl) T.m_all (by decide +kernel) (pa_cons (pe_lc (own := [("_law_hap_here", 4)]) (g := gName 4) (tt := tYes) rfl sc__law_right.nd (lstK (K := K) rfl (pv 3)) (blkOk_by (own := [("_law_hap_here", 4)]) (N := ["_law_text", "_law_one", "_law_some", "_law_found", "_law_hap_here"]) (sc := defScope s__law_right) (by decide +kernel)) (fun _ _ _ _ _ => pg_name (i := 4) sc__law_right.nd rfl (Or.inl rfl)) (fun _ _ _ _ _ => pts_nil) (fun _ _ _ _ _ => (pe_callB (isiK (K := K) rfl) (by rfl) T.m_isinstance (by decide +kernel) (pa_cons (pv 4) (pa_cons (pe_bltn (v := .ty "tuple") (by rfl) T.m_tuple (by decide +kernel) rfl) pa_nil))))) pa_nil))))))))))))) ?_
  rintro ds d ⟨x, rfl, hx, rfl⟩
  have st : SeqAt.shaped (.str ("text" : Str)) = true := by decide +kernel
  obtain ⟨b, hb, hiff⟩ := kb_strT x
  refine rt_seq (nt_unp (x := wordD oneInD x) (y := wordD someInD x) (ev_if (et_B (ev_isi (ev_var rfl) hb)) (fun z => ?_) (fun z => ?_))) ?_
  · obtain ⟨s, rfl⟩ := hiff.mp z
    exact ev_tup (ea_cons (ev_call (ea_cons (ev_var rfl) ea_nil) (by exact ⟨s, rfl, hx s rfl, rfl⟩)) (ea_cons (ev_call (ea_cons (ev_var rfl) ea_nil) (by exact ⟨s, rfl, hx s rfl, rfl⟩)) ea_nil))
  · have hw : ∀ f, wordD f x = .non := fun f => by
      cases x with
      | str s => rw [hiff.mpr ⟨s, rfl⟩] at z; cases z
      | _ => rfl
    rw [hw, hw]
    exact ev_tup (ea_cons ev_non (ea_cons ev_non ea_nil))
  refine rt_seq (nt_asg (ev_call (ea_cons ev_int (ea_cons (ev_var rfl) ea_nil)) (by exact ⟨0, x, rfl, hx, .inl ⟨rfl, rfl⟩⟩))) ?_
  refine rt_no (b := false) ?_ rfl ?_
  · rcases one_or hx with ⟨s, q, rfl, ht, e, ew⟩ | ⟨hn, ew⟩
    · have bq : Bq 1000 q := frac_bq (by rw [← e]; exact ht.mr)
      exact et_is (et_or (a := false) (b := false) (et_is (et_test (ev_op (ev_var rfl) (ev_if (b := false) (x := fq q) (et_is (et_test (ev_op (ev_var rfl) ev_non r2_isN)) (by rw [ew]; rfl)) (fun z => by cases z) (fun _ => ev_is (ev_var rfl) ew)) (by rw [ew]; exact r2_neF))) (by simp)) (fun _ => et_is (et_and (a := true) (et_is (et_test (ev_op (ev_var rfl) ev_non r2_notN)) (by rw [ew]; rfl)) (fun _ => et_not (et_B (ev_call (ea_cons (ev_var rfl) ea_nil) (by exact ⟨_, rfl, by rw [ew]; exact sz_fq (bq.2.mono (by decide)), rfl⟩))))) (by rw [ew]; show (true && !isFr (fq q)) = false; rw [isFr_fq]; rfl))) rfl
    · exact et_is (et_or (a := false) (b := false) (et_is (et_test (ev_op (ev_var rfl) (ev_if (b := true) (x := .str "text") (et_is (et_test (ev_op (ev_var rfl) ev_non r2_isN)) (by rw [ew]; rfl)) (fun _ => ev_str) (fun z => by cases z)) (by rw [ew]; exact r2_neS st st))) (by decide +kernel)) (fun _ => et_is (et_and (a := false) (b := false) (et_is (et_test (ev_op (ev_var rfl) ev_non r2_notN)) (by rw [ew]; rfl)) (fun z => by cases z)) rfl)) rfl
  refine rt_seq (nt_asg (ev_call (ea_cons ev_int (ea_cons (ev_var rfl) ea_nil)) (by exact ⟨1, x, rfl, hx, .inr ⟨rfl, rfl⟩⟩))) ?_
  rcases some_or hx with ⟨s, ps, rfl, ht, hne, e, ew⟩ | ⟨hn, ew⟩
  · rw [ew]
    obtain ⟨p, hp1, hp2⟩ := py_hapsD ps
    refine rt_no (et_test (ev_op (ev_var rfl) ev_non r2_isN)) rfl ?_
    have nl : ps.length ≤ 90000 := by
      have es := split_is (s := s) sl32 (by decide +kernel)
      rw [e, spl_line hne] at es
      have ll := congrArg List.length es
      rw [List.length_map, List.length_map] at ll
      have := split_ln (s := s) sl32 (by decide +kernel)
      have := ht.len
      omega
    refine rt_is (rt_ret (ev_andV (ev_isi (b := true) (ev_var rfl) (show kitB "list" "list" = some true from by decide +kernel)) (fun _ => ev_andV (ev_op (ev_var rfl) (ev_var rfl) (r2_eqSelf rfl hp1 hp2)) (fun _ => ev_cb (ea_cons (ev_is (ev_lc (ds := ps.map fun p => hapD p.1 p.2) (fun _ => .bl true) (ev_var rfl) (by rw [List.length_map]; exact nl) (fun d hd => ?_)) (show _ = Dt.lst ((ps.map fun _ => true).map Dt.bl) by rw [List.map_map, List.map_map]; rfl)) ea_nil) rc_all)))) ?_
    · obtain ⟨q, _, rfl⟩ := List.mem_map.mp hd
      exact ev_isi (ev_var rfl) kb_tt
    · rw [Bool.true_and, Bool.true_and, List.all_map]
      refine congrArg Dt.bl (List.all_eq_true.mpr fun _ _ => rfl)
  · rw [ew]
    refine rt_yes (et_test (ev_op (ev_var rfl) ev_non r2_isN)) rfl ?_
    exact rt_is (rt_ret (ev_op (ev_var rfl) ev_str (r2_eqS st st))) (congrArg Dt.bl (by decide +kernel))
theorem h__law_spoilt (T : Txt K mg ca fa ka) : Has P w K mg base CX0 2 "_law_spoilt" ["_law_pot_here", "_law_text"] (spM K (fun ds => ∃ s : Str, ds = [.str s] ∧ TxP s) fun _ d => ∃ t : Str, d = .str t ∧ TxC t) := by
  refine T.d__law_spoilt.draws sc__law_spoilt (fun ds h => by obtain ⟨_, rfl, _⟩ := h; rfl) (fun f cdv A outer s H E hr => (pss_cons (ps_set (i := 2) sc__law_spoilt.nd rfl (Or.inl rfl) (pe_h (h__law_take T) hr (by decide) pass0 (pa_cons (pv 0) (pa_cons (pe_op op_add (pe_callB call_len_str (by rfl) T.m_len (by decide +kernel) (pa_cons (pv 1) pa_nil)) pe_int) pa_nil)))) (pss_cons (ps_set (i := 3) sc__law_spoilt.nd rfl (Or.inl rfl) (pe_ix (ixK (K := K) rfl) (pe_lst (pa_cons pe_str (pa_cons pe_str (pa_cons pe_str (pa_cons pe_str (pa_cons pe_str (pa_cons pe_str (pa_cons pe_str (pa_cons pe_str (pa_cons pe_str (pa_cons pe_str (pa_cons pe_str (pa_cons pe_str pa_nil))))))))))))) (pe_h (h__law_take T) hr (by decide) pass0 (pa_cons (pv 0) (pa_cons pe_int pa_nil))) (fun _ _ => rfl))) (pss_cons (ps_set (i := 4) sc__law_spoilt.nd rfl (Or.inl rfl) (pe_lst (pa_cons (pe_op op_adS (pe_op op_adS (pe_slice sl_str (pv 1) po_none (po_some (pv 2))) (pv 3)) (pe_slice sl_str (pv 1) (po_some (pe_op op_add (pv 2) (pe_h (h__law_take T) hr (by decide) pass0 (pa_cons (pv 0) (pa_cons pe_int pa_nil))))) po_none)) (pa_cons (pe_op op_adS (pe_op op_adS (pv 1) pe_str) (pv 1)) (pa_cons (pe_op op_adS (pv 1) pe_str) (pa_cons (pe_op op_adS pe_str (pv 1)) pa_nil)))))) (pss_one (ps_ret (pe_ix (ixK (K := K) rfl) (pv 4) (pe_ix (ixK (K := K) rfl) (pe_lst (pa_cons pe_int (pa_cons pe_int (pa_cons pe_int (pa_cons pe_int (pa_cons pe_int (pa_cons pe_int (pa_cons pe_int (pa_cons pe_int pa_nil))))))))) (pe_h (h__law_take T) hr (by decide) pass0 (pa_cons (pv 0) (pa_cons pe_int pa_nil))) (fun _ _ => rfl)) (fun _ _ => rfl)))))))) ?_
  rintro ds ⟨s, rfl, hs⟩ p
  have mem : p ∈ [p] := by simp
  have ls := hs.len
  have hlog : ((s.length : Int) + 1).natAbs.log2 < 9000 := (Nat.log2_lt (by omega)).mpr (Nat.lt_of_le_of_lt (show _ ≤ 30001 by omega) (by decide +kernel))
  refine ir_asg (ep_take rfl mem (ep_ev (ev_op (ev_cb (ea_cons (ev_var rfl) ea_nil) (rc_lenS (by omega))) ev_int r2_add) ⟨_, rfl, by omega, hlog, fun m m0 m1 => ?_⟩))
  obtain ⟨k, rfl⟩ := Int.eq_ofNat_of_zero_le m0
  refine ir_asg (ep_op (ep_ev (ev_lst (ea_cons ev_str (ea_cons ev_str (ea_cons ev_str (ea_cons ev_str (ea_cons ev_str (ea_cons ev_str (ea_cons ev_str (ea_cons ev_str (ea_cons ev_str (ea_cons ev_str (ea_cons ev_str (ea_cons ev_str ea_nil))))))))))))) (ep_take rfl mem (ep_ev ev_int ⟨12, rfl, by decide, by decide, fun l l0 l1 => ?_⟩))))
  have hl : ∃ g : Str, atI [Dt.str "", .str "", .str "0", .str "1", .str "-", .str "/", .str "@", .str " ", .str "+", .str "_", .str ".", .str "\t"] l = some (.str g) ∧ (TL.tl g).length ≤ 1 ∧ ∀ c ∈ TL.tl g, c < 0x110000 := by
    obtain ⟨j, rfl⟩ : ∃ j : Nat, l = (j : Int) := ⟨l.toNat, by omega⟩
    match j, l1 with
    | 0, _ => exact ⟨"", rfl, by decide +kernel, by decide +kernel⟩
    | 1, _ => exact ⟨"", rfl, by decide +kernel, by decide +kernel⟩
    | 2, _ => exact ⟨"0", rfl, by decide +kernel, by decide +kernel⟩
    | 3, _ => exact ⟨"1", rfl, by decide +kernel, by decide +kernel⟩
    | 4, _ => exact ⟨"-", rfl, by decide +kernel, by decide +kernel⟩
    | 5, _ => exact ⟨"/", rfl, by decide +kernel, by decide +kernel⟩
    | 6, _ => exact ⟨"@", rfl, by decide +kernel, by decide +kernel⟩
    | 7, _ => exact ⟨" ", rfl, by decide +kernel, by decide +kernel⟩
    | 8, _ => exact ⟨"+", rfl, by decide +kernel, by decide +kernel⟩
    | 9, _ => exact ⟨"_", rfl, by decide +kernel, by decide +kernel⟩
    | 10, _ => exact ⟨".", rfl, by decide +kernel, by decide +kernel⟩
    | 11, _ => exact ⟨"\t", rfl, by decide +kernel, by decide +kernel⟩
    | j + 12, h => exact absurd h (by omega)
  obtain ⟨g, hg, lg, og⟩ := hl
  refine ⟨.str g, r2_ixL hg, ?_⟩
  have l1 : (" " : Str).length = 1 := by decide +kernel
  have lg' : g.length ≤ 1 := by rw [TL.len_tl]; exact lg
  have lcut : ∀ n : Nat, (cutS s none (some ((n : Nat) : Int))).length ≤ 30000 := fun n => by
    rw [TL.len_tl, cut_to, List.length_take]
    rw [TL.len_tl] at ls
    omega
  have lcut2 : ∀ n : Nat, (cutS s (some ((n : Nat) : Int)) none).length ≤ 30000 := fun n => by
    rw [TL.len_tl, cut_from, List.length_drop]
    rw [TL.len_tl] at ls
    omega
  have lap : ∀ a b : Str, (a ++ b).length = a.length + b.length := fun a b => by rw [TL.len_tl, TL.len_tl, TL.len_tl, TL.tl_append, List.length_append]
  have c0 := lcut k
  refine ir_asg (ep_lst (epa_cons (ep_op (ep_ev (ev_op (ev_slSto (ev_var rfl) (ev_var rfl) (by omega)) (ev_var rfl) (r2_adS (by omega))) (ep_slSfrom (ev_var rfl) (by omega) (ep_op (ep_ev (ev_var rfl) (ep_take rfl mem (ep_ev ev_int ⟨2, rfl, by decide, by decide, fun n n0 n1 => ?_⟩))))))))) 
  obtain ⟨j, rfl⟩ := Int.eq_ofNat_of_zero_le n0
  refine ⟨_, r2_add, _, rfl, ?_⟩
  have ce : ((k : Nat) : Int) + ((j : Nat) : Int) = ((k + j : Nat) : Int) := by omega
  rw [ce]
  have c1 := lcut2 (k + j)
  refine ⟨_, r2_adS (by rw [lap]; omega), epa_ev (ea_cons (ev_op (ev_op (ev_var rfl) ev_str (r2_adS (by omega))) (ev_var rfl) (r2_adS (by rw [lap]; omega))) (ea_cons (ev_op (ev_var rfl) ev_str (r2_adS (by omega))) (ea_cons (ev_op ev_str (ev_var rfl) (r2_adS (by omega))) ea_nil))) ⟨by show 4 ≤ _; decide, ?_⟩⟩
  refine ir_ret (ep_op (ep_ev (ev_var rfl) (ep_op (ep_ev (ev_lst (ea_cons ev_int (ea_cons ev_int (ea_cons ev_int (ea_cons ev_int (ea_cons ev_int (ea_cons ev_int (ea_cons ev_int (ea_cons ev_int ea_nil))))))))) (ep_take rfl mem (ep_ev ev_int ⟨8, rfl, by decide, by decide, fun o o0 o1 => ?_⟩))))))
  have ho : ∃ b : Int, atI [Dt.int 0, .int 0, .int 0, .int 0, .int 0, .int 1, .int 2, .int 3] o = some (.int b) ∧ (b = 0 ∨ b = 1 ∨ b = 2 ∨ b = 3) := by
    obtain ⟨j, rfl⟩ : ∃ j : Nat, o = (j : Int) := ⟨o.toNat, by omega⟩
    match j, o1 with
    | 0, _ => exact ⟨0, rfl, by decide⟩
    | 1, _ => exact ⟨0, rfl, by decide⟩
    | 2, _ => exact ⟨0, rfl, by decide⟩
    | 3, _ => exact ⟨0, rfl, by decide⟩
    | 4, _ => exact ⟨0, rfl, by decide⟩
    | 5, _ => exact ⟨1, rfl, by decide⟩
    | 6, _ => exact ⟨2, rfl, by decide⟩
    | 7, _ => exact ⟨3, rfl, by decide⟩
    | j + 8, h => exact absurd h (by omega)
  obtain ⟨b, hb, hv⟩ := ho
  refine ⟨_, r2_ixL hb, ?_⟩
  rcases hv with rfl | rfl | rfl | rfl
  · exact ⟨_, r2_ixL rfl, _, rfl, tx_spoil hs lg og⟩
  · exact ⟨_, r2_ixL rfl, _, rfl, tx_two hs hs sl32⟩
  · exact ⟨_, r2_ixL rfl, _, rfl, tx_after hs sl32⟩
  · exact ⟨_, r2_ixL rfl, _, rfl, tx_before hs sl32⟩
def R_law (ds : List Dt) (d : Dt) : Prop := ∃ ns : List Int, ds = [.lst (ns.map Dt.int)] ∧ ns.length ≤ 63 ∧ d = .bl true
theorem law_sp {K : PySem.W.Frag} {H : Hp} {a : Addr} {ns : List Int} {E : XK} (hl : ns.length ≤ 63) (hS : SqL K H a (ns.map V.int)) : spP K R_law [.ref a] H (fun v _ => v = .bl true) E :=
  ⟨_, _, H, Ex.refl H, .cons (.lst hS (rps_ints ns)) .nil, ⟨ns, rfl, hl, rfl⟩, fun v G2 H2 _ r => by
    cases r
    rfl⟩
theorem h_law (T : Txt K mg ca fa ka) {f : Addr} {fd : FuncData} (F : Fun K "law" "law" s_law f fd) : FnOk P w K mg base CX0 10 f fd ["_law_script"] (spP K R_law) := by
  refine fn_pure F sc_law (fun ds d h => by obtain ⟨x, rfl, _⟩ := h; rfl) (fun f cdv A outer s H E hr => (pss_cons (ps_for PassesOwn.never rfl (lstK (K := K) rfl (pe_lst (pa_cons pe_str (pa_cons pe_str (pa_cons pe_str (pa_cons pe_str (pa_cons pe_str (pa_cons pe_str (pa_cons pe_str (pa_cons pe_str (pa_cons pe_str (pa_cons pe_str (pa_cons pe_str (pa_cons pe_str (pa_cons pe_str pa_nil))))))))))))))) (pg_name (i := 1) sc_law.nd rfl (Or.inl rfl)) (pss_one (ps_if (pt_not (pt_val (pe_h (h__law_right T) hr (by decide) pass0 (pa_cons (pv 1) pa_nil)))) (pss_one (ps_ret pe_bl)) pss_nil))) (pss_cons (ps_for PassesOwn.never rfl (pi_range1 rfl T.m_range (pa_cons (pe_callB (cr_max rfl) (by rfl) T.m_max (by decide +kernel) (pa_cons pe_int (pa_cons (pe_callB (cr_min rfl) (by rfl) T.m_min (by decide +kernel) (pa_cons (pe_callB (lenK (K := K) rfl) (by rfl) T.m_len (by decide +kernel) (pa_cons (pv 0) pa_nil)) (pa_cons pe_int pa_nil))) pa_nil))) pa_nil)) (pg_name (i := 2) sc_law.nd rfl (Or.inl rfl)) (pss_cons (ps_set (i := 3) sc_law.nd rfl (Or.inr rfl) (pe_h (h__law_pot T) hr (by decide) pass0 (pa_cons (pe_h (h__law_cell_at T) hr (by decide) pass0 (pa_cons (pv 0) (pa_cons (pv 2) pa_nil))) pa_nil))) (pss_cons (ps_set (i := 4) sc_law.nd rfl (Or.inl rfl) (pe_h (h__law_frac T) hr (by decide) pass0 (pa_cons (pv 3) pa_nil))) (pss_cons (ps_set (i := 5) sc_law.nd rfl (Or.inr rfl) (pe_h (h__law_haps T) hr (by decide) pass0 (pa_cons (pv 3) (pa_cons pe_int pa_nil)))) (pss_cons (ps_set (i := 6) sc_law.nd rfl (Or.inl rfl) (pe_op (catK (K := K) rfl) (pv 5) (pe_slice (slLK (K := K) rfl) (pv 5) po_none (po_some pe_int)))) (pss_cons (ps_if (PW.pt (pw_or (pt_cmpR (neK (K := K) rfl hr.units) (pe_h (h_fraction_text T) hr (by decide) pass0 (pa_cons (pv 4) pa_nil)) (pe_h (h__law_plain T) hr (by decide) pass0 (pa_cons (pv 4) pa_nil)) (nomark _)) (pw_or1 (pt_cmpR (neK (K := K) rfl hr.units) (pe_h (h_haps_text T) hr (by decide) pass0 (pa_cons (pe_callTy (lofK (K := K) rfl) (by rfl) T.m_list (by decide +kernel) (pa_cons (pv 6) pa_nil)) pa_nil)) (pe_h (h__law_line T) hr (by decide) pass0 (pa_cons (pv 6) pa_nil)) (nomark _))))) (pss_one (ps_ret pe_bl)) pss_nil) (pss_cons (ps_if (pt_cmpR (neK (K := K) rfl hr.units) (pe_h (h_haps_text T) hr (by decide) pass0 (pa_cons (pe_callTy (lofK (K := K) rfl) (by rfl) T.m_list (by decide +kernel) (pa_cons (pv 5) pa_nil)) pa_nil)) (pe_h (h__law_line T) hr (by decide) pass0 (pa_cons (pv 5) pa_nil)) (nomark _)) (pss_one (ps_ret pe_bl)) pss_nil) (pss_cons (ps_if (PW.pt (pw_or (pt_cmpR (neK (K := K) rfl hr.units) (pe_h (h__law_told T) hr (by decide) pass0 (pa_cons pe_int (pa_cons (pe_h (h__law_plain T) hr (by decide) pass0 (pa_cons (pv 4) pa_nil)) pa_nil))) (pv 4) (nomark _)) (pw_or1 (pt_cmpR (neK (K := K) rfl hr.units) (pe_h (h_haps_read T) hr (by decide) passL (pa_cons (pe_h (h__law_line T) hr (by decide) pass0 (pa_cons (pv 5) pa_nil)) pa_nil)) (pv 5) (nomark _))))) (pss_one (ps_ret pe_bl)) pss_nil) (pss_cons (ps_expr (bmK (K := K) rfl (pe_bm PySem.F.plainAttrs_list PySem.F.slot_list_append PySem.F.type_list_append mt_append (pe_h (h_haps_read T) hr (by decide) passL (pa_cons (pe_h (h__law_line T) hr (by decide) pass0 (pa_cons (pv 5) pa_nil)) pa_nil)) (pa_cons pe_int pa_nil)))) (pss_cons (ps_set (i := 7) sc_law.nd rfl (Or.inl rfl) (pe_op (catK (K := K) rfl) (pe_lst (pa_cons (pe_h (h__law_plain T) hr (by decide) pass0 (pa_cons (pv 4) pa_nil)) (pa_cons (pe_h (h__law_line T) hr (by decide) pass0 (pa_cons (pv 5) pa_nil)) pa_nil))) (pe_lc (own := [("_law_turn", 8)]) (g := gName 8) (tt := tYes) rfl sc_law.nd (pi_range1 rfl T.m_range (pa_cons pe_int pa_nil)) (blkOk_by (own := [("_law_turn", 8)]) (N := ["_law_script", "_law_text", "_law_number", "_law_pot_here", "_law_one", "_law_haps_here", "_law_twice", "_law_some", "_law_turn"]) (sc := defScope s_law) (by decide +kernel)) (fun _ _ _ _ _ => pg_name (i := 8) sc_law.nd rfl (Or.inl rfl)) (fun _ _ _ _ _ => pts_nil) (fun _ _ _ _ _ => (pe_h (h__law_spoilt T) hr (by decide) pass0 (pa_cons (pv 3) (pa_cons (pe_h (h__law_line T) hr (by decide) pass0 (pa_cons (pv 5) pa_nil)) pa_nil))))))) (pss_cons (ps_set (i := 7) sc_law.nd rfl (Or.inl rfl) (pe_op (catK (K := K) rfl) (pv 7) (pe_lst (pa_cons (pe_h (h__law_spoilt T) hr (by decide) pass0 (pa_cons (pv 3) (pa_cons (pe_h (h__law_plain T) hr (by decide) pass0 (pa_cons (pv 4) pa_nil)) pa_nil))) (pa_cons (pe_ix (ixK (K := K) rfl) (pe_lst (pa_cons pe_non (pa_cons pe_int (pa_cons (pe_lst (pa_cons pe_str pa_nil)) (pa_cons pe_bl (pa_cons (pe_tup (pa_cons pe_int (pa_cons pe_int pa_nil))) (pa_cons pe_dct pa_nil))))))) (pe_h (h__law_take T) hr (by decide) pass0 (pa_cons (pv 3) (pa_cons pe_int pa_nil))) (fun _ _ => rfl)) pa_nil))))) (pss_one (ps_if (pt_not (pt_val (pe_callB (allK (K := K) rfl rfl) (by rfl) T.m_all (by decide +kernel) (pa_cons (pe_lc (own := [("_law_text", 1)]) (g := gName 1) (tt := tYes) rfl sc_law.nd (lstK (K := K) rfl (pv 7)) (blkOk_by (own := [("_law_text", 1)]) (N := ["_law_script", "_law_text", "_law_number", "_law_pot_here", "_law_one", "_law_haps_here", "_law_twice", "_law_some", "_law_turn"]) (sc := defScope s_law) (by decide +kernel)) (fun _ _ _ _ _ => pg_name (i := 1) sc_law.nd rfl (Or.inl rfl)) (fun _ _ _ _ _ => pts_nil) (fun _ _ _ _ _ => (pe_h (h__law_right T) hr (by decide) pass0 (pa_cons (pv 1) pa_nil)))) pa_nil)))) (pss_one (ps_ret pe_bl)) pss_nil))))))))))))) (pss_one (ps_ret pe_bl))))) ?_
  rintro ds d ⟨ns, rfl, hns, rfl⟩

  have lit : ∀ d ∈ [Dt.str "", .str "0", .str "-0", .str "0/1", .str "1/2", .str "2/4", .str "-3/2", .str "3/-2", .str "00", .str "0@0", .str "1/2@-1/2", .str "0@0 0@0", .str "0\x400\x400"], TxX d := by
    intro d hd s e
    subst e
    simp only [List.mem_cons, List.not_mem_nil, or_false] at hd
    rcases hd with z | z | z | z | z | z | z | z | z | z | z | z | z <;> (injection z with z; subst z; exact tx_lit (by decide +kernel) (by decide +kernel))
  refine rt_seq (nt_for1 (ds := [Dt.str "", .str "0", .str "-0", .str "0/1", .str "1/2", .str "2/4", .str "-3/2", .str "3/-2", .str "00", .str "0@0", .str "1/2@-1/2", .str "0@0 0@0", .str "0\x400\x400"]) (by walk_at "ev") TxX lit (fun d hd => by walk_at "wk") (fun d hd => nt_no (et_is (b := false) (et_not (et_B (ev_call (ea_cons (ev_var rfl) ea_nil) (by exact ⟨d, rfl, hd, rfl⟩)))) rfl))) ?_
  clear lit
  refine rt_seq (nt_cellsX (sl0 := .d (.lst (ns.map Dt.int)) :: List.replicate 8 .no) hns (by decide) (by walk_at "wk") rfl fun i => ?_) (rt_ret ev_bl)
  refine ip_pot (by walk_at "ea") (by exact ⟨_, rfl⟩) fun p => ?_
  have mem : p ∈ [p] := by simp
  refine ip_asg (ep_callM rfl mem (epa_nil ⟨rfl, ?_⟩))
  rintro _ ⟨q, rfl, bq⟩
  refine ip_asg (ep_callM rfl mem (epa_ev (by walk_at "ea") ⟨by exact ⟨20, rfl, by decide, by decide⟩, ?_⟩))
  rintro d hd
  obtain ⟨ts, rfl, nd, n1, n20, hb⟩ := hd 20 rfl
  have hb90 : ∀ p ∈ ts, Bq 90 p.1 ∧ Bq 90 p.2 := fun p hp => ⟨(hb p hp).1, (hb p hp).2.1.mono (by decide)⟩
  have hb400 : ∀ p ∈ ts, Bq 400 p.1 ∧ Bq 400 p.2 := fun p hp => ⟨(hb90 p hp).1.mono (by decide), (hb90 p hp).2.mono (by decide)⟩
  obtain ⟨us, hus⟩ : ∃ us, us = ts ++ ts.take 1 := ⟨_, rfl⟩
  have lus : us.length ≤ 40 := by
    rw [hus, List.length_append, List.length_take]
    omega
  have hbu : ∀ p ∈ us, Bq 400 p.1 ∧ Bq 400 p.2 := fun p hp => by
    rw [hus] at hp
    rcases List.mem_append.mp hp with hp | hp
    · exact hb400 p hp
    · exact hb400 p (List.mem_of_mem_take hp)
  have hne : ts ≠ [] := fun z => by
    rw [z] at n1
    exact absurd n1 (by decide)
  have pf : TxP (mkS (fracL q)) := txp_frac bq
  have pl : TxP (mkS (lineL ts)) := txp_line hb90 (by omega)
  have shf : SeqAt.shaped (.str (mkS (fracL q))) = true := sh_str pf.ok
  have shl : ∀ ps, SeqAt.shaped (.str (mkS (lineL ps))) = true := fun ps => sh_str fun c hc => by
    rw [tl_mkS] at hc
    exact lineL_ok ps c hc
  have eF : R_ft [fq q] (.str (mkS (fracL q))) := ⟨q, rfl, bq.mono (by decide), rfl⟩
  have eP : R_pln [fq q] (.str (mkS (fracL q))) := ⟨q, rfl, bq.mono (by decide), rfl⟩
  have eL : R_lin [hapsD ts] (.str (mkS (lineL ts))) := ⟨ts, rfl, hb400, by omega, rfl⟩
  have eLu : R_lin [hapsD us] (.str (mkS (lineL us))) := ⟨us, rfl, hbu, by omega, rfl⟩
  have eH : R_hst [hapsD ts] (.str (mkS (lineL ts))) := ⟨ts, rfl, hb400, by omega, rfl⟩
  have eHu : R_hst [hapsD us] (.str (mkS (lineL us))) := ⟨us, rfl, hbu, by omega, rfl⟩
  have eR : R_hsr [.str (mkS (lineL ts))] (ts.map fun p => hapD p.1 p.2) := ⟨_, ts, rfl, pl.c, hne, tl_mkS _, rfl⟩
  have eT : R_tld [.int 0, .str (mkS (fracL q))] (fq q) := ⟨0, _, rfl, fun s e => by cases e; exact pf.c, .inl ⟨rfl, by
    show _ = orT (oneInD (TL.tl (mkS (fracL q))))
    rw [tl_mkS, oneIn_some]
    rfl⟩⟩
  obtain ⟨pd, hp1, hp2⟩ := py_hapsD ts
  refine ip_nt (nt_asg (x := hapsD us) (ev_is (ev_op (ev_var rfl) (ev_ef (ef_slL (n := 1) (ev_var rfl) ev_int)) (r2_cat ?_)) ?_)) ?_
  · rw [List.length_take, List.length_map]
    omega
  · rw [hus]
    show Dt.lst _ = Dt.lst _
    rw [List.map_append, List.map_take]
  refine ip_chk (b := false) (et_is (et_or (a := false) (b := false) (et_is (et_test (ev_op (ev_call (ea_cons (ev_var rfl) ea_nil) eF) (ev_call (ea_cons (ev_var rfl) ea_nil) eP) (r2_neSelf rfl (show py (.str (mkS (fracL q))) = some (.str (mkS (fracL q))) from rfl) shf))) rfl) (fun _ => et_is (et_test (ev_op (ev_call (ea_cons (ev_cb (ea_cons (ev_var rfl) ea_nil) rc_listL) ea_nil) eHu) (ev_call (ea_cons (ev_var rfl) ea_nil) eLu) (r2_neSelf rfl (show py (.str (mkS (lineL us))) = some (.str (mkS (lineL us))) from rfl) (shl us)))) rfl)) rfl) rfl ?_
  refine ip_chk (b := false) (et_is (et_test (ev_op (ev_call (ea_cons (ev_cb (ea_cons (ev_var rfl) ea_nil) rc_listL) ea_nil) eH) (ev_call (ea_cons (ev_var rfl) ea_nil) eL) (r2_neSelf rfl (show py (.str (mkS (lineL ts))) = some (.str (mkS (lineL ts))) from rfl) (shl ts)))) rfl) rfl ?_
  refine ip_chk (b := false) (et_is (et_or (a := false) (b := false) (et_is (et_test (ev_op (ev_call (ea_cons ev_int (ea_cons (ev_call (ea_cons (ev_var rfl) ea_nil) eP) ea_nil)) eT) (ev_var rfl) r2_neF)) (by simp)) (fun _ => et_is (et_test (ev_op (ev_callF (ea_cons (ev_call (ea_cons (ev_var rfl) ea_nil) eL) ea_nil) eR) (ev_var rfl) (r2_neSelf rfl hp1 hp2))) rfl)) rfl) rfl ?_
  refine ip_nt (nt_bmF (ef_call (ea_cons (ev_call (ea_cons (ev_var rfl) ea_nil) eL) ea_nil) eR) (ea_cons ev_int ea_nil) (bm_append (by rw [List.length_map]; omega))) ?_
  refine ip_asg (ep_op (ep_ev (ev_lst (ea_cons (ev_call (ea_cons (ev_var rfl) ea_nil) eP) (ea_cons (ev_call (ea_cons (ev_var rfl) ea_nil) eL) ea_nil))) (ep_lcR (n := 3) (C := fun d => ∃ t : Str, d = .str t ∧ TxC t) (by walk_at "ea") (by decide) (fun k hk => ep_callM rfl mem (epa_ev (ea_cons (ev_call (ea_cons (ev_var rfl) ea_nil) eL) ea_nil) ⟨by exact ⟨_, rfl, pl⟩, fun x hx => hx⟩)) (fun es hl hE => ⟨_, r2_cat ?_, ?_⟩))))
  · show 2 + es.length ≤ _
    omega
  refine ip_asg (ep_op (ep_ev (ev_var rfl) (ep_lst (epa_cons (ep_callM rfl mem (epa_ev (ea_cons (ev_call (ea_cons (ev_var rfl) ea_nil) eP) ea_nil) ⟨by exact ⟨_, rfl, pf⟩, fun x hx => epa_cons (ep_op (ep_ev (ev_lst (ea_cons ev_non (ea_cons ev_int (ea_cons (ev_lst (ea_cons ev_str ea_nil)) (ea_cons ev_bl (ea_cons (ev_tup (ea_cons ev_int (ea_cons ev_int ea_nil))) (ea_cons ev_dct ea_nil))))))) (ep_take rfl mem (ep_ev ev_int ⟨6, rfl, by decide, by decide, fun l l0 l1 => ?_⟩))))⟩))))))
  have hl2 : ∃ y : Dt, atI [Dt.non, .int 5, .lst [.str "0@0"], .bl true, .tup [.int 0, .int 1], .dct] l = some y ∧ TxX y := by
    obtain ⟨j, rfl⟩ : ∃ j : Nat, l = (j : Int) := ⟨l.toNat, by omega⟩
    match j, l1 with
    | 0, _ => exact ⟨_, rfl, fun s e => by cases e⟩
    | 1, _ => exact ⟨_, rfl, fun s e => by cases e⟩
    | 2, _ => exact ⟨_, rfl, fun s e => by cases e⟩
    | 3, _ => exact ⟨_, rfl, fun s e => by cases e⟩
    | 4, _ => exact ⟨_, rfl, fun s e => by cases e⟩
    | 5, _ => exact ⟨_, rfl, fun s e => by cases e⟩
    | j + 6, h => exact absurd h (by omega)
  obtain ⟨y, hy, ty⟩ := hl2
  refine ⟨_, r2_ixL hy, epa_nil ⟨by show 2 ≤ _; decide, _, r2_cat ?_, ?_⟩⟩
  · rw [List.length_append]
    show 2 + es.length + 2 ≤ _
    omega
  obtain ⟨t, rfl, ht⟩ := hx
  have hall : ∀ d ∈ [Dt.str (mkS (fracL q)), .str (mkS (lineL ts))] ++ es ++ [.str t, y], TxX d := fun d hd => by
    rcases List.mem_append.mp hd with hd | hd
    · rcases List.mem_append.mp hd with hd | hd
      · simp only [List.mem_cons, List.not_mem_nil, or_false] at hd
        rcases hd with rfl | rfl
        · exact fun s e => by cases e; exact pf.c
        · exact fun s e => by cases e; exact pl.c
      · obtain ⟨u, rfl, hu⟩ := hE d hd
        exact fun s e => by cases e; exact hu
    · simp only [List.mem_cons, List.not_mem_nil, or_false] at hd
      rcases hd with rfl | rfl
      · exact fun s e => by cases e; exact ht
      · exact ty
  have hlen : ([Dt.str (mkS (fracL q)), .str (mkS (lineL ts))] ++ es ++ [.str t, y]).length ≤ 90000 := by
    rw [List.length_append, List.length_append]
    show 2 + es.length + 2 ≤ _
    omega
  generalize [Dt.str (mkS (fracL q)), .str (mkS (lineL ts))] ++ es ++ [.str t, y] = fs at *
  refine ip_no1 (et_is (b := false) (et_not (et_B (ev_is (ev_cb (ea_cons (ev_is (ev_lc (fun _ => .bl true) (ev_var rfl) hlen (fun d hd => ev_call (ea_cons (ev_var rfl) ea_nil) (by exact ⟨d, rfl, hall d hd, rfl⟩))) (show _ = Dt.lst ((fs.map fun _ => true).map Dt.bl) by rw [List.map_map]; rfl)) ea_nil) rc_all) (y := .bl true) (by rw [List.all_map]; exact congrArg Dt.bl (List.all_eq_true.mpr fun _ _ => rfl))))) rfl) (by walk_at "wk")
end
/-- the law over what the top has left -/
theorem all_mk {l : PySem.W.OpenLaw} {w : World} {K : PySem.W.Frag} {h : Heap} {mg : Str → Option Value} {fa : Addr} (X : K.In h) (G : h.Ns mainGlobals mg) (hfa : mg "law" = some (.ref fa))
    {f0 : Addr} {od0 an0 : Option Addr} {sl0 : Array (Option Value)} {oc0 kV0 dc0 pm0 cd0 ct0 : Value}
    (a0 : PySem.W.nsIn K mainGlobals "is_whole" = some (some (.ref f0))) (l0 : K.lookup f0 = some ⟨oc0, od0, .func (PySem.W.fnOf "is_whole" "is_whole" (defArgs s_is_whole) (defBody s_is_whole) (defScope s_is_whole) .none kV0 dc0 pm0 an0 cd0 ct0), sl0⟩) (c0 : PySem.W.codeIn K cd0 "is_whole" = true) (k0 : PySem.W.keepIn K (.ref f0) = true)
    {f1 : Addr} {od1 an1 : Option Addr} {sl1 : Array (Option Value)} {oc1 kV1 dc1 pm1 cd1 ct1 : Value}
    (a1 : PySem.W.nsIn K mainGlobals "is_fraction" = some (some (.ref f1))) (l1 : K.lookup f1 = some ⟨oc1, od1, .func (PySem.W.fnOf "is_fraction" "is_fraction" (defArgs s_is_fraction) (defBody s_is_fraction) (defScope s_is_fraction) .none kV1 dc1 pm1 an1 cd1 ct1), sl1⟩) (c1 : PySem.W.codeIn K cd1 "is_fraction" = true) (k1 : PySem.W.keepIn K (.ref f1) = true)
    {f2 : Addr} {od2 an2 : Option Addr} {sl2 : Array (Option Value)} {oc2 kV2 dc2 pm2 cd2 ct2 : Value}
    (a2 : PySem.W.nsIn K mainGlobals "number_text" = some (some (.ref f2))) (l2 : K.lookup f2 = some ⟨oc2, od2, .func (PySem.W.fnOf "number_text" "number_text" (defArgs s_number_text) (defBody s_number_text) (defScope s_number_text) .none kV2 dc2 pm2 an2 cd2 ct2), sl2⟩) (c2 : PySem.W.codeIn K cd2 "number_text" = true) (k2 : PySem.W.keepIn K (.ref f2) = true)
    {f3 : Addr} {od3 an3 : Option Addr} {sl3 : Array (Option Value)} {oc3 kV3 dc3 pm3 cd3 ct3 : Value}
    (a3 : PySem.W.nsIn K mainGlobals "number_read" = some (some (.ref f3))) (l3 : K.lookup f3 = some ⟨oc3, od3, .func (PySem.W.fnOf "number_read" "number_read" (defArgs s_number_read) (defBody s_number_read) (defScope s_number_read) .none kV3 dc3 pm3 an3 cd3 ct3), sl3⟩) (c3 : PySem.W.codeIn K cd3 "number_read" = true) (k3 : PySem.W.keepIn K (.ref f3) = true)
    {f4 : Addr} {od4 an4 : Option Addr} {sl4 : Array (Option Value)} {oc4 kV4 dc4 pm4 cd4 ct4 : Value}
    (a4 : PySem.W.nsIn K mainGlobals "fraction_text" = some (some (.ref f4))) (l4 : K.lookup f4 = some ⟨oc4, od4, .func (PySem.W.fnOf "fraction_text" "fraction_text" (defArgs s_fraction_text) (defBody s_fraction_text) (defScope s_fraction_text) .none kV4 dc4 pm4 an4 cd4 ct4), sl4⟩) (c4 : PySem.W.codeIn K cd4 "fraction_text" = true) (k4 : PySem.W.keepIn K (.ref f4) = true)
    {f5 : Addr} {od5 an5 : Option Addr} {sl5 : Array (Option Value)} {oc5 kV5 dc5 pm5 cd5 ct5 : Value}
    (a5 : PySem.W.nsIn K mainGlobals "haps_text" = some (some (.ref f5))) (l5 : K.lookup f5 = some ⟨oc5, od5, .func (PySem.W.fnOf "haps_text" "haps_text" (defArgs s_haps_text) (defBody s_haps_text) (defScope s_haps_text) .none kV5 dc5 pm5 an5 cd5 ct5), sl5⟩) (c5 : PySem.W.codeIn K cd5 "haps_text" = true) (k5 : PySem.W.keepIn K (.ref f5) = true)
    {f6 : Addr} {od6 an6 : Option Addr} {sl6 : Array (Option Value)} {oc6 kV6 dc6 pm6 cd6 ct6 : Value}
    (a6 : PySem.W.nsIn K mainGlobals "check_text" = some (some (.ref f6))) (l6 : K.lookup f6 = some ⟨oc6, od6, .func (PySem.W.fnOf "check_text" "check_text" (defArgs s_check_text) (defBody s_check_text) (defScope s_check_text) .none kV6 dc6 pm6 an6 cd6 ct6), sl6⟩) (c6 : PySem.W.codeIn K cd6 "check_text" = true) (k6 : PySem.W.keepIn K (.ref f6) = true)
    {f7 : Addr} {od7 an7 : Option Addr} {sl7 : Array (Option Value)} {oc7 kV7 dc7 pm7 cd7 ct7 : Value}
    (a7 : PySem.W.nsIn K mainGlobals "fraction_read" = some (some (.ref f7))) (l7 : K.lookup f7 = some ⟨oc7, od7, .func (PySem.W.fnOf "fraction_read" "fraction_read" (defArgs s_fraction_read) (defBody s_fraction_read) (defScope s_fraction_read) .none kV7 dc7 pm7 an7 cd7 ct7), sl7⟩) (c7 : PySem.W.codeIn K cd7 "fraction_read" = true) (k7 : PySem.W.keepIn K (.ref f7) = true)
    {f8 : Addr} {od8 an8 : Option Addr} {sl8 : Array (Option Value)} {oc8 kV8 dc8 pm8 cd8 ct8 : Value}
    (a8 : PySem.W.nsIn K mainGlobals "hap_read" = some (some (.ref f8))) (l8 : K.lookup f8 = some ⟨oc8, od8, .func (PySem.W.fnOf "hap_read" "hap_read" (defArgs s_hap_read) (defBody s_hap_read) (defScope s_hap_read) .none kV8 dc8 pm8 an8 cd8 ct8), sl8⟩) (c8 : PySem.W.codeIn K cd8 "hap_read" = true) (k8 : PySem.W.keepIn K (.ref f8) = true)
    {f9 : Addr} {od9 an9 : Option Addr} {sl9 : Array (Option Value)} {oc9 kV9 dc9 pm9 cd9 ct9 : Value}
    (a9 : PySem.W.nsIn K mainGlobals "haps_read" = some (some (.ref f9))) (l9 : K.lookup f9 = some ⟨oc9, od9, .func (PySem.W.fnOf "haps_read" "haps_read" (defArgs s_haps_read) (defBody s_haps_read) (defScope s_haps_read) .none kV9 dc9 pm9 an9 cd9 ct9), sl9⟩) (c9 : PySem.W.codeIn K cd9 "haps_read" = true) (k9 : PySem.W.keepIn K (.ref f9) = true)
    {f10 : Addr} {od10 an10 : Option Addr} {sl10 : Array (Option Value)} {oc10 kV10 dc10 pm10 cd10 ct10 : Value}
    (a10 : PySem.W.nsIn K mainGlobals "_law_cell_at" = some (some (.ref f10))) (l10 : K.lookup f10 = some ⟨oc10, od10, .func (PySem.W.fnOf "_law_cell_at" "_law_cell_at" (defArgs s__law_cell_at) (defBody s__law_cell_at) (defScope s__law_cell_at) .none kV10 dc10 pm10 an10 cd10 ct10), sl10⟩) (c10 : PySem.W.codeIn K cd10 "_law_cell_at" = true) (k10 : PySem.W.keepIn K (.ref f10) = true)
    {f11 : Addr} {od11 an11 : Option Addr} {sl11 : Array (Option Value)} {oc11 kV11 dc11 pm11 cd11 ct11 : Value}
    (a11 : PySem.W.nsIn K mainGlobals "_law_pot" = some (some (.ref f11))) (l11 : K.lookup f11 = some ⟨oc11, od11, .func (PySem.W.fnOf "_law_pot" "_law_pot" (defArgs s__law_pot) (defBody s__law_pot) (defScope s__law_pot) .none kV11 dc11 pm11 an11 cd11 ct11), sl11⟩) (c11 : PySem.W.codeIn K cd11 "_law_pot" = true) (k11 : PySem.W.keepIn K (.ref f11) = true)
    {f12 : Addr} {od12 an12 : Option Addr} {sl12 : Array (Option Value)} {oc12 kV12 dc12 pm12 cd12 ct12 : Value}
    (a12 : PySem.W.nsIn K mainGlobals "_law_take" = some (some (.ref f12))) (l12 : K.lookup f12 = some ⟨oc12, od12, .func (PySem.W.fnOf "_law_take" "_law_take" (defArgs s__law_take) (defBody s__law_take) (defScope s__law_take) .none kV12 dc12 pm12 an12 cd12 ct12), sl12⟩) (c12 : PySem.W.codeIn K cd12 "_law_take" = true) (k12 : PySem.W.keepIn K (.ref f12) = true)
    {f13 : Addr} {od13 an13 : Option Addr} {sl13 : Array (Option Value)} {oc13 kV13 dc13 pm13 cd13 ct13 : Value}
    (a13 : PySem.W.nsIn K mainGlobals "_law_low" = some (some (.ref f13))) (l13 : K.lookup f13 = some ⟨oc13, od13, .func (PySem.W.fnOf "_law_low" "_law_low" (defArgs s__law_low) (defBody s__law_low) (defScope s__law_low) .none kV13 dc13 pm13 an13 cd13 ct13), sl13⟩) (c13 : PySem.W.codeIn K cd13 "_law_low" = true) (k13 : PySem.W.keepIn K (.ref f13) = true)
    {f14 : Addr} {od14 an14 : Option Addr} {sl14 : Array (Option Value)} {oc14 kV14 dc14 pm14 cd14 ct14 : Value}
    (a14 : PySem.W.nsIn K mainGlobals "_law_frac" = some (some (.ref f14))) (l14 : K.lookup f14 = some ⟨oc14, od14, .func (PySem.W.fnOf "_law_frac" "_law_frac" (defArgs s__law_frac) (defBody s__law_frac) (defScope s__law_frac) .none kV14 dc14 pm14 an14 cd14 ct14), sl14⟩) (c14 : PySem.W.codeIn K cd14 "_law_frac" = true) (k14 : PySem.W.keepIn K (.ref f14) = true)
    {f15 : Addr} {od15 an15 : Option Addr} {sl15 : Array (Option Value)} {oc15 kV15 dc15 pm15 cd15 ct15 : Value}
    (a15 : PySem.W.nsIn K mainGlobals "_law_hap" = some (some (.ref f15))) (l15 : K.lookup f15 = some ⟨oc15, od15, .func (PySem.W.fnOf "_law_hap" "_law_hap" (defArgs s__law_hap) (defBody s__law_hap) (defScope s__law_hap) .none kV15 dc15 pm15 an15 cd15 ct15), sl15⟩) (c15 : PySem.W.codeIn K cd15 "_law_hap" = true) (k15 : PySem.W.keepIn K (.ref f15) = true)
    {f16 : Addr} {od16 an16 : Option Addr} {sl16 : Array (Option Value)} {oc16 kV16 dc16 pm16 cd16 ct16 : Value}
    (a16 : PySem.W.nsIn K mainGlobals "_law_haps" = some (some (.ref f16))) (l16 : K.lookup f16 = some ⟨oc16, od16, .func (PySem.W.fnOf "_law_haps" "_law_haps" (defArgs s__law_haps) (defBody s__law_haps) (defScope s__law_haps) .none kV16 dc16 pm16 an16 cd16 ct16), sl16⟩) (c16 : PySem.W.codeIn K cd16 "_law_haps" = true) (k16 : PySem.W.keepIn K (.ref f16) = true)
    {f17 : Addr} {od17 an17 : Option Addr} {sl17 : Array (Option Value)} {oc17 kV17 dc17 pm17 cd17 ct17 : Value}
    (a17 : PySem.W.nsIn K mainGlobals "_law_whole" = some (some (.ref f17))) (l17 : K.lookup f17 = some ⟨oc17, od17, .func (PySem.W.fnOf "_law_whole" "_law_whole" (defArgs s__law_whole) (defBody s__law_whole) (defScope s__law_whole) .none kV17 dc17 pm17 an17 cd17 ct17), sl17⟩) (c17 : PySem.W.codeIn K cd17 "_law_whole" = true) (k17 : PySem.W.keepIn K (.ref f17) = true)
    {f18 : Addr} {od18 an18 : Option Addr} {sl18 : Array (Option Value)} {oc18 kV18 dc18 pm18 cd18 ct18 : Value}
    (a18 : PySem.W.nsIn K mainGlobals "_law_good" = some (some (.ref f18))) (l18 : K.lookup f18 = some ⟨oc18, od18, .func (PySem.W.fnOf "_law_good" "_law_good" (defArgs s__law_good) (defBody s__law_good) (defScope s__law_good) .none kV18 dc18 pm18 an18 cd18 ct18), sl18⟩) (c18 : PySem.W.codeIn K cd18 "_law_good" = true) (k18 : PySem.W.keepIn K (.ref f18) = true)
    {f19 : Addr} {od19 an19 : Option Addr} {sl19 : Array (Option Value)} {oc19 kV19 dc19 pm19 cd19 ct19 : Value}
    (a19 : PySem.W.nsIn K mainGlobals "_law_kind_of" = some (some (.ref f19))) (l19 : K.lookup f19 = some ⟨oc19, od19, .func (PySem.W.fnOf "_law_kind_of" "_law_kind_of" (defArgs s__law_kind_of) (defBody s__law_kind_of) (defScope s__law_kind_of) .none kV19 dc19 pm19 an19 cd19 ct19), sl19⟩) (c19 : PySem.W.codeIn K cd19 "_law_kind_of" = true) (k19 : PySem.W.keepIn K (.ref f19) = true)
    {f20 : Addr} {od20 an20 : Option Addr} {sl20 : Array (Option Value)} {oc20 kV20 dc20 pm20 cd20 ct20 : Value}
    (a20 : PySem.W.nsIn K mainGlobals "_law_plain" = some (some (.ref f20))) (l20 : K.lookup f20 = some ⟨oc20, od20, .func (PySem.W.fnOf "_law_plain" "_law_plain" (defArgs s__law_plain) (defBody s__law_plain) (defScope s__law_plain) .none kV20 dc20 pm20 an20 cd20 ct20), sl20⟩) (c20 : PySem.W.codeIn K cd20 "_law_plain" = true) (k20 : PySem.W.keepIn K (.ref f20) = true)
    {f21 : Addr} {od21 an21 : Option Addr} {sl21 : Array (Option Value)} {oc21 kV21 dc21 pm21 cd21 ct21 : Value}
    (a21 : PySem.W.nsIn K mainGlobals "_law_line" = some (some (.ref f21))) (l21 : K.lookup f21 = some ⟨oc21, od21, .func (PySem.W.fnOf "_law_line" "_law_line" (defArgs s__law_line) (defBody s__law_line) (defScope s__law_line) .none kV21 dc21 pm21 an21 cd21 ct21), sl21⟩) (c21 : PySem.W.codeIn K cd21 "_law_line" = true) (k21 : PySem.W.keepIn K (.ref f21) = true)
    {f22 : Addr} {od22 an22 : Option Addr} {sl22 : Array (Option Value)} {oc22 kV22 dc22 pm22 cd22 ct22 : Value}
    (a22 : PySem.W.nsIn K mainGlobals "_law_number_in" = some (some (.ref f22))) (l22 : K.lookup f22 = some ⟨oc22, od22, .func (PySem.W.fnOf "_law_number_in" "_law_number_in" (defArgs s__law_number_in) (defBody s__law_number_in) (defScope s__law_number_in) .none kV22 dc22 pm22 an22 cd22 ct22), sl22⟩) (c22 : PySem.W.codeIn K cd22 "_law_number_in" = true) (k22 : PySem.W.keepIn K (.ref f22) = true)
    {f23 : Addr} {od23 an23 : Option Addr} {sl23 : Array (Option Value)} {oc23 kV23 dc23 pm23 cd23 ct23 : Value}
    (a23 : PySem.W.nsIn K mainGlobals "_law_one_in" = some (some (.ref f23))) (l23 : K.lookup f23 = some ⟨oc23, od23, .func (PySem.W.fnOf "_law_one_in" "_law_one_in" (defArgs s__law_one_in) (defBody s__law_one_in) (defScope s__law_one_in) .none kV23 dc23 pm23 an23 cd23 ct23), sl23⟩) (c23 : PySem.W.codeIn K cd23 "_law_one_in" = true) (k23 : PySem.W.keepIn K (.ref f23) = true)
    {f24 : Addr} {od24 an24 : Option Addr} {sl24 : Array (Option Value)} {oc24 kV24 dc24 pm24 cd24 ct24 : Value}
    (a24 : PySem.W.nsIn K mainGlobals "_law_some_in" = some (some (.ref f24))) (l24 : K.lookup f24 = some ⟨oc24, od24, .func (PySem.W.fnOf "_law_some_in" "_law_some_in" (defArgs s__law_some_in) (defBody s__law_some_in) (defScope s__law_some_in) .none kV24 dc24 pm24 an24 cd24 ct24), sl24⟩) (c24 : PySem.W.codeIn K cd24 "_law_some_in" = true) (k24 : PySem.W.keepIn K (.ref f24) = true)
    {f25 : Addr} {od25 an25 : Option Addr} {sl25 : Array (Option Value)} {oc25 kV25 dc25 pm25 cd25 ct25 : Value}
    (a25 : PySem.W.nsIn K mainGlobals "_law_told" = some (some (.ref f25))) (l25 : K.lookup f25 = some ⟨oc25, od25, .func (PySem.W.fnOf "_law_told" "_law_told" (defArgs s__law_told) (defBody s__law_told) (defScope s__law_told) .none kV25 dc25 pm25 an25 cd25 ct25), sl25⟩) (c25 : PySem.W.codeIn K cd25 "_law_told" = true) (k25 : PySem.W.keepIn K (.ref f25) = true)
    {f26 : Addr} {od26 an26 : Option Addr} {sl26 : Array (Option Value)} {oc26 kV26 dc26 pm26 cd26 ct26 : Value}
    (a26 : PySem.W.nsIn K mainGlobals "_law_right" = some (some (.ref f26))) (l26 : K.lookup f26 = some ⟨oc26, od26, .func (PySem.W.fnOf "_law_right" "_law_right" (defArgs s__law_right) (defBody s__law_right) (defScope s__law_right) .none kV26 dc26 pm26 an26 cd26 ct26), sl26⟩) (c26 : PySem.W.codeIn K cd26 "_law_right" = true) (k26 : PySem.W.keepIn K (.ref f26) = true)
    {f27 : Addr} {od27 an27 : Option Addr} {sl27 : Array (Option Value)} {oc27 kV27 dc27 pm27 cd27 ct27 : Value}
    (a27 : PySem.W.nsIn K mainGlobals "_law_spoilt" = some (some (.ref f27))) (l27 : K.lookup f27 = some ⟨oc27, od27, .func (PySem.W.fnOf "_law_spoilt" "_law_spoilt" (defArgs s__law_spoilt) (defBody s__law_spoilt) (defScope s__law_spoilt) .none kV27 dc27 pm27 an27 cd27 ct27), sl27⟩) (c27 : PySem.W.codeIn K cd27 "_law_spoilt" = true) (k27 : PySem.W.keepIn K (.ref f27) = true)
    {f28 : Addr} {od28 an28 : Option Addr} {sl28 : Array (Option Value)} {oc28 kV28 dc28 pm28 cd28 ct28 : Value}
    (a28 : PySem.W.nsIn K mainGlobals "law" = some (some (.ref f28))) (l28 : K.lookup f28 = some ⟨oc28, od28, .func (PySem.W.fnOf "law" "law" (defArgs s_law) (defBody s_law) (defScope s_law) .none kV28 dc28 pm28 an28 cd28 ct28), sl28⟩) (c28 : PySem.W.codeIn K cd28 "law" = true) (k28 : PySem.W.keepIn K (.ref f28) = true)
    {C0 : Addr} (q_MotionError : PySem.W.nsIn K mainGlobals "MotionError" = some (some (.ref C0)))
    {C1 : Addr} (q_NoFraction : PySem.W.nsIn K mainGlobals "NoFraction" = some (some (.ref C1)))
    {C2 : Addr} (q_NoHap : PySem.W.nsIn K mainGlobals "NoHap" = some (some (.ref C2)))
    {C3 : Addr} (q_NoText : PySem.W.nsIn K mainGlobals "NoText" = some (some (.ref C3)))
    {C4 : Addr} (q_NoSpeed : PySem.W.nsIn K mainGlobals "NoSpeed" = some (some (.ref C4)))
    {C5 : Addr} (q_TooMany : PySem.W.nsIn K mainGlobals "TooMany" = some (some (.ref C5)))
    {C6 : Addr} (q_NotPlain : PySem.W.nsIn K mainGlobals "NotPlain" = some (some (.ref C6)))
    {C7 : Addr} (q_NoStretch : PySem.W.nsIn K mainGlobals "NoStretch" = some (some (.ref C7)))
    {C8 : Addr} (q_NoHaps : PySem.W.nsIn K mainGlobals "NoHaps" = some (some (.ref C8)))
    {C9 : Addr} (q_NoOrder : PySem.W.nsIn K mainGlobals "NoOrder" = some (some (.ref C9)))
    {C10 : Addr} (q_NoStep : PySem.W.nsIn K mainGlobals "NoStep" = some (some (.ref C10)))
    {C11 : Addr} (q_NoNumber : PySem.W.nsIn K mainGlobals "NoNumber" = some (some (.ref C11)))
    {C12 : Addr} (q_NoSeat : PySem.W.nsIn K mainGlobals "NoSeat" = some (some (.ref C12)))
    {C13 : Addr} (q_NoRod : PySem.W.nsIn K mainGlobals "NoRod" = some (some (.ref C13)))
    {C14 : Addr} (q_NoWay : PySem.W.nsIn K mainGlobals "NoWay" = some (some (.ref C14)))
    {C15 : Addr} (q_NoFlash : PySem.W.nsIn K mainGlobals "NoFlash" = some (some (.ref C15)))
    {C16 : Addr} (q_NoName : PySem.W.nsIn K mainGlobals "NoName" = some (some (.ref C16)))
    {C17 : Addr} (q_NoDeed : PySem.W.nsIn K mainGlobals "NoDeed" = some (some (.ref C17)))
    {C18 : Addr} (q_NoRow : PySem.W.nsIn K mainGlobals "NoRow" = some (some (.ref C18)))
    (xk_NoText : PySem.W.keepIn K (.ref C3) = true) (xb_NoText : PySem.W.subIn K (.ref C3) (.type "BaseException") = some true) (xt_NoText : PySem.W.typeIn K (.ref C3) = some (.type "type"))
    (xx_NoText : PySem.W.excIn K C3 [.type "ValueError", .type "Exception", .type "BaseException", .type "object"] "ValueError.__new__" = true)
    (eg_NoText : PySem.W.findIn K (.ref C3) "__getattribute__" = some (some (.builtin "BaseException.__getattribute__")))
    (ek_NoText : PySem.W.findIn K (.ref C3) "__getattr__" = some none)
    (es_NoText : PySem.W.subIn K (.ref C3) (.type "BaseException") = some true)
    (ed_NoText : PySem.W.hasDictIn K C3 = true)
    (ea_NoText : PySem.W.findIn K (.ref C3) "__class__" = some (some (.builtin "object.__class__")))
    (en_NoText : PySem.W.specialIn K (.builtin "object.__class__") "__get__" = some (some (.builtin "getset_descriptor.__get__"))) (et_NoText : PySem.W.takesIn K (.builtin "object.__class__") = some true) (em_NoText : PySem.W.mroIn K C3 (.type "object") = some true)
    (vs_NoText : PySem.W.subIn K (.ref C3) (.type "ValueError") = some true) (rs_NoText : PySem.W.subIn K (.ref C3) (.ref C0) = some true)
    (s_NoText_NoDeed : PySem.W.subIn K (.ref C3) (.ref C17) = some false)
    (s_NoText_NoFlash : PySem.W.subIn K (.ref C3) (.ref C15) = some false)
    (s_NoText_NoFraction : PySem.W.subIn K (.ref C3) (.ref C1) = some false)
    (s_NoText_NoHap : PySem.W.subIn K (.ref C3) (.ref C2) = some false)
    (s_NoText_NoHaps : PySem.W.subIn K (.ref C3) (.ref C8) = some false)
    (s_NoText_NoName : PySem.W.subIn K (.ref C3) (.ref C16) = some false)
    (s_NoText_NoNumber : PySem.W.subIn K (.ref C3) (.ref C11) = some false)
    (s_NoText_NoOrder : PySem.W.subIn K (.ref C3) (.ref C9) = some false)
    (s_NoText_NoRod : PySem.W.subIn K (.ref C3) (.ref C13) = some false)
    (s_NoText_NoRow : PySem.W.subIn K (.ref C3) (.ref C18) = some false)
    (s_NoText_NoSeat : PySem.W.subIn K (.ref C3) (.ref C12) = some false)
    (s_NoText_NoSpeed : PySem.W.subIn K (.ref C3) (.ref C4) = some false)
    (s_NoText_NoStep : PySem.W.subIn K (.ref C3) (.ref C10) = some false)
    (s_NoText_NoStretch : PySem.W.subIn K (.ref C3) (.ref C7) = some false)
    (s_NoText_NoText : PySem.W.subIn K (.ref C3) (.ref C3) = some true)
    (s_NoText_NotPlain : PySem.W.subIn K (.ref C3) (.ref C6) = some false)
    (s_NoText_NoWay : PySem.W.subIn K (.ref C3) (.ref C14) = some false)
    (s_NoText_TooMany : PySem.W.subIn K (.ref C3) (.ref C5) = some false)
    (xm_MotionError : PySem.W.subIn K (.ref C0) (.type "BaseException") = some true)
    (ic_NoDeed : PySem.W.isClsIn K C17 = true) (tc_NoDeed : PySem.W.typeIn K (.ref C17) = some (.type "type"))
    (ic_NoFlash : PySem.W.isClsIn K C15 = true) (tc_NoFlash : PySem.W.typeIn K (.ref C15) = some (.type "type"))
    (ic_NoFraction : PySem.W.isClsIn K C1 = true) (tc_NoFraction : PySem.W.typeIn K (.ref C1) = some (.type "type"))
    (ic_NoHap : PySem.W.isClsIn K C2 = true) (tc_NoHap : PySem.W.typeIn K (.ref C2) = some (.type "type"))
    (ic_NoHaps : PySem.W.isClsIn K C8 = true) (tc_NoHaps : PySem.W.typeIn K (.ref C8) = some (.type "type"))
    (ic_NoName : PySem.W.isClsIn K C16 = true) (tc_NoName : PySem.W.typeIn K (.ref C16) = some (.type "type"))
    (ic_NoNumber : PySem.W.isClsIn K C11 = true) (tc_NoNumber : PySem.W.typeIn K (.ref C11) = some (.type "type"))
    (ic_NoOrder : PySem.W.isClsIn K C9 = true) (tc_NoOrder : PySem.W.typeIn K (.ref C9) = some (.type "type"))
    (ic_NoRod : PySem.W.isClsIn K C13 = true) (tc_NoRod : PySem.W.typeIn K (.ref C13) = some (.type "type"))
    (ic_NoRow : PySem.W.isClsIn K C18 = true) (tc_NoRow : PySem.W.typeIn K (.ref C18) = some (.type "type"))
    (ic_NoSeat : PySem.W.isClsIn K C12 = true) (tc_NoSeat : PySem.W.typeIn K (.ref C12) = some (.type "type"))
    (ic_NoSpeed : PySem.W.isClsIn K C4 = true) (tc_NoSpeed : PySem.W.typeIn K (.ref C4) = some (.type "type"))
    (ic_NoStep : PySem.W.isClsIn K C10 = true) (tc_NoStep : PySem.W.typeIn K (.ref C10) = some (.type "type"))
    (ic_NoStretch : PySem.W.isClsIn K C7 = true) (tc_NoStretch : PySem.W.typeIn K (.ref C7) = some (.type "type"))
    (ic_NoText : PySem.W.isClsIn K C3 = true) (tc_NoText : PySem.W.typeIn K (.ref C3) = some (.type "type"))
    (ic_NotPlain : PySem.W.isClsIn K C6 = true) (tc_NotPlain : PySem.W.typeIn K (.ref C6) = some (.type "type"))
    (ic_NoWay : PySem.W.isClsIn K C14 = true) (tc_NoWay : PySem.W.typeIn K (.ref C14) = some (.type "type"))
    (ic_TooMany : PySem.W.isClsIn K C5 = true) (tc_TooMany : PySem.W.typeIn K (.ref C5) = some (.type "type"))
    (ic_MotionError : PySem.W.isClsIn K C0 = true) (tc_MotionError : PySem.W.typeIn K (.ref C0) = some (.type "type"))
    {t_FIGURES : Tok} (kq_FIGURES : PySem.W.nsIn K mainGlobals "FIGURES" = some (some (.str "0123456789" t_FIGURES)))
    (m_ValueError : PySem.W.nsIn K mainGlobals "ValueError" = some none)
    (m_abs : PySem.W.nsIn K mainGlobals "abs" = some none)
    (m_all : PySem.W.nsIn K mainGlobals "all" = some none)
    (m_bool : PySem.W.nsIn K mainGlobals "bool" = some none)
    (m_divmod : PySem.W.nsIn K mainGlobals "divmod" = some none)
    (m_int : PySem.W.nsIn K mainGlobals "int" = some none)
    (m_isinstance : PySem.W.nsIn K mainGlobals "isinstance" = some none)
    (m_len : PySem.W.nsIn K mainGlobals "len" = some none)
    (m_list : PySem.W.nsIn K mainGlobals "list" = some none)
    (m_max : PySem.W.nsIn K mainGlobals "max" = some none)
    (m_min : PySem.W.nsIn K mainGlobals "min" = some none)
    (m_range : PySem.W.nsIn K mainGlobals "range" = some none)
    (m_str : PySem.W.nsIn K mainGlobals "str" = some none)
    (m_tuple : PySem.W.nsIn K mainGlobals "tuple" = some none)
    (g_gcd : PySem.W.nsIn K mainGlobals "gcd" = some (some (.builtin "math.gcd")))
    : ∃ fd : FuncData, (∀ (s : Shared) (v : Value), BindsTo s fd ⟨[v], []⟩ [("_law_script", v)]) ∧ ∀ base : Heap, K.In base → base.Ns mainGlobals mg → FnOk l.prog w K mg base CX0 10 fa fd ["_law_script"] (spP K R_law) := by
  have F0 := fun_mk (st := s_is_whole) l0 c0 k0
  have b0 := F0.binds (ps := ["thing"]) fun _ _ _ _ _ _ us hl => match us, hl with | [_], _ => rfl
  have F1 := fun_mk (st := s_is_fraction) l1 c1 k1
  have b1 := F1.binds (ps := ["thing"]) fun _ _ _ _ _ _ us hl => match us, hl with | [_], _ => rfl
  have F2 := fun_mk (st := s_number_text) l2 c2 k2
  have b2 := F2.binds (ps := ["number"]) fun _ _ _ _ _ _ us hl => match us, hl with | [_], _ => rfl
  have F3 := fun_mk (st := s_number_read) l3 c3 k3
  have b3 := F3.binds (ps := ["text"]) fun _ _ _ _ _ _ us hl => match us, hl with | [_], _ => rfl
  have F4 := fun_mk (st := s_fraction_text) l4 c4 k4
  have b4 := F4.binds (ps := ["one"]) fun _ _ _ _ _ _ us hl => match us, hl with | [_], _ => rfl
  have F5 := fun_mk (st := s_haps_text) l5 c5 k5
  have b5 := F5.binds (ps := ["haps"]) fun _ _ _ _ _ _ us hl => match us, hl with | [_], _ => rfl
  have F6 := fun_mk (st := s_check_text) l6 c6 k6
  have b6 := F6.binds (ps := ["thing"]) fun _ _ _ _ _ _ us hl => match us, hl with | [_], _ => rfl
  have F7 := fun_mk (st := s_fraction_read) l7 c7 k7
  have b7 := F7.binds (ps := ["text"]) fun _ _ _ _ _ _ us hl => match us, hl with | [_], _ => rfl
  have F8 := fun_mk (st := s_hap_read) l8 c8 k8
  have b8 := F8.binds (ps := ["text"]) fun _ _ _ _ _ _ us hl => match us, hl with | [_], _ => rfl
  have F9 := fun_mk (st := s_haps_read) l9 c9 k9
  have b9 := F9.binds (ps := ["text"]) fun _ _ _ _ _ _ us hl => match us, hl with | [_], _ => rfl
  have F10 := fun_mk (st := s__law_cell_at) l10 c10 k10
  have b10 := F10.binds (ps := ["_law_script", "_law_k"]) fun _ _ _ _ _ _ us hl => match us, hl with | [_, _], _ => rfl
  have F11 := fun_mk (st := s__law_pot) l11 c11 k11
  have b11 := F11.binds (ps := ["_law_cell"]) fun _ _ _ _ _ _ us hl => match us, hl with | [_], _ => rfl
  have F12 := fun_mk (st := s__law_take) l12 c12 k12
  have b12 := F12.binds (ps := ["_law_pot_here", "_law_far"]) fun _ _ _ _ _ _ us hl => match us, hl with | [_, _], _ => rfl
  have F13 := fun_mk (st := s__law_low) l13 c13 k13
  have b13 := F13.binds (ps := ["_law_top", "_law_bottom"]) fun _ _ _ _ _ _ us hl => match us, hl with | [_, _], _ => rfl
  have F14 := fun_mk (st := s__law_frac) l14 c14 k14
  have b14 := F14.binds (ps := ["_law_pot_here"]) fun _ _ _ _ _ _ us hl => match us, hl with | [_], _ => rfl
  have F15 := fun_mk (st := s__law_hap) l15 c15 k15
  have b15 := F15.binds (ps := ["_law_pot_here"]) fun _ _ _ _ _ _ us hl => match us, hl with | [_], _ => rfl
  have F16 := fun_mk (st := s__law_haps) l16 c16 k16
  have b16 := F16.binds (ps := ["_law_pot_here", "_law_most"]) fun _ _ _ _ _ _ us hl => match us, hl with | [_, _], _ => rfl
  have F17 := fun_mk (st := s__law_whole) l17 c17 k17
  have b17 := F17.binds (ps := ["_law_thing"]) fun _ _ _ _ _ _ us hl => match us, hl with | [_], _ => rfl
  have F18 := fun_mk (st := s__law_good) l18 c18 k18
  have b18 := F18.binds (ps := ["_law_thing"]) fun _ _ _ _ _ _ us hl => match us, hl with | [_], _ => rfl
  have F19 := fun_mk (st := s__law_kind_of) l19 c19 k19
  have b19 := F19.binds (ps := ["_law_e"]) fun _ _ _ _ _ _ us hl => match us, hl with | [_], _ => rfl
  have F20 := fun_mk (st := s__law_plain) l20 c20 k20
  have b20 := F20.binds (ps := ["_law_one"]) fun _ _ _ _ _ _ us hl => match us, hl with | [_], _ => rfl
  have F21 := fun_mk (st := s__law_line) l21 c21 k21
  have b21 := F21.binds (ps := ["_law_haps_here"]) fun _ _ _ _ _ _ us hl => match us, hl with | [_], _ => rfl
  have F22 := fun_mk (st := s__law_number_in) l22 c22 k22
  have b22 := F22.binds (ps := ["_law_word"]) fun _ _ _ _ _ _ us hl => match us, hl with | [_], _ => rfl
  have F23 := fun_mk (st := s__law_one_in) l23 c23 k23
  have b23 := F23.binds (ps := ["_law_word"]) fun _ _ _ _ _ _ us hl => match us, hl with | [_], _ => rfl
  have F24 := fun_mk (st := s__law_some_in) l24 c24 k24
  have b24 := F24.binds (ps := ["_law_text"]) fun _ _ _ _ _ _ us hl => match us, hl with | [_], _ => rfl
  have F25 := fun_mk (st := s__law_told) l25 c25 k25
  have b25 := F25.binds (ps := ["_law_way", "_law_text"]) fun _ _ _ _ _ _ us hl => match us, hl with | [_, _], _ => rfl
  have F26 := fun_mk (st := s__law_right) l26 c26 k26
  have b26 := F26.binds (ps := ["_law_text"]) fun _ _ _ _ _ _ us hl => match us, hl with | [_], _ => rfl
  have F27 := fun_mk (st := s__law_spoilt) l27 c27 k27
  have b27 := F27.binds (ps := ["_law_pot_here", "_law_text"]) fun _ _ _ _ _ _ us hl => match us, hl with | [_, _], _ => rfl
  have F28 := fun_mk (st := s_law) l28 c28 k28
  have b28 := F28.binds (ps := ["_law_script"]) fun _ _ _ _ _ _ us hl => match us, hl with | [_], _ => rfl
  have T : Txt K mg (fun n => ([C0, C1, C2, C3, C4, C5, C6, C7, C8, C9, C10, C11, C12, C13, C14, C15, C16, C17, C18] : List Addr).getD n 0) (fun n => ([f0, f1, f2, f3, f4, f5, f6, f7, f8, f9, f10, f11, f12, f13, f14, f15, f16, f17, f18, f19, f20, f21, f22, f23, f24, f25, f26, f27, f28] : List Addr).getD n 0) (fun n => ([0] : List Addr).getD n 0) := {
    v_FIGURES := ⟨_, PySem.W.mg_of X G kq_FIGURES, ⟨_, rfl⟩⟩
    d_is_whole := ⟨_, _, F0, PySem.W.mg_of X G a0, b0⟩
    d_is_fraction := ⟨_, _, F1, PySem.W.mg_of X G a1, b1⟩
    d_number_text := ⟨_, _, F2, PySem.W.mg_of X G a2, b2⟩
    d_number_read := ⟨_, _, F3, PySem.W.mg_of X G a3, b3⟩
    d_fraction_text := ⟨_, _, F4, PySem.W.mg_of X G a4, b4⟩
    d_haps_text := ⟨_, _, F5, PySem.W.mg_of X G a5, b5⟩
    d_check_text := ⟨_, _, F6, PySem.W.mg_of X G a6, b6⟩
    d_fraction_read := ⟨_, _, F7, PySem.W.mg_of X G a7, b7⟩
    d_hap_read := ⟨_, _, F8, PySem.W.mg_of X G a8, b8⟩
    d_haps_read := ⟨_, _, F9, PySem.W.mg_of X G a9, b9⟩
    d__law_cell_at := ⟨_, _, F10, PySem.W.mg_of X G a10, b10⟩
    d__law_pot := ⟨_, _, F11, PySem.W.mg_of X G a11, b11⟩
    d__law_take := ⟨_, _, F12, PySem.W.mg_of X G a12, b12⟩
    d__law_low := ⟨_, _, F13, PySem.W.mg_of X G a13, b13⟩
    d__law_frac := ⟨_, _, F14, PySem.W.mg_of X G a14, b14⟩
    d__law_hap := ⟨_, _, F15, PySem.W.mg_of X G a15, b15⟩
    d__law_haps := ⟨_, _, F16, PySem.W.mg_of X G a16, b16⟩
    d__law_whole := ⟨_, _, F17, PySem.W.mg_of X G a17, b17⟩
    d__law_good := ⟨_, _, F18, PySem.W.mg_of X G a18, b18⟩
    d__law_kind_of := ⟨_, _, F19, PySem.W.mg_of X G a19, b19⟩
    d__law_plain := ⟨_, _, F20, PySem.W.mg_of X G a20, b20⟩
    d__law_line := ⟨_, _, F21, PySem.W.mg_of X G a21, b21⟩
    d__law_number_in := ⟨_, _, F22, PySem.W.mg_of X G a22, b22⟩
    d__law_one_in := ⟨_, _, F23, PySem.W.mg_of X G a23, b23⟩
    d__law_some_in := ⟨_, _, F24, PySem.W.mg_of X G a24, b24⟩
    d__law_told := ⟨_, _, F25, PySem.W.mg_of X G a25, b25⟩
    d__law_right := ⟨_, _, F26, PySem.W.mg_of X G a26, b26⟩
    d__law_spoilt := ⟨_, _, F27, PySem.W.mg_of X G a27, b27⟩
    d_law := ⟨_, _, F28, PySem.W.mg_of X G a28, b28⟩
    m_ValueError := PySem.W.mg_none_of X G m_ValueError
    m_abs := PySem.W.mg_none_of X G m_abs
    m_all := PySem.W.mg_none_of X G m_all
    m_bool := PySem.W.mg_none_of X G m_bool
    m_divmod := PySem.W.mg_none_of X G m_divmod
    m_int := PySem.W.mg_none_of X G m_int
    m_isinstance := PySem.W.mg_none_of X G m_isinstance
    m_len := PySem.W.mg_none_of X G m_len
    m_list := PySem.W.mg_none_of X G m_list
    m_max := PySem.W.mg_none_of X G m_max
    m_min := PySem.W.mg_none_of X G m_min
    m_range := PySem.W.mg_none_of X G m_range
    m_str := PySem.W.mg_none_of X G m_str
    m_tuple := PySem.W.mg_none_of X G m_tuple
    g_gcd := PySem.W.mg_of X G g_gcd
    c_MotionError := PySem.W.mg_of X G q_MotionError
    c_NoFraction := PySem.W.mg_of X G q_NoFraction
    c_NoHap := PySem.W.mg_of X G q_NoHap
    c_NoText := PySem.W.mg_of X G q_NoText
    x_NoText := ⟨PySem.W.mg_of X G q_NoText, xk_NoText, xb_NoText, xt_NoText, xx_NoText⟩
    c_NoSpeed := PySem.W.mg_of X G q_NoSpeed
    c_TooMany := PySem.W.mg_of X G q_TooMany
    c_NotPlain := PySem.W.mg_of X G q_NotPlain
    c_NoStretch := PySem.W.mg_of X G q_NoStretch
    c_NoHaps := PySem.W.mg_of X G q_NoHaps
    c_NoOrder := PySem.W.mg_of X G q_NoOrder
    c_NoStep := PySem.W.mg_of X G q_NoStep
    c_NoNumber := PySem.W.mg_of X G q_NoNumber
    c_NoSeat := PySem.W.mg_of X G q_NoSeat
    c_NoRod := PySem.W.mg_of X G q_NoRod
    c_NoWay := PySem.W.mg_of X G q_NoWay
    c_NoFlash := PySem.W.mg_of X G q_NoFlash
    c_NoName := PySem.W.mg_of X G q_NoName
    c_NoDeed := PySem.W.mg_of X G q_NoDeed
    c_NoRow := PySem.W.mg_of X G q_NoRow
    e_NoText := ⟨eg_NoText, ek_NoText, es_NoText, ed_NoText, ea_NoText, en_NoText, et_NoText, em_NoText⟩
    v_NoText := kit_val vs_NoText
    r_NoText := exm_own xm_MotionError ic_MotionError tc_MotionError rs_NoText
    k_NoText_NoDeed := kit_not ic_NoDeed tc_NoDeed s_NoText_NoDeed s_NoText_NoText
    k_NoText_NoFlash := kit_not ic_NoFlash tc_NoFlash s_NoText_NoFlash s_NoText_NoText
    k_NoText_NoFraction := kit_not ic_NoFraction tc_NoFraction s_NoText_NoFraction s_NoText_NoText
    k_NoText_NoHap := kit_not ic_NoHap tc_NoHap s_NoText_NoHap s_NoText_NoText
    k_NoText_NoHaps := kit_not ic_NoHaps tc_NoHaps s_NoText_NoHaps s_NoText_NoText
    k_NoText_NoName := kit_not ic_NoName tc_NoName s_NoText_NoName s_NoText_NoText
    k_NoText_NoNumber := kit_not ic_NoNumber tc_NoNumber s_NoText_NoNumber s_NoText_NoText
    k_NoText_NoOrder := kit_not ic_NoOrder tc_NoOrder s_NoText_NoOrder s_NoText_NoText
    k_NoText_NoRod := kit_not ic_NoRod tc_NoRod s_NoText_NoRod s_NoText_NoText
    k_NoText_NoRow := kit_not ic_NoRow tc_NoRow s_NoText_NoRow s_NoText_NoText
    k_NoText_NoSeat := kit_not ic_NoSeat tc_NoSeat s_NoText_NoSeat s_NoText_NoText
    k_NoText_NoSpeed := kit_not ic_NoSpeed tc_NoSpeed s_NoText_NoSpeed s_NoText_NoText
    k_NoText_NoStep := kit_not ic_NoStep tc_NoStep s_NoText_NoStep s_NoText_NoText
    k_NoText_NoStretch := kit_not ic_NoStretch tc_NoStretch s_NoText_NoStretch s_NoText_NoText
    k_NoText_NoText := kit_self
    k_NoText_NotPlain := kit_not ic_NotPlain tc_NotPlain s_NoText_NotPlain s_NoText_NoText
    k_NoText_NoWay := kit_not ic_NoWay tc_NoWay s_NoText_NoWay s_NoText_NoText
    k_NoText_TooMany := kit_not ic_TooMany tc_TooMany s_NoText_TooMany s_NoText_NoText
  }
  have e := hfa.symm.trans (PySem.W.mg_of X G a28)
  cases e
  refine ⟨PySem.W.fnOf "law" "law" (defArgs s_law) (defBody s_law) (defScope s_law) .none kV28 dc28 pm28 an28 cd28 ct28, fun s v => .of_eq rfl, fun base _ _ => ?_⟩
  exact h_law T F28
end Z
open PySem PySem.W PyProof.Rows
set_option maxRecDepth 100000 in
set_option maxHeartbeats 0 in
theorem PySem.Challenge.cw_seatclocks_k04_written_and_read_holds : PySem.Challenge.rw_seatclocks_k04_written_and_read.Holds := by
  w_on; o_law; k_head; (case hw => w_witness2)
  k_fill
  refine L2.walk_of (l := PySem.Challenge.rw_seatclocks_k04_written_and_read) (n := 63) (k := 10) (x := "_law_script") (CX := fun _ => L2.CX0) (sp := fun w => Z.spP _ Z.R_law) rfl (by decide) rfl ⟨rfl, by decide, by decide⟩ (fun w h Y => PySem.W.kIn_of Y) ?F (fun _ H a ns hl _ hS => Z.law_sp hl hS) (fun _ _ _ _ _ h => h)
  case F =>
    intro w mg fa h KX G hmg
    refine' Z.all_mk KX G hmg ?a0 ?l0 ?c0 ?k0 ?a1 ?l1 ?c1 ?k1 ?a2 ?l2 ?c2 ?k2 ?a3 ?l3 ?c3 ?k3 ?a4 ?l4 ?c4 ?k4 ?a5 ?l5 ?c5 ?k5 ?a6 ?l6 ?c6 ?k6 ?a7 ?l7 ?c7 ?k7 ?a8 ?l8 ?c8 ?k8 ?a9 ?l9 ?c9 ?k9 ?a10 ?l10 ?c10 ?k10 ?a11 ?l11 ?c11 ?k11 ?a12 ?l12 ?c12 ?k12 ?a13 ?l13 ?c13 ?k13 ?a14 ?l14 ?c14 ?k14 ?a15 ?l15 ?c15 ?k15 ?a16 ?l16 ?c16 ?k16 ?a17 ?l17 ?c17 ?k17 ?a18 ?l18 ?c18 ?k18 ?a19 ?l19 ?c19 ?k19 ?a20 ?l20 ?c20 ?k20 ?a21 ?l21 ?c21 ?k21 ?a22 ?l22 ?c22 ?k22 ?a23 ?l23 ?c23 ?k23 ?a24 ?l24 ?c24 ?k24 ?a25 ?l25 ?c25 ?k25 ?a26 ?l26 ?c26 ?k26 ?a27 ?l27 ?c27 ?k27 ?a28 ?l28 ?c28 ?k28 ?q_MotionError ?q_NoFraction ?q_NoHap ?q_NoText ?q_NoSpeed ?q_TooMany ?q_NotPlain ?q_NoStretch ?q_NoHaps ?q_NoOrder ?q_NoStep ?q_NoNumber ?q_NoSeat ?q_NoRod ?q_NoWay ?q_NoFlash ?q_NoName ?q_NoDeed ?q_NoRow ?xk_NoText ?xb_NoText ?xt_NoText ?xx_NoText ?eg_NoText ?ek_NoText ?es_NoText ?ed_NoText ?ea_NoText ?en_NoText ?et_NoText ?em_NoText ?vs_NoText ?rs_NoText ?s_NoText_NoDeed ?s_NoText_NoFlash ?s_NoText_NoFraction ?s_NoText_NoHap ?s_NoText_NoHaps ?s_NoText_NoName ?s_NoText_NoNumber ?s_NoText_NoOrder ?s_NoText_NoRod ?s_NoText_NoRow ?s_NoText_NoSeat ?s_NoText_NoSpeed ?s_NoText_NoStep ?s_NoText_NoStretch ?s_NoText_NoText ?s_NoText_NotPlain ?s_NoText_NoWay ?s_NoText_TooMany ?xm_MotionError ?ic_NoDeed ?tc_NoDeed ?ic_NoFlash ?tc_NoFlash ?ic_NoFraction ?tc_NoFraction ?ic_NoHap ?tc_NoHap ?ic_NoHaps ?tc_NoHaps ?ic_NoName ?tc_NoName ?ic_NoNumber ?tc_NoNumber ?ic_NoOrder ?tc_NoOrder ?ic_NoRod ?tc_NoRod ?ic_NoRow ?tc_NoRow ?ic_NoSeat ?tc_NoSeat ?ic_NoSpeed ?tc_NoSpeed ?ic_NoStep ?tc_NoStep ?ic_NoStretch ?tc_NoStretch ?ic_NoText ?tc_NoText ?ic_NotPlain ?tc_NotPlain ?ic_NoWay ?tc_NoWay ?ic_TooMany ?tc_TooMany ?ic_MotionError ?tc_MotionError ?kq_FIGURES ?m_ValueError ?m_abs ?m_all ?m_bool ?m_divmod ?m_int ?m_isinstance ?m_len ?m_list ?m_max ?m_min ?m_range ?m_str ?m_tuple ?g_gcd
    (case a0 => k_is)
    (case l0 => k_is)
    (case c0 => k_is)
    (case k0 => k_is)
    (case a1 => k_is)
    (case l1 => k_is)
    (case c1 => k_is)
    (case k1 => k_is)
    (case a2 => k_is)
    (case l2 => k_is)
    (case c2 => k_is)
    (case k2 => k_is)
    (case a3 => k_is)
    (case l3 => k_is)
    (case c3 => k_is)
    (case k3 => k_is)
    (case a4 => k_is)
    (case l4 => k_is)
    (case c4 => k_is)
    (case k4 => k_is)
    (case a5 => k_is)
    (case l5 => k_is)
    (case c5 => k_is)
    (case k5 => k_is)
    (case a6 => k_is)
    (case l6 => k_is)
    (case c6 => k_is)
    (case k6 => k_is)
    (case a7 => k_is)
    (case l7 => k_is)
    (case c7 => k_is)
    (case k7 => k_is)
    (case a8 => k_is)
    (case l8 => k_is)
    (case c8 => k_is)
    (case k8 => k_is)
    (case a9 => k_is)
    (case l9 => k_is)
    (case c9 => k_is)
    (case k9 => k_is)
    (case a10 => k_is)
    (case l10 => k_is)
    (case c10 => k_is)
    (case k10 => k_is)
    (case a11 => k_is)
    (case l11 => k_is)
    (case c11 => k_is)
    (case k11 => k_is)
    (case a12 => k_is)
    (case l12 => k_is)
    (case c12 => k_is)
    (case k12 => k_is)
    (case a13 => k_is)
    (case l13 => k_is)
    (case c13 => k_is)
    (case k13 => k_is)
    (case a14 => k_is)
    (case l14 => k_is)
    (case c14 => k_is)
    (case k14 => k_is)
    (case a15 => k_is)
    (case l15 => k_is)
    (case c15 => k_is)
    (case k15 => k_is)
    (case a16 => k_is)
    (case l16 => k_is)
    (case c16 => k_is)
    (case k16 => k_is)
    (case a17 => k_is)
    (case l17 => k_is)
    (case c17 => k_is)
    (case k17 => k_is)
    (case a18 => k_is)
    (case l18 => k_is)
    (case c18 => k_is)
    (case k18 => k_is)
    (case a19 => k_is)
    (case l19 => k_is)
    (case c19 => k_is)
    (case k19 => k_is)
    (case a20 => k_is)
    (case l20 => k_is)
    (case c20 => k_is)
    (case k20 => k_is)
    (case a21 => k_is)
    (case l21 => k_is)
    (case c21 => k_is)
    (case k21 => k_is)
    (case a22 => k_is)
    (case l22 => k_is)
    (case c22 => k_is)
    (case k22 => k_is)
    (case a23 => k_is)
    (case l23 => k_is)
    (case c23 => k_is)
    (case k23 => k_is)
    (case a24 => k_is)
    (case l24 => k_is)
    (case c24 => k_is)
    (case k24 => k_is)
    (case a25 => k_is)
    (case l25 => k_is)
    (case c25 => k_is)
    (case k25 => k_is)
    (case a26 => k_is)
    (case l26 => k_is)
    (case c26 => k_is)
    (case k26 => k_is)
    (case a27 => k_is)
    (case l27 => k_is)
    (case c27 => k_is)
    (case k27 => k_is)
    (case a28 => k_is)
    (case l28 => k_is)
    (case c28 => k_is)
    (case k28 => k_is)
    (case q_MotionError => k_is)
    (case q_NoFraction => k_is)
    (case q_NoHap => k_is)
    (case q_NoText => k_is)
    (case q_NoSpeed => k_is)
    (case q_TooMany => k_is)
    (case q_NotPlain => k_is)
    (case q_NoStretch => k_is)
    (case q_NoHaps => k_is)
    (case q_NoOrder => k_is)
    (case q_NoStep => k_is)
    (case q_NoNumber => k_is)
    (case q_NoSeat => k_is)
    (case q_NoRod => k_is)
    (case q_NoWay => k_is)
    (case q_NoFlash => k_is)
    (case q_NoName => k_is)
    (case q_NoDeed => k_is)
    (case q_NoRow => k_is)
    (case xk_NoText => k_is)
    (case xb_NoText => k_is)
    (case xt_NoText => k_is)
    (case xx_NoText => k_exc)
    (case eg_NoText => k_is)
    (case ek_NoText => k_is)
    (case es_NoText => k_is)
    (case ed_NoText => k_is)
    (case ea_NoText => k_is)
    (case en_NoText => k_is)
    (case et_NoText => k_is)
    (case em_NoText => k_is)
    (case vs_NoText => k_is)
    (case rs_NoText => k_is)
    (case s_NoText_NoDeed => k_is)
    (case s_NoText_NoFlash => k_is)
    (case s_NoText_NoFraction => k_is)
    (case s_NoText_NoHap => k_is)
    (case s_NoText_NoHaps => k_is)
    (case s_NoText_NoName => k_is)
    (case s_NoText_NoNumber => k_is)
    (case s_NoText_NoOrder => k_is)
    (case s_NoText_NoRod => k_is)
    (case s_NoText_NoRow => k_is)
    (case s_NoText_NoSeat => k_is)
    (case s_NoText_NoSpeed => k_is)
    (case s_NoText_NoStep => k_is)
    (case s_NoText_NoStretch => k_is)
    (case s_NoText_NoText => k_is)
    (case s_NoText_NotPlain => k_is)
    (case s_NoText_NoWay => k_is)
    (case s_NoText_TooMany => k_is)
    (case xm_MotionError => k_is)
    (case ic_NoDeed => k_is)
    (case tc_NoDeed => k_is)
    (case ic_NoFlash => k_is)
    (case tc_NoFlash => k_is)
    (case ic_NoFraction => k_is)
    (case tc_NoFraction => k_is)
    (case ic_NoHap => k_is)
    (case tc_NoHap => k_is)
    (case ic_NoHaps => k_is)
    (case tc_NoHaps => k_is)
    (case ic_NoName => k_is)
    (case tc_NoName => k_is)
    (case ic_NoNumber => k_is)
    (case tc_NoNumber => k_is)
    (case ic_NoOrder => k_is)
    (case tc_NoOrder => k_is)
    (case ic_NoRod => k_is)
    (case tc_NoRod => k_is)
    (case ic_NoRow => k_is)
    (case tc_NoRow => k_is)
    (case ic_NoSeat => k_is)
    (case tc_NoSeat => k_is)
    (case ic_NoSpeed => k_is)
    (case tc_NoSpeed => k_is)
    (case ic_NoStep => k_is)
    (case tc_NoStep => k_is)
    (case ic_NoStretch => k_is)
    (case tc_NoStretch => k_is)
    (case ic_NoText => k_is)
    (case tc_NoText => k_is)
    (case ic_NotPlain => k_is)
    (case tc_NotPlain => k_is)
    (case ic_NoWay => k_is)
    (case tc_NoWay => k_is)
    (case ic_TooMany => k_is)
    (case tc_TooMany => k_is)
    (case ic_MotionError => k_is)
    (case tc_MotionError => k_is)
    (case kq_FIGURES => k_is)
    (case m_ValueError => k_is)
    (case m_abs => k_is)
    (case m_all => k_is)
    (case m_bool => k_is)
    (case m_divmod => k_is)
    (case m_int => k_is)
    (case m_isinstance => k_is)
    (case m_len => k_is)
    (case m_list => k_is)
    (case m_max => k_is)
    (case m_min => k_is)
    (case m_range => k_is)
    (case m_str => k_is)
    (case m_tuple => k_is)
    (case g_gcd => k_is)
