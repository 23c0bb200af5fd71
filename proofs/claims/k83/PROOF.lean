import PyProof.Rows.All
import Wide.All
import OpenK.AllK
import Wide.FinOn
import HandS.ForExc
import HandS.Evl
import HandS.Wide
import HandS.Gcd
import HandS.IsInst
import HandS.Flow
import HandS.Steps
import HandS.HotCalls
import HandS.ExcIs
import KE.DataFind
import HandS.Comp
import HandS.Dict
import HandS.Style
import HandS.WideBits
import HandS.Zip
import HandS.TupSets
import HandS.Deep
import HandS.SetFor
import HandS.Conv
import HandS.Strs
import KE.KMathG
import PyProof.EnumMake
import KE.KeyNested
import Flt.RightSqrt
import HandS.TupAny
import HandS.Text
import KE.KIndexOf
import HandS.MapObj
import HandS.SortInts
import PyProof.TupleOfSeq
import HandS.Star
import KE.GoesRaise
import HandS.Walk
import HandS.SortInts
import KE.DataMinMax
import KE.DataCmp
import HandS.DictTup
import HandS.DictSubView
import HandS.TupMul
import HandS.WordsDict
import HandS.Words
import PyProof.DictCopy
import HandS.More
import HandS.Small
import HandS.CallSlots
import HandS.Iter
import HandS.StrMore
import HandS.NoneIn
import HandS.RaiseFrom
import HandS.SuiteRaise
import HandS.Head3
import HandS.HeadEnd
import HandS.HeadHook3
import KE.KStateDown
import KE.IntTextLaws
import PyProof.Rows.StrPadWhole
import HandS.RaiseMore
import PyProof.ReprRoads
import PyProof.StrLawsRepr
import PyProof.FitsInt
import PySem.Challenge.RW_seatclocks_k83_whole_benches
set_option Elab.async false
set_option linter.all false
set_option maxRecDepth 100000
set_option maxHeartbeats 2000000
namespace Z
open PySem PySem.Spec PyProof.Rows L2
/-! ### what the top leaves, looked at in one run -/
abbrev FrL := List (Addr × Obj)
/-- a list of objects, each laid open ahead of the look -/
def frc {α : Type} : FrL → (FrL → α) → α
  | [], k => k []
  | (a, ⟨c, d, t, s⟩) :: r, k => HandSHeadRun.frNat a fun b => frc r fun q => k ((b, ⟨c, d, t, s⟩) :: q)
theorem frc_eq {α : Type} : ∀ (l : FrL) (k : FrL → α), frc l k = k l
  | [], _ => rfl
  | (a, ⟨c, d, t, s⟩) :: r, k => by
    show HandSHeadRun.frNat a (fun b => frc r fun q => k ((b, ⟨c, d, t, s⟩) :: q)) = _
    rw [HandSHeadRun.frNat_eq, frc_eq r]
abbrev ExF := List (PySem.W.Frag → Bool)
abbrev AlZ : Type := He.AlT × Bool
def lookZ (fa : List He.Fa) (fn : List He.DefD) (ts : List He.Tab) (ex : ExF) (K : PySem.W.Frag) : AlZ := (He.obsT fa fn ts K, ex.all fun f => f K)
def valZ (fn : List He.DefD) (ts : List He.Tab) (w : World) : AlZ := (He.valT fn ts w, true)
structure SaysZ (fa : List He.Fa) (fn : List He.DefD) (ts : List He.Tab) (ex : ExF) (w : World) (K : PySem.W.Frag) : Prop where
  t : He.SaysT fa fn ts w K
  e : (ex.all fun f => f K) = true
def hookZ (as : List Addr) (fa : List He.Fa) (fn : List He.DefD) (ts : List He.Tab) (ex : ExF) : PySem.W.Hook where
  α := AlZ
  obs := fun s => lookZ fa fn ts ex (He.frG s.heap.get? as)
  val := fun w => valZ fn ts w
  says := fun w h => ∃ K : PySem.W.Frag, K.In h ∧ SaysZ fa fn ts ex w K
  of := fun _ _ e => ⟨_, He.frG_in, congrArg (fun z : AlZ => z.1) e, congrArg (fun z : AlZ => z.2) e⟩
  keeps := fun _ _ _ ⟨K, hK, c⟩ k => ⟨K, PySem.W.Frag.In.keeps hK k, c⟩
def obZ (as : List Addr) (fa : List He.Fa) (fn : List He.DefD) (ts : List He.Tab) (ex : ExF) (s : PySem.W.SharedT) : AlZ := frc (He.frG (HandSHeadRun.getT s) as) fun K => lookZ fa fn ts ex K
theorem obZ_eq {as : List Addr} {fa : List He.Fa} {fn : List He.DefD} {ts : List He.Tab} {ex : ExF} (s : PySem.W.SharedT) : obZ as fa fn ts ex s = (hookZ as fa fn ts ex).obs s.abs := by
  have e : HandSHeadRun.getT s = s.abs.heap.get? := funext (HandSHeadRun.getT_eq s)
  unfold obZ
  rw [frc_eq, e]
  rfl
theorem ex_at {ex : ExF} {K : PySem.W.Frag} (h : (ex.all fun f => f K) = true) (i : Nat) {f : PySem.W.Frag → Bool} (e : ex[i]? = some f := by rfl) : f K = true := List.all_eq_true.mp h f (List.mem_of_getElem? e)
theorem fun_D {K : PySem.W.Frag} {x q : Str} {st : Stmt} {f : Addr} {fd : FuncData} (F : FunD K x q (defArgs st) (defBody st) (defScope st) [] [] f fd) : Fun K x q st f fd := by
  obtain ⟨oc, od, dV, kV, doc, pm, an, cdv, ct, osl, e, lk, hc, hd, _⟩ := F.ex
  rcases hd with ⟨_, rfl⟩ | ⟨h, _⟩
  · exact ⟨⟨oc, od, kV, doc, pm, an, cdv, ct, osl, e, lk, hc⟩, F.kp⟩
  · exact absurd rfl h
/-- a written tuple whose object has no dict -/
def tupZ (K : PySem.W.Frag) (a : Addr) (vs : List V) : Bool := match K.lookup a with
  | some ⟨.type c, none, .seq its _, _⟩ => decide (c = "tuple") && (decide (its.size ≤ sizeLine) && He.relAll vs its.toList)
  | _ => false
/-! ### a written dict's keys -/
/-- the looks and the facts, apart, make the run's equation -/
theorem run_two {r : PySem.W.OpenRow} {q : Program} {H : PySem.W.Hook} {ob : PySem.W.SharedT → H.α} {M : Nat} {loose : List Str} {w : World}
    (h1 : (HandSHeadRun.wholeF (fun p => HandSHeadRun.stepQ (HandSHeadRun.denQ HandSHeadRun.tabQ) p w) HandSHeadRun.fenceQ M r.prog).map (fun x => (HandSHeadRun.looksF r.prog x.1.heap x.2.abs, HandSHeadRun.seenQ q loose (importedModules r.prog.main.body) (fun s => PySem.W.xlAt q [] s && PySem.W.recOk r.toRowW.records s) x.2.abs)) = some (true, PySem.W.openGood q loose))
    (h2 : (HandSHeadRun.wholeF (fun p => HandSHeadRun.stepQ (HandSHeadRun.denQ HandSHeadRun.tabQ) p w) HandSHeadRun.fenceQ M r.prog).map (fun x => ob x.2) = some (H.val w)) : HandSHeadRun.RunEqI r q H ob M loose w := by
  unfold HandSHeadRun.RunEqI
  obtain ⟨x, hx, e1⟩ := Option.map_eq_some_iff.mp h1
  obtain ⟨y, hy, e2⟩ := Option.map_eq_some_iff.mp h2
  rw [hx] at hy
  cases hy
  rw [hx]
  injection e1 with e3 e4
  exact congrArg some (Prod.ext e3 (Prod.ext e4 e2))
end Z
namespace Z
open PySem PySem.Spec PyProof.Rows L2 RZ
open Evl (Ex)
def topS (i : Nat) : Stmt := PySem.Challenge.pw_seatclocks_k83_whole_benches.main.body.getD i (.Pass ⟨0, 0, 0, 0⟩)
abbrev s_is_whole : Stmt := topS 24
theorem sc_is_whole : FnScope ["thing"] ["thing"] (defScope s_is_whole) := ⟨rfl, rfl, rfl, by decide +kernel, rfl, by decide +kernel, by decide +kernel⟩
abbrev s_is_fraction : Stmt := topS 25
theorem sc_is_fraction : FnScope ["thing", "top", "bottom"] ["thing"] (defScope s_is_fraction) := ⟨rfl, rfl, rfl, by decide +kernel, rfl, by decide +kernel, by decide +kernel⟩
abbrev s_fraction : Stmt := topS 26
theorem sc_fraction : FnScope ["top", "bottom", "divisor"] ["top", "bottom"] (defScope s_fraction) := ⟨rfl, rfl, rfl, by decide +kernel, rfl, by decide +kernel, by decide +kernel⟩
abbrev s_plus : Stmt := topS 27
theorem sc_plus : FnScope ["one", "other"] ["one", "other"] (defScope s_plus) := ⟨rfl, rfl, rfl, by decide +kernel, rfl, by decide +kernel, by decide +kernel⟩
abbrev s_less : Stmt := topS 28
theorem sc_less : FnScope ["one", "other"] ["one", "other"] (defScope s_less) := ⟨rfl, rfl, rfl, by decide +kernel, rfl, by decide +kernel, by decide +kernel⟩
abbrev s_times : Stmt := topS 29
theorem sc_times : FnScope ["one", "other"] ["one", "other"] (defScope s_times) := ⟨rfl, rfl, rfl, by decide +kernel, rfl, by decide +kernel, by decide +kernel⟩
abbrev s_by : Stmt := topS 30
theorem sc_by : FnScope ["one", "other"] ["one", "other"] (defScope s_by) := ⟨rfl, rfl, rfl, by decide +kernel, rfl, by decide +kernel, by decide +kernel⟩
abbrev s_is_less : Stmt := topS 31
theorem sc_is_less : FnScope ["one", "other"] ["one", "other"] (defScope s_is_less) := ⟨rfl, rfl, rfl, by decide +kernel, rfl, by decide +kernel, by decide +kernel⟩
abbrev s_rising : Stmt := topS 32
theorem sc_rising : FnScope ["ones", "bottom", "one", "tops", "top"] ["ones"] (defScope s_rising) := ⟨rfl, rfl, rfl, by decide +kernel, rfl, by decide +kernel, by decide +kernel⟩
abbrev s_root_of : Stmt := topS 33
theorem sc_root_of : FnScope ["one", "top", "bottom"] ["one"] (defScope s_root_of) := ⟨rfl, rfl, rfl, by decide +kernel, rfl, by decide +kernel, by decide +kernel⟩
abbrev s_is_hap : Stmt := topS 35
theorem sc_is_hap : FnScope ["thing"] ["thing"] (defScope s_is_hap) := ⟨rfl, rfl, rfl, by decide +kernel, rfl, by decide +kernel, by decide +kernel⟩
abbrev s_are_haps : Stmt := topS 36
theorem sc_are_haps : FnScope ["thing", "most", "hap"] ["thing", "most"] (defScope s_are_haps) := ⟨rfl, rfl, rfl, by decide +kernel, rfl, by decide +kernel, by decide +kernel⟩
abbrev s_check_haps : Stmt := topS 37
theorem sc_check_haps : FnScope ["thing", "most"] ["thing", "most"] (defScope s_check_haps) := ⟨rfl, rfl, rfl, by decide +kernel, rfl, by decide +kernel, by decide +kernel⟩
abbrev s_is_speed : Stmt := topS 39
theorem sc_is_speed : FnScope ["thing"] ["thing"] (defScope s_is_speed) := ⟨rfl, rfl, rfl, by decide +kernel, rfl, by decide +kernel, by decide +kernel⟩
abbrev s_check_speed : Stmt := topS 40
theorem sc_check_speed : FnScope ["thing"] ["thing"] (defScope s_check_speed) := ⟨rfl, rfl, rfl, by decide +kernel, rfl, by decide +kernel, by decide +kernel⟩
abbrev s_together : Stmt := topS 41
theorem sc_together : FnScope ["one", "other"] ["one", "other"] (defScope s_together) := ⟨rfl, rfl, rfl, by decide +kernel, rfl, by decide +kernel, by decide +kernel⟩
abbrev s_beat_or_none : Stmt := topS 42
theorem sc_beat_or_none : FnScope ["speed"] ["speed"] (defScope s_beat_or_none) := ⟨rfl, rfl, rfl, by decide +kernel, rfl, by decide +kernel, by decide +kernel⟩
abbrev s_is_plain : Stmt := topS 43
theorem sc_is_plain : FnScope ["speed"] ["speed"] (defScope s_is_plain) := ⟨rfl, rfl, rfl, by decide +kernel, rfl, by decide +kernel, by decide +kernel⟩
abbrev s_check_plain : Stmt := topS 44
theorem sc_check_plain : FnScope ["speed"] ["speed"] (defScope s_check_plain) := ⟨rfl, rfl, rfl, by decide +kernel, rfl, by decide +kernel, by decide +kernel⟩
abbrev s_beat_of : Stmt := topS 45
theorem sc_beat_of : FnScope ["speed"] ["speed"] (defScope s_beat_of) := ⟨rfl, rfl, rfl, by decide +kernel, rfl, by decide +kernel, by decide +kernel⟩
abbrev s_lapse_and_gap : Stmt := topS 48
theorem sc_lapse_and_gap : FnScope ["one", "other"] ["one", "other"] (defScope s_lapse_and_gap) := ⟨rfl, rfl, rfl, by decide +kernel, rfl, by decide +kernel, by decide +kernel⟩
abbrev s_kind_of : Stmt := topS 49
theorem sc_kind_of : FnScope ["one", "other", "lapse", "gap", "either_way"] ["one", "other"] (defScope s_kind_of) := ⟨rfl, rfl, rfl, by decide +kernel, rfl, by decide +kernel, by decide +kernel⟩
abbrev s_standing : Stmt := topS 50
theorem sc_standing : FnScope ["haps", "speed", "stand", "time", "place", "at", "other", "one"] ["haps", "speed"] (defScope s_standing) := ⟨rfl, rfl, rfl, by decide +kernel, rfl, by decide +kernel, by decide +kernel⟩
abbrev s_order_at : Stmt := topS 51
theorem sc_order_at : FnScope ["haps", "speed"] ["haps", "speed"] (defScope s_order_at) := ⟨rfl, rfl, rfl, by decide +kernel, rfl, by decide +kernel, by decide +kernel⟩
abbrev s_is_seat : Stmt := topS 53
theorem sc_is_seat : FnScope ["thing", "speed", "hap"] ["thing"] (defScope s_is_seat) := ⟨rfl, rfl, rfl, by decide +kernel, rfl, by decide +kernel, by decide +kernel⟩
abbrev s_check_seat : Stmt := topS 54
theorem sc_check_seat : FnScope ["thing"] ["thing"] (defScope s_check_seat) := ⟨rfl, rfl, rfl, by decide +kernel, rfl, by decide +kernel, by decide +kernel⟩
abbrev s_check_hap : Stmt := topS 55
theorem sc_check_hap : FnScope ["thing"] ["thing"] (defScope s_check_hap) := ⟨rfl, rfl, rfl, by decide +kernel, rfl, by decide +kernel, by decide +kernel⟩
abbrev s_seen_from : Stmt := topS 56
theorem sc_seen_from : FnScope ["speed", "lapse", "gap", "beat", "time", "place"] ["speed", "lapse", "gap"] (defScope s_seen_from) := ⟨rfl, rfl, rfl, by decide +kernel, rfl, by decide +kernel, by decide +kernel⟩
abbrev s_told_from : Stmt := topS 57
theorem sc_told_from : FnScope ["seat", "hap", "speed", "own"] ["seat", "hap"] (defScope s_told_from) := ⟨rfl, rfl, rfl, by decide +kernel, rfl, by decide +kernel, by decide +kernel⟩
abbrev s_is_name : Stmt := topS 62
theorem sc_is_name : FnScope ["thing", "letter"] ["thing"] (defScope s_is_name) := ⟨rfl, rfl, rfl, by decide +kernel, rfl, by decide +kernel, by decide +kernel⟩
abbrev s_Bench___init__ : Stmt := inClass (topS 63) 0
theorem sc_Bench___init__ : FnScope ["self"] ["self"] (defScope s_Bench___init__) := ⟨rfl, rfl, rfl, by decide +kernel, rfl, by decide +kernel, by decide +kernel⟩
abbrev s_Bench__do : Stmt := inClass (topS 63) 12
theorem sc_Bench__do : FnScope ["self", "haps", "speed"] ["self", "haps", "speed"] (defScope s_Bench__do) := ⟨rfl, rfl, rfl, by decide +kernel, rfl, by decide +kernel, by decide +kernel⟩
abbrev s_Bench_put : Stmt := inClass (topS 63) 1
theorem sc_Bench_put : FnScope ["self", "name", "hap", "haps"] ["self", "name", "hap"] (defScope s_Bench_put) := ⟨rfl, rfl, rfl, by decide +kernel, rfl, by decide +kernel, by decide +kernel⟩
abbrev s_Bench__hap_of : Stmt := inClass (topS 63) 11
theorem sc_Bench__hap_of : FnScope ["self", "name"] ["self", "name"] (defScope s_Bench__hap_of) := ⟨rfl, rfl, rfl, by decide +kernel, rfl, by decide +kernel, by decide +kernel⟩
abbrev s_Bench_drop : Stmt := inClass (topS 63) 2
theorem sc_Bench_drop : FnScope ["self", "name", "haps"] ["self", "name"] (defScope s_Bench_drop) := ⟨rfl, rfl, rfl, by decide +kernel, rfl, by decide +kernel, by decide +kernel⟩
abbrev s_Bench_turn : Stmt := inClass (topS 63) 3
theorem sc_Bench_turn : FnScope ["self", "speed"] ["self", "speed"] (defScope s_Bench_turn) := ⟨rfl, rfl, rfl, by decide +kernel, rfl, by decide +kernel, by decide +kernel⟩
abbrev s_Bench_push : Stmt := inClass (topS 63) 4
theorem sc_Bench_push : FnScope ["self", "speed"] ["self", "speed"] (defScope s_Bench_push) := ⟨rfl, rfl, rfl, by decide +kernel, rfl, by decide +kernel, by decide +kernel⟩
abbrev s_Bench_undo : Stmt := inClass (topS 63) 5
theorem sc_Bench_undo : FnScope ["self"] ["self"] (defScope s_Bench_undo) := ⟨rfl, rfl, rfl, by decide +kernel, rfl, by decide +kernel, by decide +kernel⟩
abbrev s_Bench_names : Stmt := inClass (topS 63) 6
theorem sc_Bench_names : FnScope ["self"] ["self"] (defScope s_Bench_names) := ⟨rfl, rfl, rfl, by decide +kernel, rfl, by decide +kernel, by decide +kernel⟩
abbrev s_Bench_speed : Stmt := inClass (topS 63) 7
theorem sc_Bench_speed : FnScope ["self"] ["self"] (defScope s_Bench_speed) := ⟨rfl, rfl, rfl, by decide +kernel, rfl, by decide +kernel, by decide +kernel⟩
abbrev s_Bench_tell : Stmt := inClass (topS 63) 8
theorem sc_Bench_tell : FnScope ["self", "name"] ["self", "name"] (defScope s_Bench_tell) := ⟨rfl, rfl, rfl, by decide +kernel, rfl, by decide +kernel, by decide +kernel⟩
abbrev s_Bench_order : Stmt := inClass (topS 63) 9
theorem sc_Bench_order : FnScope ["self", "names", "haps", "name", "at", "numbers"] ["self"] (defScope s_Bench_order) := ⟨rfl, rfl, rfl, by decide +kernel, rfl, by decide +kernel, by decide +kernel⟩
abbrev s_Bench_kind : Stmt := inClass (topS 63) 10
theorem sc_Bench_kind : FnScope ["self", "one", "other"] ["self", "one", "other"] (defScope s_Bench_kind) := ⟨rfl, rfl, rfl, by decide +kernel, rfl, by decide +kernel, by decide +kernel⟩
abbrev s__law_cell_at : Stmt := topS 65
theorem sc__law_cell_at : FnScope ["_law_script", "_law_k"] ["_law_script", "_law_k"] (defScope s__law_cell_at) := ⟨rfl, rfl, rfl, by decide +kernel, rfl, by decide +kernel, by decide +kernel⟩
abbrev s__law_pot : Stmt := topS 66
theorem sc__law_pot : FnScope ["_law_cell", "_law_number", "_law_j", "_law_more"] ["_law_cell"] (defScope s__law_pot) := ⟨rfl, rfl, rfl, by decide +kernel, rfl, by decide +kernel, by decide +kernel⟩
abbrev s__law_take : Stmt := topS 67
theorem sc__law_take : FnScope ["_law_pot_here", "_law_far", "_law_found"] ["_law_pot_here", "_law_far"] (defScope s__law_take) := ⟨rfl, rfl, rfl, by decide +kernel, rfl, by decide +kernel, by decide +kernel⟩
abbrev s__law_fresh : Stmt := topS 68
theorem sc__law_fresh : FnScope [] [] (defScope s__law_fresh) := ⟨rfl, rfl, rfl, by decide +kernel, rfl, by decide +kernel, by decide +kernel⟩
abbrev s__law_named : Stmt := topS 69
theorem sc__law_named : FnScope ["_law_pot_here"] ["_law_pot_here"] (defScope s__law_named) := ⟨rfl, rfl, rfl, by decide +kernel, rfl, by decide +kernel, by decide +kernel⟩
abbrev s__law_low : Stmt := topS 70
theorem sc__law_low : FnScope ["_law_top", "_law_bottom", "_law_one", "_law_other"] ["_law_top", "_law_bottom"] (defScope s__law_low) := ⟨rfl, rfl, rfl, by decide +kernel, rfl, by decide +kernel, by decide +kernel⟩
abbrev s__law_hap : Stmt := topS 71
theorem sc__law_hap : FnScope ["_law_pot_here", "_law_far", "_law_time"] ["_law_pot_here"] (defScope s__law_hap) := ⟨rfl, rfl, rfl, by decide +kernel, rfl, by decide +kernel, by decide +kernel⟩
abbrev s__law_stretch : Stmt := topS 72
theorem sc__law_stretch : FnScope ["_law_pot_here", "_law_far", "_law_top"] ["_law_pot_here"] (defScope s__law_stretch) := ⟨rfl, rfl, rfl, by decide +kernel, rfl, by decide +kernel, by decide +kernel⟩
abbrev s__law_fast : Stmt := topS 73
theorem sc__law_fast : FnScope ["_law_pot_here", "_law_a", "_law_b"] ["_law_pot_here"] (defScope s__law_fast) := ⟨rfl, rfl, rfl, by decide +kernel, rfl, by decide +kernel, by decide +kernel⟩
abbrev s__law_speed : Stmt := topS 74
theorem sc__law_speed : FnScope ["_law_pot_here", "_law_way", "_law_bottom", "_law_top"] ["_law_pot_here"] (defScope s__law_speed) := ⟨rfl, rfl, rfl, by decide +kernel, rfl, by decide +kernel, by decide +kernel⟩
abbrev s__law_deed : Stmt := topS 75
theorem sc__law_deed : FnScope ["_law_pot_here", "_law_way", "_law_name", "_law_bad", "_law_speed_here"] ["_law_pot_here"] (defScope s__law_deed) := ⟨rfl, rfl, rfl, by decide +kernel, rfl, by decide +kernel, by decide +kernel⟩
abbrev s__law_whole : Stmt := topS 76
theorem sc__law_whole : FnScope ["_law_thing"] ["_law_thing"] (defScope s__law_whole) := ⟨rfl, rfl, rfl, by decide +kernel, rfl, by decide +kernel, by decide +kernel⟩
abbrev s__law_good : Stmt := topS 77
theorem sc__law_good : FnScope ["_law_thing"] ["_law_thing"] (defScope s__law_good) := ⟨rfl, rfl, rfl, by decide +kernel, rfl, by decide +kernel, by decide +kernel⟩
abbrev s__law_is_it : Stmt := topS 78
theorem sc__law_is_it : FnScope ["_law_thing"] ["_law_thing"] (defScope s__law_is_it) := ⟨rfl, rfl, rfl, by decide +kernel, rfl, by decide +kernel, by decide +kernel⟩
abbrev s__law_named_well : Stmt := topS 79
theorem sc__law_named_well : FnScope ["_law_thing", "_law_sign"] ["_law_thing"] (defScope s__law_named_well) := ⟨rfl, rfl, rfl, by decide +kernel, rfl, by decide +kernel, by decide +kernel⟩
abbrev s__law_is_fast : Stmt := topS 80
theorem sc__law_is_fast : FnScope ["_law_thing"] ["_law_thing"] (defScope s__law_is_fast) := ⟨rfl, rfl, rfl, by decide +kernel, rfl, by decide +kernel, by decide +kernel⟩
abbrev s__law_root : Stmt := topS 81
theorem sc__law_root : FnScope ["_law_number", "_law_found", "_law_bit"] ["_law_number"] (defScope s__law_root) := ⟨rfl, rfl, rfl, by decide +kernel, rfl, by decide +kernel, by decide +kernel⟩
abbrev s__law_rooted : Stmt := topS 82
theorem sc__law_rooted : FnScope ["_law_one", "_law_top", "_law_bottom"] ["_law_one"] (defScope s__law_rooted) := ⟨rfl, rfl, rfl, by decide +kernel, rfl, by decide +kernel, by decide +kernel⟩
abbrev s__law_gap : Stmt := topS 83
theorem sc__law_gap : FnScope ["_law_one", "_law_other"] ["_law_one", "_law_other"] (defScope s__law_gap) := ⟨rfl, rfl, rfl, by decide +kernel, rfl, by decide +kernel, by decide +kernel⟩
abbrev s__law_prod : Stmt := topS 84
theorem sc__law_prod : FnScope ["_law_one", "_law_other"] ["_law_one", "_law_other"] (defScope s__law_prod) := ⟨rfl, rfl, rfl, by decide +kernel, rfl, by decide +kernel, by decide +kernel⟩
abbrev s__law_beat : Stmt := topS 85
theorem sc__law_beat : FnScope ["_law_speed_here"] ["_law_speed_here"] (defScope s__law_beat) := ⟨rfl, rfl, rfl, by decide +kernel, rfl, by decide +kernel, by decide +kernel⟩
abbrev s__law_refused_as : Stmt := topS 86
theorem sc__law_refused_as : FnScope ["_law_state", "_law_word", "_law_told"] ["_law_state", "_law_word", "_law_told"] (defScope s__law_refused_as) := ⟨rfl, rfl, rfl, by decide +kernel, rfl, by decide +kernel, by decide +kernel⟩
abbrev s__law_sum : Stmt := topS 87
theorem sc__law_sum : FnScope ["_law_one", "_law_other"] ["_law_one", "_law_other"] (defScope s__law_sum) := ⟨rfl, rfl, rfl, by decide +kernel, rfl, by decide +kernel, by decide +kernel⟩
abbrev s__law_quot : Stmt := topS 88
theorem sc__law_quot : FnScope ["_law_one", "_law_other"] ["_law_one", "_law_other"] (defScope s__law_quot) := ⟨rfl, rfl, rfl, by decide +kernel, rfl, by decide +kernel, by decide +kernel⟩
abbrev s__law_joined : Stmt := topS 89
theorem sc__law_joined : FnScope ["_law_one", "_law_other"] ["_law_one", "_law_other"] (defScope s__law_joined) := ⟨rfl, rfl, rfl, by decide +kernel, rfl, by decide +kernel, by decide +kernel⟩
abbrev s__law_kept : Stmt := topS 90
theorem sc__law_kept : FnScope ["_law_state", "_law_word", "_law_told", "_law_found"] ["_law_state", "_law_word", "_law_told"] (defScope s__law_kept) := ⟨rfl, rfl, rfl, by decide +kernel, rfl, by decide +kernel, by decide +kernel⟩
abbrev s__law_kind_of : Stmt := topS 91
theorem sc__law_kind_of : FnScope ["_law_e", "_law_some", "_law_words"] ["_law_e"] (defScope s__law_kind_of) := ⟨rfl, rfl, rfl, by decide +kernel, rfl, by decide +kernel, by decide +kernel⟩
abbrev s__law_done : Stmt := topS 92
theorem sc__law_done : FnScope ["_law_bench", "_law_word", "_law_told", "_law_found", "_law_e"] ["_law_bench", "_law_word", "_law_told"] (defScope s__law_done) := ⟨rfl, rfl, rfl, by decide +kernel, rfl, by decide +kernel, by decide +kernel⟩
abbrev s__law_seen : Stmt := topS 93
theorem sc__law_seen : FnScope ["_law_bench", "_law_names", "_law_name"] ["_law_bench"] (defScope s__law_seen) := ⟨rfl, rfl, rfl, by decide +kernel, rfl, by decide +kernel, by decide +kernel⟩
abbrev s__law_stands_right : Stmt := topS 94
theorem sc__law_stands_right : FnScope ["_law_bench", "_law_state", "_law_other", "_law_name", "_law_names", "_law_told", "_law_haps", "_law_rows", "_law_number", "_law_row", "_law_one", "_law_other_one"] ["_law_bench", "_law_state"] (defScope s__law_stands_right) := ⟨rfl, rfl, rfl, by decide +kernel, rfl, by decide +kernel, by decide +kernel⟩
abbrev s__law_turned_right : Stmt := topS 95
theorem sc__law_turned_right : FnScope ["_law_bench", "_law_state", "_law_speed_here", "_law_before", "_law_name", "_law_turn"] ["_law_bench", "_law_state", "_law_speed_here"] (defScope s__law_turned_right) := ⟨rfl, rfl, rfl, by decide +kernel, rfl, by decide +kernel, by decide +kernel⟩
abbrev s_law : Stmt := topS 96
theorem sc_law : FnScope ["_law_script", "_law_number", "_law_pot_here", "_law_bench", "_law_state", "_law_stood", "_law_words", "_law_turn", "_law_word", "_law_told", "_law_seen_here", "_law_one"] ["_law_script"] (defScope s_law) := ⟨rfl, rfl, rfl, by decide +kernel, rfl, by decide +kernel, by decide +kernel⟩
def D_is_whole : He.DefD := ⟨("is_whole", none), "is_whole", "is_whole", defArgs s_is_whole, defBody s_is_whole, defScope s_is_whole, [], []⟩
def D_is_fraction : He.DefD := ⟨("is_fraction", none), "is_fraction", "is_fraction", defArgs s_is_fraction, defBody s_is_fraction, defScope s_is_fraction, [], []⟩
def D_fraction : He.DefD := ⟨("fraction", none), "fraction", "fraction", defArgs s_fraction, defBody s_fraction, defScope s_fraction, [], []⟩
def D_plus : He.DefD := ⟨("plus", none), "plus", "plus", defArgs s_plus, defBody s_plus, defScope s_plus, [], []⟩
def D_less : He.DefD := ⟨("less", none), "less", "less", defArgs s_less, defBody s_less, defScope s_less, [], []⟩
def D_times : He.DefD := ⟨("times", none), "times", "times", defArgs s_times, defBody s_times, defScope s_times, [], []⟩
def D_by : He.DefD := ⟨("by", none), "by", "by", defArgs s_by, defBody s_by, defScope s_by, [], []⟩
def D_is_less : He.DefD := ⟨("is_less", none), "is_less", "is_less", defArgs s_is_less, defBody s_is_less, defScope s_is_less, [], []⟩
def D_rising : He.DefD := ⟨("rising", none), "rising", "rising", defArgs s_rising, defBody s_rising, defScope s_rising, [], []⟩
def D_root_of : He.DefD := ⟨("root_of", none), "root_of", "root_of", defArgs s_root_of, defBody s_root_of, defScope s_root_of, [], []⟩
def D_is_hap : He.DefD := ⟨("is_hap", none), "is_hap", "is_hap", defArgs s_is_hap, defBody s_is_hap, defScope s_is_hap, [], []⟩
def D_are_haps : He.DefD := ⟨("are_haps", none), "are_haps", "are_haps", defArgs s_are_haps, defBody s_are_haps, defScope s_are_haps, [], []⟩
def D_check_haps : He.DefD := ⟨("check_haps", none), "check_haps", "check_haps", defArgs s_check_haps, defBody s_check_haps, defScope s_check_haps, [], []⟩
def D_is_speed : He.DefD := ⟨("is_speed", none), "is_speed", "is_speed", defArgs s_is_speed, defBody s_is_speed, defScope s_is_speed, [], []⟩
def D_check_speed : He.DefD := ⟨("check_speed", none), "check_speed", "check_speed", defArgs s_check_speed, defBody s_check_speed, defScope s_check_speed, [], []⟩
def D_together : He.DefD := ⟨("together", none), "together", "together", defArgs s_together, defBody s_together, defScope s_together, [], []⟩
def D_beat_or_none : He.DefD := ⟨("beat_or_none", none), "beat_or_none", "beat_or_none", defArgs s_beat_or_none, defBody s_beat_or_none, defScope s_beat_or_none, [], []⟩
def D_is_plain : He.DefD := ⟨("is_plain", none), "is_plain", "is_plain", defArgs s_is_plain, defBody s_is_plain, defScope s_is_plain, [], []⟩
def D_check_plain : He.DefD := ⟨("check_plain", none), "check_plain", "check_plain", defArgs s_check_plain, defBody s_check_plain, defScope s_check_plain, [], []⟩
def D_beat_of : He.DefD := ⟨("beat_of", none), "beat_of", "beat_of", defArgs s_beat_of, defBody s_beat_of, defScope s_beat_of, [], []⟩
def D_lapse_and_gap : He.DefD := ⟨("lapse_and_gap", none), "lapse_and_gap", "lapse_and_gap", defArgs s_lapse_and_gap, defBody s_lapse_and_gap, defScope s_lapse_and_gap, [], []⟩
def D_kind_of : He.DefD := ⟨("kind_of", none), "kind_of", "kind_of", defArgs s_kind_of, defBody s_kind_of, defScope s_kind_of, [], []⟩
def D_standing : He.DefD := ⟨("standing", none), "standing", "standing", defArgs s_standing, defBody s_standing, defScope s_standing, [], []⟩
def D_order_at : He.DefD := ⟨("order_at", none), "order_at", "order_at", defArgs s_order_at, defBody s_order_at, defScope s_order_at, [], []⟩
def D_is_seat : He.DefD := ⟨("is_seat", none), "is_seat", "is_seat", defArgs s_is_seat, defBody s_is_seat, defScope s_is_seat, [], []⟩
def D_check_seat : He.DefD := ⟨("check_seat", none), "check_seat", "check_seat", defArgs s_check_seat, defBody s_check_seat, defScope s_check_seat, [], []⟩
def D_check_hap : He.DefD := ⟨("check_hap", none), "check_hap", "check_hap", defArgs s_check_hap, defBody s_check_hap, defScope s_check_hap, [], []⟩
def D_seen_from : He.DefD := ⟨("seen_from", none), "seen_from", "seen_from", defArgs s_seen_from, defBody s_seen_from, defScope s_seen_from, [], []⟩
def D_told_from : He.DefD := ⟨("told_from", none), "told_from", "told_from", defArgs s_told_from, defBody s_told_from, defScope s_told_from, [], []⟩
def D_is_name : He.DefD := ⟨("is_name", none), "is_name", "is_name", defArgs s_is_name, defBody s_is_name, defScope s_is_name, [], []⟩
def D_Bench___init__ : He.DefD := ⟨("Bench", some "__init__"), "__init__", "Bench.__init__", defArgs s_Bench___init__, defBody s_Bench___init__, defScope s_Bench___init__, [], []⟩
def D_Bench__do : He.DefD := ⟨("Bench", some "_do"), "_do", "Bench._do", defArgs s_Bench__do, defBody s_Bench__do, defScope s_Bench__do, [], []⟩
def D_Bench_put : He.DefD := ⟨("Bench", some "put"), "put", "Bench.put", defArgs s_Bench_put, defBody s_Bench_put, defScope s_Bench_put, [], []⟩
def D_Bench__hap_of : He.DefD := ⟨("Bench", some "_hap_of"), "_hap_of", "Bench._hap_of", defArgs s_Bench__hap_of, defBody s_Bench__hap_of, defScope s_Bench__hap_of, [], []⟩
def D_Bench_drop : He.DefD := ⟨("Bench", some "drop"), "drop", "Bench.drop", defArgs s_Bench_drop, defBody s_Bench_drop, defScope s_Bench_drop, [], []⟩
def D_Bench_turn : He.DefD := ⟨("Bench", some "turn"), "turn", "Bench.turn", defArgs s_Bench_turn, defBody s_Bench_turn, defScope s_Bench_turn, [], []⟩
def D_Bench_push : He.DefD := ⟨("Bench", some "push"), "push", "Bench.push", defArgs s_Bench_push, defBody s_Bench_push, defScope s_Bench_push, [], []⟩
def D_Bench_undo : He.DefD := ⟨("Bench", some "undo"), "undo", "Bench.undo", defArgs s_Bench_undo, defBody s_Bench_undo, defScope s_Bench_undo, [], []⟩
def D_Bench_names : He.DefD := ⟨("Bench", some "names"), "names", "Bench.names", defArgs s_Bench_names, defBody s_Bench_names, defScope s_Bench_names, [], []⟩
def D_Bench_speed : He.DefD := ⟨("Bench", some "speed"), "speed", "Bench.speed", defArgs s_Bench_speed, defBody s_Bench_speed, defScope s_Bench_speed, [], []⟩
def D_Bench_tell : He.DefD := ⟨("Bench", some "tell"), "tell", "Bench.tell", defArgs s_Bench_tell, defBody s_Bench_tell, defScope s_Bench_tell, [], []⟩
def D_Bench_order : He.DefD := ⟨("Bench", some "order"), "order", "Bench.order", defArgs s_Bench_order, defBody s_Bench_order, defScope s_Bench_order, [], []⟩
def D_Bench_kind : He.DefD := ⟨("Bench", some "kind"), "kind", "Bench.kind", defArgs s_Bench_kind, defBody s_Bench_kind, defScope s_Bench_kind, [], []⟩
def D__law_cell_at : He.DefD := ⟨("_law_cell_at", none), "_law_cell_at", "_law_cell_at", defArgs s__law_cell_at, defBody s__law_cell_at, defScope s__law_cell_at, [], []⟩
def D__law_pot : He.DefD := ⟨("_law_pot", none), "_law_pot", "_law_pot", defArgs s__law_pot, defBody s__law_pot, defScope s__law_pot, [], []⟩
def D__law_take : He.DefD := ⟨("_law_take", none), "_law_take", "_law_take", defArgs s__law_take, defBody s__law_take, defScope s__law_take, [], []⟩
def D__law_fresh : He.DefD := ⟨("_law_fresh", none), "_law_fresh", "_law_fresh", defArgs s__law_fresh, defBody s__law_fresh, defScope s__law_fresh, [], []⟩
def D__law_named : He.DefD := ⟨("_law_named", none), "_law_named", "_law_named", defArgs s__law_named, defBody s__law_named, defScope s__law_named, [], []⟩
def D__law_low : He.DefD := ⟨("_law_low", none), "_law_low", "_law_low", defArgs s__law_low, defBody s__law_low, defScope s__law_low, [], []⟩
def D__law_hap : He.DefD := ⟨("_law_hap", none), "_law_hap", "_law_hap", defArgs s__law_hap, defBody s__law_hap, defScope s__law_hap, [], []⟩
def D__law_stretch : He.DefD := ⟨("_law_stretch", none), "_law_stretch", "_law_stretch", defArgs s__law_stretch, defBody s__law_stretch, defScope s__law_stretch, [], []⟩
def D__law_fast : He.DefD := ⟨("_law_fast", none), "_law_fast", "_law_fast", defArgs s__law_fast, defBody s__law_fast, defScope s__law_fast, [], []⟩
def D__law_speed : He.DefD := ⟨("_law_speed", none), "_law_speed", "_law_speed", defArgs s__law_speed, defBody s__law_speed, defScope s__law_speed, [], []⟩
def D__law_deed : He.DefD := ⟨("_law_deed", none), "_law_deed", "_law_deed", defArgs s__law_deed, defBody s__law_deed, defScope s__law_deed, [], []⟩
def D__law_whole : He.DefD := ⟨("_law_whole", none), "_law_whole", "_law_whole", defArgs s__law_whole, defBody s__law_whole, defScope s__law_whole, [], []⟩
def D__law_good : He.DefD := ⟨("_law_good", none), "_law_good", "_law_good", defArgs s__law_good, defBody s__law_good, defScope s__law_good, [], []⟩
def D__law_is_it : He.DefD := ⟨("_law_is_it", none), "_law_is_it", "_law_is_it", defArgs s__law_is_it, defBody s__law_is_it, defScope s__law_is_it, [], []⟩
def D__law_named_well : He.DefD := ⟨("_law_named_well", none), "_law_named_well", "_law_named_well", defArgs s__law_named_well, defBody s__law_named_well, defScope s__law_named_well, [], []⟩
def D__law_is_fast : He.DefD := ⟨("_law_is_fast", none), "_law_is_fast", "_law_is_fast", defArgs s__law_is_fast, defBody s__law_is_fast, defScope s__law_is_fast, [], []⟩
def D__law_root : He.DefD := ⟨("_law_root", none), "_law_root", "_law_root", defArgs s__law_root, defBody s__law_root, defScope s__law_root, [], []⟩
def D__law_rooted : He.DefD := ⟨("_law_rooted", none), "_law_rooted", "_law_rooted", defArgs s__law_rooted, defBody s__law_rooted, defScope s__law_rooted, [], []⟩
def D__law_gap : He.DefD := ⟨("_law_gap", none), "_law_gap", "_law_gap", defArgs s__law_gap, defBody s__law_gap, defScope s__law_gap, [], []⟩
def D__law_prod : He.DefD := ⟨("_law_prod", none), "_law_prod", "_law_prod", defArgs s__law_prod, defBody s__law_prod, defScope s__law_prod, [], []⟩
def D__law_beat : He.DefD := ⟨("_law_beat", none), "_law_beat", "_law_beat", defArgs s__law_beat, defBody s__law_beat, defScope s__law_beat, [], []⟩
def D__law_refused_as : He.DefD := ⟨("_law_refused_as", none), "_law_refused_as", "_law_refused_as", defArgs s__law_refused_as, defBody s__law_refused_as, defScope s__law_refused_as, [], []⟩
def D__law_sum : He.DefD := ⟨("_law_sum", none), "_law_sum", "_law_sum", defArgs s__law_sum, defBody s__law_sum, defScope s__law_sum, [], []⟩
def D__law_quot : He.DefD := ⟨("_law_quot", none), "_law_quot", "_law_quot", defArgs s__law_quot, defBody s__law_quot, defScope s__law_quot, [], []⟩
def D__law_joined : He.DefD := ⟨("_law_joined", none), "_law_joined", "_law_joined", defArgs s__law_joined, defBody s__law_joined, defScope s__law_joined, [], []⟩
def D__law_kept : He.DefD := ⟨("_law_kept", none), "_law_kept", "_law_kept", defArgs s__law_kept, defBody s__law_kept, defScope s__law_kept, [], []⟩
def D__law_kind_of : He.DefD := ⟨("_law_kind_of", none), "_law_kind_of", "_law_kind_of", defArgs s__law_kind_of, defBody s__law_kind_of, defScope s__law_kind_of, [], []⟩
def D__law_done : He.DefD := ⟨("_law_done", none), "_law_done", "_law_done", defArgs s__law_done, defBody s__law_done, defScope s__law_done, [], []⟩
def D__law_seen : He.DefD := ⟨("_law_seen", none), "_law_seen", "_law_seen", defArgs s__law_seen, defBody s__law_seen, defScope s__law_seen, [], []⟩
def D__law_stands_right : He.DefD := ⟨("_law_stands_right", none), "_law_stands_right", "_law_stands_right", defArgs s__law_stands_right, defBody s__law_stands_right, defScope s__law_stands_right, [], []⟩
def D__law_turned_right : He.DefD := ⟨("_law_turned_right", none), "_law_turned_right", "_law_turned_right", defArgs s__law_turned_right, defBody s__law_turned_right, defScope s__law_turned_right, [], []⟩
def D_law : He.DefD := ⟨("law", none), "law", "law", defArgs s_law, defBody s_law, defScope s_law, [], []⟩
def FNZ0 : List He.DefD := [D_is_whole, D_is_fraction, D_fraction, D_plus, D_less, D_times, D_by, D_is_less, D_rising, D_root_of, D_is_hap, D_are_haps, D_check_haps, D_is_speed, D_check_speed, D_together, D_beat_or_none, D_is_plain, D_check_plain, D_beat_of, D_lapse_and_gap, D_kind_of, D_standing, D_order_at, D_is_seat]
def FNZ1 : List He.DefD := [D_check_seat, D_check_hap, D_seen_from, D_told_from, D_is_name, D_Bench___init__, D_Bench__do, D_Bench_put, D_Bench__hap_of, D_Bench_drop, D_Bench_turn, D_Bench_push, D_Bench_undo, D_Bench_names, D_Bench_speed, D_Bench_tell, D_Bench_order, D_Bench_kind, D__law_cell_at, D__law_pot, D__law_take, D__law_fresh, D__law_named, D__law_low, D__law_hap]
def FNZ2 : List He.DefD := [D__law_stretch, D__law_fast, D__law_speed, D__law_deed, D__law_whole, D__law_good, D__law_is_it, D__law_named_well, D__law_is_fast, D__law_root, D__law_rooted, D__law_gap, D__law_prod, D__law_beat, D__law_refused_as, D__law_sum, D__law_quot, D__law_joined, D__law_kept, D__law_kind_of, D__law_done, D__law_seen, D__law_stands_right, D__law_turned_right, D_law]
def FNZ : List He.DefD := FNZ0 ++ (FNZ1 ++ (FNZ2))
def FAZ0 : List He.Fa := [.str "LETTERS" "abcdefghijklmnopqrstuvwxyz", .int "LONGEST_NAME" (8), .int "MOST_HAPS" (8), .int "MOST_NAMES" (12), .glo "NOUGHT", .glo "ONE", .glo "is_whole", .glo "is_fraction", .glo "fraction", .glo "plus", .glo "less", .glo "times", .glo "by", .glo "is_less", .glo "rising", .glo "root_of", .glo "is_hap", .glo "are_haps", .glo "check_haps", .glo "is_speed", .glo "check_speed", .glo "together", .glo "beat_or_none", .glo "is_plain", .glo "check_plain"]
def FAZ1 : List He.Fa := [.glo "beat_of", .glo "lapse_and_gap", .glo "kind_of", .glo "standing", .glo "order_at", .glo "is_seat", .glo "check_seat", .glo "check_hap", .glo "seen_from", .glo "told_from", .glo "is_name", .mkr "Bench", .cls "Bench", .noat "Bench" "_haps", .noat "Bench" "_speed", .noat "Bench" "_past", .meth "Bench" "_do", .meth "Bench" "put", .meth "Bench" "_hap_of", .meth "Bench" "drop", .meth "Bench" "turn", .meth "Bench" "push", .meth "Bench" "undo", .meth "Bench" "names", .meth "Bench" "speed"]
def FAZ2 : List He.Fa := [.meth "Bench" "tell", .meth "Bench" "order", .meth "Bench" "kind", .glo "_law_cell_at", .glo "_law_pot", .glo "_law_take", .glo "_law_fresh", .glo "_law_named", .glo "_law_low", .glo "_law_hap", .glo "_law_stretch", .glo "_law_fast", .glo "_law_speed", .glo "_law_deed", .glo "_law_whole", .glo "_law_good", .glo "_law_is_it", .glo "_law_named_well", .glo "_law_is_fast", .glo "_law_root", .glo "_law_rooted", .glo "_law_gap", .glo "_law_prod", .glo "_law_beat", .glo "_law_refused_as"]
def FAZ3 : List He.Fa := [.glo "_law_sum", .glo "_law_quot", .glo "_law_joined", .glo "_law_kept", .glo "_law_kind_of", .glo "_law_done", .glo "_law_seen", .glo "_law_stands_right", .glo "_law_turned_right", .glo "law", .free "ValueError", .free "abs", .free "all", .free "bool", .free "dict", .free "enumerate", .free "int", .free "isinstance", .free "len", .free "list", .free "max", .free "min", .free "range", .free "repr", .free "set"]
def FAZ4 : List He.Fa := [.free "sorted", .free "str", .free "tuple", .glo "MotionError", .glo "NoFraction", .exc "NoFraction", .glo "NoHap", .exc "NoHap", .glo "NoText", .glo "NoSpeed", .exc "NoSpeed", .glo "TooMany", .exc "TooMany", .glo "NotPlain", .exc "NotPlain", .glo "NoStretch", .glo "NoHaps", .exc "NoHaps", .glo "NoOrder", .glo "NoStep", .glo "NoNumber", .glo "NoSeat", .exc "NoSeat", .glo "NoRod", .glo "NoWay"]
def FAZ5 : List He.Fa := [.glo "NoFlash", .glo "NoName", .exc "NoName", .glo "NoDeed", .exc "NoDeed", .glo "NoRow", .glo "Bench", .exm "NoName" "MotionError" true, .exm "NoHap" "MotionError" true, .exm "NoSpeed" "MotionError" true, .exm "NotPlain" "MotionError" true, .exm "NoDeed" "MotionError" true, .exm "TooMany" "MotionError" true]
def FAZ : List He.Fa := FAZ0 ++ (FAZ1 ++ (FAZ2 ++ (FAZ3 ++ (FAZ4 ++ (FAZ5)))))
def EXZ0 : ExF := [fun K => tupZ K (He.ga K "NOUGHT") [.int (0), .int (1)], fun K => tupZ K (He.ga K "ONE") [.int (1), .int (1)], fun K => decide (PySem.W.nsIn K mainGlobals "gcd" = some (some (.builtin "math.gcd"))), fun K => decide (PySem.W.nsIn K mainGlobals "isqrt" = some (some (.builtin "math.isqrt"))), fun K => decide (PySem.W.nsIn K mainGlobals "lcm" = some (some (.builtin "math.lcm"))), fun K => decide (PySem.W.findIn K (.ref (He.ga K "NoName")) "__getattribute__" = some (some (.builtin "BaseException.__getattribute__"))), fun K => decide (PySem.W.findIn K (.ref (He.ga K "NoName")) "__getattr__" = some none), fun K => decide (PySem.W.subIn K (.ref (He.ga K "NoName")) (.type "BaseException") = some true), fun K => decide (PySem.W.hasDictIn K (He.ga K "NoName") = true), fun K => decide (PySem.W.findIn K (.ref (He.ga K "NoName")) "__class__" = some (some (.builtin "object.__class__"))), fun K => decide (PySem.W.specialIn K (.builtin "object.__class__") "__get__" = some (some (.builtin "getset_descriptor.__get__"))), fun K => decide (PySem.W.takesIn K (.builtin "object.__class__") = some true), fun K => decide (PySem.W.mroIn K (He.ga K "NoName") (.type "object") = some true), fun K => decide (PySem.W.kitOne K (.ref (He.ga K "NoName")) (.type "ValueError") = some true), fun K => decide (PySem.W.kitOne K (.ref (He.ga K "NoName")) (.ref (He.ga K "NoDeed")) = some false), fun K => decide (PySem.W.kitOne K (.ref (He.ga K "NoName")) (.ref (He.ga K "NoFlash")) = some false), fun K => decide (PySem.W.kitOne K (.ref (He.ga K "NoName")) (.ref (He.ga K "NoFraction")) = some false), fun K => decide (PySem.W.kitOne K (.ref (He.ga K "NoName")) (.ref (He.ga K "NoHap")) = some false), fun K => decide (PySem.W.kitOne K (.ref (He.ga K "NoName")) (.ref (He.ga K "NoHaps")) = some false), fun K => decide (PySem.W.kitOne K (.ref (He.ga K "NoName")) (.ref (He.ga K "NoName")) = some true), fun K => decide (PySem.W.kitOne K (.ref (He.ga K "NoName")) (.ref (He.ga K "NoNumber")) = some false), fun K => decide (PySem.W.kitOne K (.ref (He.ga K "NoName")) (.ref (He.ga K "NoOrder")) = some false), fun K => decide (PySem.W.kitOne K (.ref (He.ga K "NoName")) (.ref (He.ga K "NoRod")) = some false), fun K => decide (PySem.W.kitOne K (.ref (He.ga K "NoName")) (.ref (He.ga K "NoRow")) = some false), fun K => decide (PySem.W.kitOne K (.ref (He.ga K "NoName")) (.ref (He.ga K "NoSeat")) = some false)]
def EXZ1 : ExF := [fun K => decide (PySem.W.kitOne K (.ref (He.ga K "NoName")) (.ref (He.ga K "NoSpeed")) = some false), fun K => decide (PySem.W.kitOne K (.ref (He.ga K "NoName")) (.ref (He.ga K "NoStep")) = some false), fun K => decide (PySem.W.kitOne K (.ref (He.ga K "NoName")) (.ref (He.ga K "NoStretch")) = some false), fun K => decide (PySem.W.kitOne K (.ref (He.ga K "NoName")) (.ref (He.ga K "NoText")) = some false), fun K => decide (PySem.W.kitOne K (.ref (He.ga K "NoName")) (.ref (He.ga K "NotPlain")) = some false), fun K => decide (PySem.W.kitOne K (.ref (He.ga K "NoName")) (.ref (He.ga K "NoWay")) = some false), fun K => decide (PySem.W.kitOne K (.ref (He.ga K "NoName")) (.ref (He.ga K "TooMany")) = some false), fun K => decide (PySem.W.findIn K (.ref (He.ga K "NoHap")) "__getattribute__" = some (some (.builtin "BaseException.__getattribute__"))), fun K => decide (PySem.W.findIn K (.ref (He.ga K "NoHap")) "__getattr__" = some none), fun K => decide (PySem.W.subIn K (.ref (He.ga K "NoHap")) (.type "BaseException") = some true), fun K => decide (PySem.W.hasDictIn K (He.ga K "NoHap") = true), fun K => decide (PySem.W.findIn K (.ref (He.ga K "NoHap")) "__class__" = some (some (.builtin "object.__class__"))), fun K => decide (PySem.W.mroIn K (He.ga K "NoHap") (.type "object") = some true), fun K => decide (PySem.W.kitOne K (.ref (He.ga K "NoHap")) (.type "ValueError") = some true), fun K => decide (PySem.W.kitOne K (.ref (He.ga K "NoHap")) (.ref (He.ga K "NoDeed")) = some false), fun K => decide (PySem.W.kitOne K (.ref (He.ga K "NoHap")) (.ref (He.ga K "NoFlash")) = some false), fun K => decide (PySem.W.kitOne K (.ref (He.ga K "NoHap")) (.ref (He.ga K "NoFraction")) = some false), fun K => decide (PySem.W.kitOne K (.ref (He.ga K "NoHap")) (.ref (He.ga K "NoHap")) = some true), fun K => decide (PySem.W.kitOne K (.ref (He.ga K "NoHap")) (.ref (He.ga K "NoHaps")) = some false), fun K => decide (PySem.W.kitOne K (.ref (He.ga K "NoHap")) (.ref (He.ga K "NoName")) = some false), fun K => decide (PySem.W.kitOne K (.ref (He.ga K "NoHap")) (.ref (He.ga K "NoNumber")) = some false), fun K => decide (PySem.W.kitOne K (.ref (He.ga K "NoHap")) (.ref (He.ga K "NoOrder")) = some false), fun K => decide (PySem.W.kitOne K (.ref (He.ga K "NoHap")) (.ref (He.ga K "NoRod")) = some false), fun K => decide (PySem.W.kitOne K (.ref (He.ga K "NoHap")) (.ref (He.ga K "NoRow")) = some false), fun K => decide (PySem.W.kitOne K (.ref (He.ga K "NoHap")) (.ref (He.ga K "NoSeat")) = some false)]
def EXZ2 : ExF := [fun K => decide (PySem.W.kitOne K (.ref (He.ga K "NoHap")) (.ref (He.ga K "NoSpeed")) = some false), fun K => decide (PySem.W.kitOne K (.ref (He.ga K "NoHap")) (.ref (He.ga K "NoStep")) = some false), fun K => decide (PySem.W.kitOne K (.ref (He.ga K "NoHap")) (.ref (He.ga K "NoStretch")) = some false), fun K => decide (PySem.W.kitOne K (.ref (He.ga K "NoHap")) (.ref (He.ga K "NoText")) = some false), fun K => decide (PySem.W.kitOne K (.ref (He.ga K "NoHap")) (.ref (He.ga K "NotPlain")) = some false), fun K => decide (PySem.W.kitOne K (.ref (He.ga K "NoHap")) (.ref (He.ga K "NoWay")) = some false), fun K => decide (PySem.W.kitOne K (.ref (He.ga K "NoHap")) (.ref (He.ga K "TooMany")) = some false), fun K => decide (PySem.W.findIn K (.ref (He.ga K "NoSpeed")) "__getattribute__" = some (some (.builtin "BaseException.__getattribute__"))), fun K => decide (PySem.W.findIn K (.ref (He.ga K "NoSpeed")) "__getattr__" = some none), fun K => decide (PySem.W.subIn K (.ref (He.ga K "NoSpeed")) (.type "BaseException") = some true), fun K => decide (PySem.W.hasDictIn K (He.ga K "NoSpeed") = true), fun K => decide (PySem.W.findIn K (.ref (He.ga K "NoSpeed")) "__class__" = some (some (.builtin "object.__class__"))), fun K => decide (PySem.W.mroIn K (He.ga K "NoSpeed") (.type "object") = some true), fun K => decide (PySem.W.kitOne K (.ref (He.ga K "NoSpeed")) (.type "ValueError") = some true), fun K => decide (PySem.W.kitOne K (.ref (He.ga K "NoSpeed")) (.ref (He.ga K "NoDeed")) = some false), fun K => decide (PySem.W.kitOne K (.ref (He.ga K "NoSpeed")) (.ref (He.ga K "NoFlash")) = some false), fun K => decide (PySem.W.kitOne K (.ref (He.ga K "NoSpeed")) (.ref (He.ga K "NoFraction")) = some false), fun K => decide (PySem.W.kitOne K (.ref (He.ga K "NoSpeed")) (.ref (He.ga K "NoHap")) = some false), fun K => decide (PySem.W.kitOne K (.ref (He.ga K "NoSpeed")) (.ref (He.ga K "NoHaps")) = some false), fun K => decide (PySem.W.kitOne K (.ref (He.ga K "NoSpeed")) (.ref (He.ga K "NoName")) = some false), fun K => decide (PySem.W.kitOne K (.ref (He.ga K "NoSpeed")) (.ref (He.ga K "NoNumber")) = some false), fun K => decide (PySem.W.kitOne K (.ref (He.ga K "NoSpeed")) (.ref (He.ga K "NoOrder")) = some false), fun K => decide (PySem.W.kitOne K (.ref (He.ga K "NoSpeed")) (.ref (He.ga K "NoRod")) = some false), fun K => decide (PySem.W.kitOne K (.ref (He.ga K "NoSpeed")) (.ref (He.ga K "NoRow")) = some false), fun K => decide (PySem.W.kitOne K (.ref (He.ga K "NoSpeed")) (.ref (He.ga K "NoSeat")) = some false)]
def EXZ3 : ExF := [fun K => decide (PySem.W.kitOne K (.ref (He.ga K "NoSpeed")) (.ref (He.ga K "NoSpeed")) = some true), fun K => decide (PySem.W.kitOne K (.ref (He.ga K "NoSpeed")) (.ref (He.ga K "NoStep")) = some false), fun K => decide (PySem.W.kitOne K (.ref (He.ga K "NoSpeed")) (.ref (He.ga K "NoStretch")) = some false), fun K => decide (PySem.W.kitOne K (.ref (He.ga K "NoSpeed")) (.ref (He.ga K "NoText")) = some false), fun K => decide (PySem.W.kitOne K (.ref (He.ga K "NoSpeed")) (.ref (He.ga K "NotPlain")) = some false), fun K => decide (PySem.W.kitOne K (.ref (He.ga K "NoSpeed")) (.ref (He.ga K "NoWay")) = some false), fun K => decide (PySem.W.kitOne K (.ref (He.ga K "NoSpeed")) (.ref (He.ga K "TooMany")) = some false), fun K => decide (PySem.W.findIn K (.ref (He.ga K "NotPlain")) "__getattribute__" = some (some (.builtin "BaseException.__getattribute__"))), fun K => decide (PySem.W.findIn K (.ref (He.ga K "NotPlain")) "__getattr__" = some none), fun K => decide (PySem.W.subIn K (.ref (He.ga K "NotPlain")) (.type "BaseException") = some true), fun K => decide (PySem.W.hasDictIn K (He.ga K "NotPlain") = true), fun K => decide (PySem.W.findIn K (.ref (He.ga K "NotPlain")) "__class__" = some (some (.builtin "object.__class__"))), fun K => decide (PySem.W.mroIn K (He.ga K "NotPlain") (.type "object") = some true), fun K => decide (PySem.W.kitOne K (.ref (He.ga K "NotPlain")) (.type "ValueError") = some true), fun K => decide (PySem.W.kitOne K (.ref (He.ga K "NotPlain")) (.ref (He.ga K "NoDeed")) = some false), fun K => decide (PySem.W.kitOne K (.ref (He.ga K "NotPlain")) (.ref (He.ga K "NoFlash")) = some false), fun K => decide (PySem.W.kitOne K (.ref (He.ga K "NotPlain")) (.ref (He.ga K "NoFraction")) = some false), fun K => decide (PySem.W.kitOne K (.ref (He.ga K "NotPlain")) (.ref (He.ga K "NoHap")) = some false), fun K => decide (PySem.W.kitOne K (.ref (He.ga K "NotPlain")) (.ref (He.ga K "NoHaps")) = some false), fun K => decide (PySem.W.kitOne K (.ref (He.ga K "NotPlain")) (.ref (He.ga K "NoName")) = some false), fun K => decide (PySem.W.kitOne K (.ref (He.ga K "NotPlain")) (.ref (He.ga K "NoNumber")) = some false), fun K => decide (PySem.W.kitOne K (.ref (He.ga K "NotPlain")) (.ref (He.ga K "NoOrder")) = some false), fun K => decide (PySem.W.kitOne K (.ref (He.ga K "NotPlain")) (.ref (He.ga K "NoRod")) = some false), fun K => decide (PySem.W.kitOne K (.ref (He.ga K "NotPlain")) (.ref (He.ga K "NoRow")) = some false), fun K => decide (PySem.W.kitOne K (.ref (He.ga K "NotPlain")) (.ref (He.ga K "NoSeat")) = some false)]
def EXZ4 : ExF := [fun K => decide (PySem.W.kitOne K (.ref (He.ga K "NotPlain")) (.ref (He.ga K "NoSpeed")) = some false), fun K => decide (PySem.W.kitOne K (.ref (He.ga K "NotPlain")) (.ref (He.ga K "NoStep")) = some false), fun K => decide (PySem.W.kitOne K (.ref (He.ga K "NotPlain")) (.ref (He.ga K "NoStretch")) = some false), fun K => decide (PySem.W.kitOne K (.ref (He.ga K "NotPlain")) (.ref (He.ga K "NoText")) = some false), fun K => decide (PySem.W.kitOne K (.ref (He.ga K "NotPlain")) (.ref (He.ga K "NotPlain")) = some true), fun K => decide (PySem.W.kitOne K (.ref (He.ga K "NotPlain")) (.ref (He.ga K "NoWay")) = some false), fun K => decide (PySem.W.kitOne K (.ref (He.ga K "NotPlain")) (.ref (He.ga K "TooMany")) = some false), fun K => decide (PySem.W.findIn K (.ref (He.ga K "NoDeed")) "__getattribute__" = some (some (.builtin "BaseException.__getattribute__"))), fun K => decide (PySem.W.findIn K (.ref (He.ga K "NoDeed")) "__getattr__" = some none), fun K => decide (PySem.W.subIn K (.ref (He.ga K "NoDeed")) (.type "BaseException") = some true), fun K => decide (PySem.W.hasDictIn K (He.ga K "NoDeed") = true), fun K => decide (PySem.W.findIn K (.ref (He.ga K "NoDeed")) "__class__" = some (some (.builtin "object.__class__"))), fun K => decide (PySem.W.mroIn K (He.ga K "NoDeed") (.type "object") = some true), fun K => decide (PySem.W.kitOne K (.ref (He.ga K "NoDeed")) (.type "ValueError") = some true), fun K => decide (PySem.W.kitOne K (.ref (He.ga K "NoDeed")) (.ref (He.ga K "NoDeed")) = some true), fun K => decide (PySem.W.kitOne K (.ref (He.ga K "NoDeed")) (.ref (He.ga K "NoFlash")) = some false), fun K => decide (PySem.W.kitOne K (.ref (He.ga K "NoDeed")) (.ref (He.ga K "NoFraction")) = some false), fun K => decide (PySem.W.kitOne K (.ref (He.ga K "NoDeed")) (.ref (He.ga K "NoHap")) = some false), fun K => decide (PySem.W.kitOne K (.ref (He.ga K "NoDeed")) (.ref (He.ga K "NoHaps")) = some false), fun K => decide (PySem.W.kitOne K (.ref (He.ga K "NoDeed")) (.ref (He.ga K "NoName")) = some false), fun K => decide (PySem.W.kitOne K (.ref (He.ga K "NoDeed")) (.ref (He.ga K "NoNumber")) = some false), fun K => decide (PySem.W.kitOne K (.ref (He.ga K "NoDeed")) (.ref (He.ga K "NoOrder")) = some false), fun K => decide (PySem.W.kitOne K (.ref (He.ga K "NoDeed")) (.ref (He.ga K "NoRod")) = some false), fun K => decide (PySem.W.kitOne K (.ref (He.ga K "NoDeed")) (.ref (He.ga K "NoRow")) = some false), fun K => decide (PySem.W.kitOne K (.ref (He.ga K "NoDeed")) (.ref (He.ga K "NoSeat")) = some false)]
def EXZ5 : ExF := [fun K => decide (PySem.W.kitOne K (.ref (He.ga K "NoDeed")) (.ref (He.ga K "NoSpeed")) = some false), fun K => decide (PySem.W.kitOne K (.ref (He.ga K "NoDeed")) (.ref (He.ga K "NoStep")) = some false), fun K => decide (PySem.W.kitOne K (.ref (He.ga K "NoDeed")) (.ref (He.ga K "NoStretch")) = some false), fun K => decide (PySem.W.kitOne K (.ref (He.ga K "NoDeed")) (.ref (He.ga K "NoText")) = some false), fun K => decide (PySem.W.kitOne K (.ref (He.ga K "NoDeed")) (.ref (He.ga K "NotPlain")) = some false), fun K => decide (PySem.W.kitOne K (.ref (He.ga K "NoDeed")) (.ref (He.ga K "NoWay")) = some false), fun K => decide (PySem.W.kitOne K (.ref (He.ga K "NoDeed")) (.ref (He.ga K "TooMany")) = some false), fun K => decide (PySem.W.findIn K (.ref (He.ga K "TooMany")) "__getattribute__" = some (some (.builtin "BaseException.__getattribute__"))), fun K => decide (PySem.W.findIn K (.ref (He.ga K "TooMany")) "__getattr__" = some none), fun K => decide (PySem.W.subIn K (.ref (He.ga K "TooMany")) (.type "BaseException") = some true), fun K => decide (PySem.W.hasDictIn K (He.ga K "TooMany") = true), fun K => decide (PySem.W.findIn K (.ref (He.ga K "TooMany")) "__class__" = some (some (.builtin "object.__class__"))), fun K => decide (PySem.W.mroIn K (He.ga K "TooMany") (.type "object") = some true), fun K => decide (PySem.W.kitOne K (.ref (He.ga K "TooMany")) (.type "ValueError") = some true), fun K => decide (PySem.W.kitOne K (.ref (He.ga K "TooMany")) (.ref (He.ga K "NoDeed")) = some false), fun K => decide (PySem.W.kitOne K (.ref (He.ga K "TooMany")) (.ref (He.ga K "NoFlash")) = some false), fun K => decide (PySem.W.kitOne K (.ref (He.ga K "TooMany")) (.ref (He.ga K "NoFraction")) = some false), fun K => decide (PySem.W.kitOne K (.ref (He.ga K "TooMany")) (.ref (He.ga K "NoHap")) = some false), fun K => decide (PySem.W.kitOne K (.ref (He.ga K "TooMany")) (.ref (He.ga K "NoHaps")) = some false), fun K => decide (PySem.W.kitOne K (.ref (He.ga K "TooMany")) (.ref (He.ga K "NoName")) = some false), fun K => decide (PySem.W.kitOne K (.ref (He.ga K "TooMany")) (.ref (He.ga K "NoNumber")) = some false), fun K => decide (PySem.W.kitOne K (.ref (He.ga K "TooMany")) (.ref (He.ga K "NoOrder")) = some false), fun K => decide (PySem.W.kitOne K (.ref (He.ga K "TooMany")) (.ref (He.ga K "NoRod")) = some false), fun K => decide (PySem.W.kitOne K (.ref (He.ga K "TooMany")) (.ref (He.ga K "NoRow")) = some false), fun K => decide (PySem.W.kitOne K (.ref (He.ga K "TooMany")) (.ref (He.ga K "NoSeat")) = some false)]
def EXZ6 : ExF := [fun K => decide (PySem.W.kitOne K (.ref (He.ga K "TooMany")) (.ref (He.ga K "NoSpeed")) = some false), fun K => decide (PySem.W.kitOne K (.ref (He.ga K "TooMany")) (.ref (He.ga K "NoStep")) = some false), fun K => decide (PySem.W.kitOne K (.ref (He.ga K "TooMany")) (.ref (He.ga K "NoStretch")) = some false), fun K => decide (PySem.W.kitOne K (.ref (He.ga K "TooMany")) (.ref (He.ga K "NoText")) = some false), fun K => decide (PySem.W.kitOne K (.ref (He.ga K "TooMany")) (.ref (He.ga K "NotPlain")) = some false), fun K => decide (PySem.W.kitOne K (.ref (He.ga K "TooMany")) (.ref (He.ga K "NoWay")) = some false), fun K => decide (PySem.W.kitOne K (.ref (He.ga K "TooMany")) (.ref (He.ga K "TooMany")) = some true)]
def EXZ : ExF := EXZ0 ++ (EXZ1 ++ (EXZ2 ++ (EXZ3 ++ (EXZ4 ++ (EXZ5 ++ (EXZ6))))))
def TSZ : List He.Tab := []
def LOZ0 : List Str := [.ofString "MotionError", .ofString "NoFraction", .ofString "NoHap", .ofString "NoText", .ofString "NoSpeed", .ofString "TooMany", .ofString "NotPlain", .ofString "NoStretch", .ofString "NoHaps", .ofString "NoOrder", .ofString "NoStep", .ofString "NoNumber", .ofString "NoSeat", .ofString "NoRod", .ofString "NoWay", .ofString "NoFlash", .ofString "NoName", .ofString "NoDeed", .ofString "NoRow", .ofString "NOUGHT", .ofString "ONE", .ofString "is_whole", .ofString "is_fraction", .ofString "fraction", .ofString "plus"]
def LOZ1 : List Str := [.ofString "less", .ofString "times", .ofString "by", .ofString "is_less", .ofString "rising", .ofString "root_of", .ofString "is_hap", .ofString "are_haps", .ofString "check_haps", .ofString "is_speed", .ofString "check_speed", .ofString "together", .ofString "beat_or_none", .ofString "is_plain", .ofString "check_plain", .ofString "beat_of", .ofString "MOST_HAPS", .ofString "lapse_and_gap", .ofString "kind_of", .ofString "standing", .ofString "order_at", .ofString "is_seat", .ofString "check_seat", .ofString "check_hap", .ofString "seen_from"]
def LOZ2 : List Str := [.ofString "told_from", .ofString "LETTERS", .ofString "LONGEST_NAME", .ofString "MOST_NAMES", .ofString "is_name", .ofString "Bench", .ofString "_law_cell_at", .ofString "_law_pot", .ofString "_law_take", .ofString "_law_fresh", .ofString "_law_named", .ofString "_law_low", .ofString "_law_hap", .ofString "_law_stretch", .ofString "_law_fast", .ofString "_law_speed", .ofString "_law_deed", .ofString "_law_whole", .ofString "_law_good", .ofString "_law_is_it", .ofString "_law_named_well", .ofString "_law_is_fast", .ofString "_law_root", .ofString "_law_rooted", .ofString "_law_gap"]
def LOZ3 : List Str := [.ofString "_law_prod", .ofString "_law_beat", .ofString "_law_refused_as", .ofString "_law_sum", .ofString "_law_quot", .ofString "_law_joined", .ofString "_law_kept", .ofString "_law_kind_of", .ofString "_law_done", .ofString "_law_seen", .ofString "_law_stands_right", .ofString "_law_turned_right"]
def LOZ : List Str := LOZ0 ++ (LOZ1 ++ (LOZ2 ++ (LOZ3)))
abbrev RZ0 : PySem.W.OpenRow := (PySem.W.OpenLaw.row PySem.Challenge.rw_seatclocks_k83_whole_benches)
abbrev QZ0 : Program := PySem.W.view RZ0.prog [0, 96]
def ASZ0 : List Addr := [3, 51, 52, 64, 65, 76, 77, 89, 100, 101, 112, 113, 124, 125, 137, 148, 149, 161, 173, 185, 196, 197, 209, 221, 233]
def ASZ1 : List Addr := [244, 245, 256, 257, 269, 272, 273, 279, 280, 286, 287, 293, 294, 300, 301, 307, 308, 314, 315, 321, 322, 328, 329, 333, 334]
def ASZ2 : List Addr := [340, 341, 347, 348, 352, 353, 359, 360, 366, 367, 373, 374, 380, 381, 387, 388, 394, 395, 401, 402, 408, 409, 415, 416, 422]
def ASZ3 : List Addr := [423, 427, 428, 434, 435, 441, 442, 448, 449, 455, 456, 462, 463, 469, 470, 474, 475, 488, 489, 495, 496, 502, 503, 509, 510]
def ASZ4 : List Addr := [516, 517, 523, 524, 530, 531, 537, 538, 544, 545, 549, 550, 556, 557, 563, 564, 570, 571, 573, 574, 584, 585, 591, 592, 598]
def ASZ5 : List Addr := [599, 605, 606, 612, 613, 619, 620, 626, 627, 633, 634, 640, 641, 647, 648, 654, 655, 661, 662, 668, 669, 675, 676, 680, 681]
def ASZ6 : List Addr := [687, 688, 694, 695, 701, 702, 708, 709, 715, 716, 722, 723, 729, 730, 736, 737, 743, 744, 750, 751, 757, 758, 764, 765, 771]
def ASZ7 : List Addr := [772, 776, 777, 781, 782, 786, 787, 791, 792]
def ASZ : List Addr := ASZ0 ++ (ASZ1 ++ (ASZ2 ++ (ASZ3 ++ (ASZ4 ++ (ASZ5 ++ (ASZ6 ++ (ASZ7)))))))
abbrev HKZ : PySem.W.Hook := hookZ ASZ FAZ FNZ TSZ EXZ
theorem look_false (w : World) : (HandSHeadRun.wholeF (fun p => HandSHeadRun.stepQ (HandSHeadRun.denQ HandSHeadRun.tabQ) p (w.withFollow "special-get-raises" false)) HandSHeadRun.fenceQ 12000 RZ0.prog).map (fun x => (HandSHeadRun.looksF RZ0.prog x.1.heap x.2.abs, HandSHeadRun.seenQ QZ0 LOZ (importedModules RZ0.prog.main.body) (fun s => PySem.W.xlAt QZ0 [] s && PySem.W.recOk RZ0.toRowW.records s) x.2.abs)) = some (true, PySem.W.openGood QZ0 LOZ) := by
  kernel_rfl
theorem fact_false (w : World) : (HandSHeadRun.wholeF (fun p => HandSHeadRun.stepQ (HandSHeadRun.denQ HandSHeadRun.tabQ) p (w.withFollow "special-get-raises" false)) HandSHeadRun.fenceQ 12000 RZ0.prog).map (fun x => obZ ASZ FAZ FNZ TSZ EXZ x.2) = some (HKZ.val (w.withFollow "special-get-raises" false)) := by
  kernel_rfl
theorem look_true (w : World) : (HandSHeadRun.wholeF (fun p => HandSHeadRun.stepQ (HandSHeadRun.denQ HandSHeadRun.tabQ) p (w.withFollow "special-get-raises" true)) HandSHeadRun.fenceQ 12000 RZ0.prog).map (fun x => (HandSHeadRun.looksF RZ0.prog x.1.heap x.2.abs, HandSHeadRun.seenQ QZ0 LOZ (importedModules RZ0.prog.main.body) (fun s => PySem.W.xlAt QZ0 [] s && PySem.W.recOk RZ0.toRowW.records s) x.2.abs)) = some (true, PySem.W.openGood QZ0 LOZ) := by
  kernel_rfl
theorem fact_true (w : World) : (HandSHeadRun.wholeF (fun p => HandSHeadRun.stepQ (HandSHeadRun.denQ HandSHeadRun.tabQ) p (w.withFollow "special-get-raises" true)) HandSHeadRun.fenceQ 12000 RZ0.prog).map (fun x => obZ ASZ FAZ FNZ TSZ EXZ x.2) = some (HKZ.val (w.withFollow "special-get-raises" true)) := by
  kernel_rfl
theorem run_all (w : World) : HandSHeadRun.RunEqI RZ0 QZ0 HKZ (obZ ASZ FAZ FNZ TSZ EXZ) 12000 LOZ w := PySem.W.byRow2 "special-get-raises" (P := fun w => HandSHeadRun.RunEqI RZ0 QZ0 HKZ (obZ ASZ FAZ FNZ TSZ EXZ) 12000 LOZ w) (fun w => run_two (look_false w) (fact_false w)) (fun w => run_two (look_true w) (fact_true w)) w
end Z
namespace Z
open PySem PySem.Spec PyProof.Rows L2
open Evl (Ex)
/-! ### data: what a value stands for -/
inductive Dt where
  | non | bl (b : Bool) | int (i : Int) | str (x : Str) | tup (ds : List Dt) | lst (ds : List Dt) | dct
mutual
def py : Dt → Option PyData
  | .non => some .none
  | .bl b => some (.bool b)
  | .int i => some (.int i)
  | .str x => some (.str x)
  | .tup ds => match pys ds with
    | some xs => some (.tuple xs)
    | none => none
  | .lst ds => match pys ds with
    | some xs => some (.list xs)
    | none => none
  | .dct => none
def pys : List Dt → Option (List PyData)
  | [] => some []
  | d :: ds => match py d, pys ds with
    | some x, some xs => some (x :: xs)
    | _, _ => none
end
/-- a tuple whose object has no dict of its own -/
def SqX (K : PySem.W.Frag) (H : Hp) (a : Addr) (xs : List V) : Prop :=
  (∃ o : Obj, H a = some (.frz o (.tup xs)) ∧ o.dict = none) ∨ ∃ (o : Obj) (its : Array Value) (n : Nat), K.lookup a = some o ∧ o.cls = .type "tuple" ∧ o.dict = none ∧ o.data = .seq its n ∧ its.size ≤ sizeLine ∧ Vals xs its.toList
theorem SqX.t {K : PySem.W.Frag} {H : Hp} {a : Addr} {xs : List V} (h : SqX K H a xs) : SqT K H a xs := by
  rcases h with ⟨o, h, _⟩ | ⟨o, its, n, h1, h2, _, h3, h4, h5⟩
  · exact .inl (.inr ⟨o, h⟩)
  · exact .inr ⟨o, its, n, h1, h2, h3, h4, h5⟩
theorem SqX.mono {K : PySem.W.Frag} {G H : Hp} {a : Addr} {xs : List V} (e : Ex G H) (h : SqX K G a xs) : SqX K H a xs := by
  rcases h with ⟨o, h, d⟩ | h
  · exact .inl ⟨o, e _ _ h, d⟩
  · exact .inr h
theorem exT {K : PySem.W.Frag} {G H : Hp} {a : Addr} {xs : List V} (e : Ex G H) (h : SqX K G a xs) : SqT K H a xs := (h.mono e).t
theorem sqx_new {K : PySem.W.Frag} {G : Hp} {p : Addr} {o : Obj} {xs : List V} (d : o.dict = none) : SqX K (upd G p (.frz o (.tup xs))) p xs := .inl ⟨o, upd_same, d⟩
/-- a tuple of written items -/
def tTup (t : TA) : TE := fun σ H Q => t σ H fun xs H1 => xs.length ≤ sizeLine ∧ ∀ p (o : Obj), H1 p = none → o.dict = none → Q (.ref p) (upd H1 p (.frz o (.tup xs)))
theorem pe_tup {X : Cx} {es : List Expr} {t : TA} {pos : Pos} {x1 : Nat} (h : PA X es t) : PE X (.Tuple es x1 pos) (tTup t) := by
  refine ⟨fun pins s σ H Q I hq => ?_⟩
  refine wpAny_Tuple_spliced (thn (h.run pos pins s σ H _ I hq) fun us s1 ⟨xs, H1, I1, r, z, q⟩ => ⟨by rw [← r.length]; exact z, ?_⟩)
  have hf : H1 s1.heap.objs.size = none := I1.hok.fresh (Nat.le_refl _)
  refine ⟨.ref s1.heap.objs.size, upd H1 s1.heap.objs.size (.frz { cls := .type "tuple", data := .seq us.toArray } (.tup xs)), I1.laid (t' := s1.toks) (fun b u e => Heap.get?_push_of_some _ e) (Nat.le_refl _) ?_, rfl, q _ _ hf rfl⟩
  exact ⟨Heap.get?_push_size _ rfl, z, us, r, ⟨_, Heap.get?_push_size _ rfl, rfl, _, rfl⟩⟩
mutual
inductive Rp (K : PySem.W.Frag) (H : Hp) : V → Dt → Prop
  | non : Rp K H .non .non
  | bl (b : Bool) : Rp K H (.bl b) (.bl b)
  | int (i : Int) : Rp K H (.int i) (.int i)
  | str (x : Str) : Rp K H (.str x) (.str x)
  | tup {a : Addr} {xs : List V} {ds : List Dt} : SqX K H a xs → Rps K H xs ds → Rp K H (.ref a) (.tup ds)
  | lst {a : Addr} {xs : List V} {ds : List Dt} : SqL K H a xs → Rps K H xs ds → Rp K H (.ref a) (.lst ds)
  | dct {a : Addr} {kvs : List (Key × V)} : H a = some (.dK kvs) → Rp K H (.ref a) .dct
inductive Rps (K : PySem.W.Frag) (H : Hp) : List V → List Dt → Prop
  | nil : Rps K H [] []
  | cons {v : V} {vs : List V} {d : Dt} {ds : List Dt} : Rp K H v d → Rps K H vs ds → Rps K H (v :: vs) (d :: ds)
end
mutual
theorem Rp.mono {K : PySem.W.Frag} {G H : Hp} (e : Ex G H) : ∀ {v : V} {d : Dt}, Rp K G v d → Rp K H v d
  | _, _, .non => .non
  | _, _, .bl b => .bl b
  | _, _, .int i => .int i
  | _, _, .str x => .str x
  | _, _, .tup h r => .tup (h.mono e) (Rps.mono e r)
  | _, _, .lst h r => .lst (Evl.ex_l e h) (Rps.mono e r)
  | _, _, .dct h => .dct (e _ _ h)
theorem Rps.mono {K : PySem.W.Frag} {G H : Hp} (e : Ex G H) : ∀ {vs : List V} {ds : List Dt}, Rps K G vs ds → Rps K H vs ds
  | _, _, .nil => .nil
  | _, _, .cons h r => .cons (Rp.mono e h) (Rps.mono e r)
end
theorem Rps.length {K : PySem.W.Frag} {H : Hp} : ∀ {vs : List V} {ds : List Dt}, Rps K H vs ds → vs.length = ds.length
  | _, _, .nil => rfl
  | _, _, .cons _ r => congrArg (· + 1) (Rps.length r)
theorem Rps.get {K : PySem.W.Frag} {H : Hp} : ∀ {vs : List V} {ds : List Dt} {i : Nat} {d : Dt}, Rps K H vs ds → ds[i]? = some d → ∃ v, vs[i]? = some v ∧ Rp K H v d
  | _, _, _, _, .nil, e => by simp at e
  | _, _, 0, _, .cons r _, e => by simp at e; subst e; exact ⟨_, rfl, r⟩
  | _, _, i + 1, _, .cons _ t, e => by
    obtain ⟨v, h1, h2⟩ := Rps.get (i := i) t (by simpa using e)
    exact ⟨v, by simpa using h1, h2⟩
theorem Rps.append {K : PySem.W.Frag} {H : Hp} : ∀ {vs ws : List V} {ds es : List Dt}, Rps K H vs ds → Rps K H ws es → Rps K H (vs ++ ws) (ds ++ es)
  | _, _, _, _, .nil, s => s
  | _, _, _, _, .cons r t, s => .cons r (Rps.append t s)
mutual
theorem Rp.dp {K : PySem.W.Frag} {H : Hp} : ∀ {v : V} {d : Dt} {x : PyData}, Rp K H v d → py d = some x → Dp K H v x
  | _, _, _, .non, e => by cases e; exact .non
  | _, _, _, .bl b, e => by cases e; exact .bl b
  | _, _, _, .int i, e => by cases e; exact .int i
  | _, _, _, .str x, e => by cases e; exact .str x
  | _, .tup ds, _, .tup h r, e => by
    cases q : pys ds with
    | none => simp only [py, q] at e; cases e
    | some xs =>
      simp only [py, q] at e
      cases e
      exact .tup h.t (Rps.dp r q)
  | _, .lst ds, _, .lst h r, e => by
    cases q : pys ds with
    | none => simp only [py, q] at e; cases e
    | some xs =>
      simp only [py, q] at e
      cases e
      exact .lst h (Rps.dp r q)
  | _, _, _, .dct h, e => by simp only [py] at e; cases e
theorem Rps.dp {K : PySem.W.Frag} {H : Hp} : ∀ {vs : List V} {ds : List Dt} {xs : List PyData}, Rps K H vs ds → pys ds = some xs → DpAll K H vs xs
  | _, _, _, .nil, e => by cases e; exact .nil
  | _, d :: ds, _, .cons h r, e => by
    cases q : py d with
    | none => simp only [pys, q] at e; cases e
    | some x =>
      cases q2 : pys ds with
      | none => simp only [pys, q, q2] at e; cases e
      | some xs =>
        simp only [pys, q, q2] at e
        cases e
        exact .cons (Rp.dp h q) (Rps.dp r q2)
end
/-! ### heaps: G what is known for good, H what stands -/
structure Nx (G H G2 H2 : Hp) : Prop where
  g : Ex G G2
  h : Ex H H2
  k : Ex G2 H2
  f : ∀ a, G a = none → H a ≠ none → G2 a = none
theorem Nx.refl {G H : Hp} (k : Ex G H) : Nx G H G H := ⟨Ex.refl G, Ex.refl H, k, fun _ h _ => h⟩
theorem ne_none {H H' : Hp} (e : Ex H H') {a : Addr} (h : H a ≠ none) : H' a ≠ none := by
  cases q : H a with
  | none => exact absurd q h
  | some o =>
    rw [e a o q]
    intro z
    cases z
theorem Nx.trans {G H G2 H2 G3 H3 : Hp} (a : Nx G H G2 H2) (b : Nx G2 H2 G3 H3) : Nx G H G3 H3 :=
  ⟨a.g.trans b.g, a.h.trans b.h, b.k, fun x h1 h2 => b.f x (a.f x h1 h2) (ne_none a.h h2)⟩
theorem ex_both {G H : Hp} {p : Addr} {o : HO} (k : Ex G H) : Ex (upd G p o) (upd H p o) := fun a u e => by
  by_cases h : a = p
  · subst h
    rw [upd_same] at e ⊢
    exact e
  · rw [upd_ne h] at e ⊢
    exact k a u e
theorem free_of {G H : Hp} (k : Ex G H) {p : Addr} (h : H p = none) : G p = none := by
  cases q : G p with
  | none => rfl
  | some o =>
    rw [k p o q] at h
    cases h
theorem Nx.new {G H : Hp} {p : Addr} {o : HO} (k : Ex G H) (h : H p = none) : Nx G H (upd G p o) (upd H p o) :=
  ⟨Ex.new (free_of k h), Ex.new h, ex_both k, fun a h1 h2 => by
    by_cases e : a = p
    · subst e
      exact absurd h h2
    · rw [upd_ne e]
      exact h1⟩
/-! ### slots -/
inductive Sl where
  | no | d (x : Dt) | raw (v : V)
  | ud (a : Addr) (ks : List (List L2.Key)) (ds : List Dt) | kd (a : Addr) (ks : List (List L2.Key)) (ds : List Dt) | tk (xs : List Int)
inductive SlOk (K : PySem.W.Frag) (G : Hp) : Option V → Sl → Prop
  | no (o : Option V) : SlOk K G o .no
  | d {v : V} {x : Dt} (h : Rp K G v x) : SlOk K G (some v) (.d x)
  | raw (v : V) : SlOk K G (some v) (.raw v)
  | ud {a : Addr} {ks : List (List L2.Key)} {vs : List V} {ds : List Dt} (h : G a = some (.dT (ks.zip vs))) (r : Rps K G vs ds) (l : ks.length = vs.length) : SlOk K G (some (.ref a)) (.ud a ks ds)
  | kd {a : Addr} {ks : List (List L2.Key)} {vs : List V} {ds : List Dt} {o : Obj} (h : G a = some (.frz o (.dT (ks.zip vs)))) (r : Rps K G vs ds) (l : ks.length = vs.length) : SlOk K G (some (.ref a)) (.kd a ks ds)
  | tk {q : Addr} {xs : List Int} (h : G q = some (.tup (xs.map V.int))) : SlOk K G (some (.ref q)) (.tk xs)
abbrev FrD (K : PySem.W.Frag) (G : Hp) : L2.St → List Sl → Prop := Paired (SlOk K G)
theorem SlOk.mono {K : PySem.W.Frag} {G G2 : Hp} (e : Ex G G2) {o : Option V} {s : Sl} (h : SlOk K G o s) : SlOk K G2 o s := by
  cases h with
  | no => exact .no _
  | d h => exact .d (h.mono e)
  | raw => exact .raw _
  | ud h r l => exact .ud (e _ _ h) (r.mono e) l
  | kd h r l => exact .kd (e _ _ h) (r.mono e) l
  | tk h => exact .tk (e _ _ h)
theorem FrD.mono {K : PySem.W.Frag} {G G2 : Hp} (e : Ex G G2) {σ : L2.St} {sl : List Sl} (h : FrD K G σ sl) : FrD K G2 σ sl := Paired.mapP h fun _ _ z => z.mono e
theorem frd_get {K : PySem.W.Frag} {G : Hp} : ∀ {σ : L2.St} {sl : List Sl} {i : Nat} {x : Dt}, FrD K G σ sl → sl[i]? = some (.d x) → ∃ v, σ[i]? = some (some v) ∧ Rp K G v x
  | _, _, _, _, .nil, e => by simp at e
  | _, _, 0, _, .cons r _, e => by
    simp at e
    subst e
    cases r with
    | d h => exact ⟨_, rfl, h⟩
  | _, _, i + 1, _, .cons _ t, e => by
    obtain ⟨v, h1, h2⟩ := frd_get (i := i) t (by simpa using e)
    exact ⟨v, by simpa using h1, h2⟩
theorem frd_raw {K : PySem.W.Frag} {G : Hp} : ∀ {σ : L2.St} {sl : List Sl} {i : Nat} {x : V}, FrD K G σ sl → sl[i]? = some (.raw x) → σ[i]? = some (some x)
  | _, _, _, _, .nil, e => by simp at e
  | _, _, 0, _, .cons r _, e => by
    simp at e
    subst e
    cases r with
    | raw => rfl
  | _, _, i + 1, _, .cons _ t, e => by
    have h1 := frd_raw (i := i) t (by simpa using e)
    simpa using h1
theorem frd_set {K : PySem.W.Frag} {G : Hp} {s : Sl} {v : V} (hs : SlOk K G (some v) s) : ∀ {σ : L2.St} {sl : List Sl} (i : Nat), FrD K G σ sl → FrD K G (σ.set i (some v)) (sl.set i s)
  | _, _, _, .nil => .nil
  | _, _, 0, .cons _ t => .cons hs t
  | _, _, i + 1, .cons r t => .cons r (frd_set hs i t)
theorem frd_start {K : PySem.W.Frag} {G : Hp} : ∀ {vs : List V} {ds : List Dt} (n : Nat), Rps K G vs ds → FrD K G (vs.map some ++ List.replicate n none) (ds.map Sl.d ++ List.replicate n .no)
  | _, _, n, .nil => by
    induction n with
    | zero => exact .nil
    | succ n ih =>
      show FrD K G (List.replicate (n + 1) none) (List.replicate (n + 1) Sl.no)
      rw [List.replicate_succ, List.replicate_succ]
      exact .cons (.no _) (by simpa using ih)
  | _, _, n, .cons h r => .cons (.d h) (frd_start n r)
/-! ### what an expression gives, from the data in the slots -/
def Ev (K : PySem.W.Frag) (te : TE) (sl : List Sl) (x : Dt) : Prop := ∀ (G H : Hp) (σ : L2.St), Ex G H → FrD K G σ sl → ∀ Q : VK, (∀ v G2 H2, Nx G H G2 H2 → Rp K G2 v x → Q v H2) → te σ H Q
def EvT (K : PySem.W.Frag) (tt : TT) (sl : List Sl) (b : Bool) : Prop := ∀ (G H : Hp) (σ : L2.St), Ex G H → FrD K G σ sl → ∀ Q : Bool → Hp → Prop, (∀ G2 H2, Nx G H G2 H2 → Q b H2) → tt σ H Q
def EvA (K : PySem.W.Frag) (ta : TA) (sl : List Sl) (xs : List Dt) : Prop := ∀ (G H : Hp) (σ : L2.St), Ex G H → FrD K G σ sl → ∀ Q : List V → Hp → Prop, (∀ vs G2 H2, Nx G H G2 H2 → Rps K G2 vs xs → Q vs H2) → ta σ H Q
/-- two data by an operator's rule; one; a list of them by a built-in's -/
def R2D (K : PySem.W.Frag) (r : R2) (x y z : Dt) : Prop := ∀ (G H : Hp), Ex G H → ∀ v w, Rp K G v x → Rp K G w y → ∀ Q : VK, (∀ u G2 H2, Nx G H G2 H2 → Rp K G2 u z → Q u H2) → r v w H Q
def R1D (K : PySem.W.Frag) (r : V → Hp → VK → Prop) (x z : Dt) : Prop := ∀ (G H : Hp), Ex G H → ∀ v, Rp K G v x → ∀ Q : VK, (∀ u G2 H2, Nx G H G2 H2 → Rp K G2 u z → Q u H2) → r v H Q
def RcD (K : PySem.W.Frag) (r : List V → Hp → VK → Prop) (xs : List Dt) (z : Dt) : Prop := ∀ (G H : Hp), Ex G H → ∀ vs, Rps K G vs xs → ∀ Q : VK, (∀ u G2 H2, Nx G H G2 H2 → Rp K G2 u z → Q u H2) → r vs H Q
/-- what a def that changes nothing promises: R (its arguments' data) (its answer's data) -/
def spP (K : PySem.W.Frag) (R : List Dt → Dt → Prop) : Sp := fun vs H Q _ => ∃ (ds : List Dt) (x : Dt) (G : Hp), Ex G H ∧ Rps K G vs ds ∧ R ds x ∧ ∀ v G2 H2, Nx G H G2 H2 → Rp K G2 v x → Q v H2
/-- the same where it may raise an error of the class cls with no dict of its own -/
def spX (K : PySem.W.Frag) (R : List Dt → Dt → Prop) (X : List Dt → Value → Prop) : Sp := fun vs H Q E => ∃ (ds : List Dt) (G : Hp), Ex G H ∧ Rps K G vs ds ∧
  ((∃ x, R ds x ∧ ∀ v G2 H2, Nx G H G2 H2 → Rp K G2 v x → Q v H2) ∨ (∃ cls, X ds cls ∧ ∀ G2 H2, Nx G H G2 H2 → E cls none H2))
section
variable {K : PySem.W.Frag} {sl : List Sl} {ta tb te tc : TE} {t u : TT} {x y z : Dt} {r : R2}
theorem ev_var {i : Nat} (h : sl[i]? = some (.d x)) : Ev K (tVar i) sl x := fun G H σ k f Q q => by
  obtain ⟨v, h1, h2⟩ := frd_get f h
  exact ⟨v, h1, q v G H (.refl k) h2⟩
theorem ev_int {i : Int} : Ev K (tC (.int i)) sl (.int i) := fun G H σ k f Q q => q _ G H (.refl k) (.int i)
theorem ev_bl {b : Bool} : Ev K (tC (.bl b)) sl (.bl b) := fun G H σ k f Q q => q _ G H (.refl k) (.bl b)
theorem ev_str {s : Str} : Ev K (tC (.str s)) sl (.str s) := fun G H σ k f Q q => q _ G H (.refl k) (.str s)
theorem ev_non : Ev K (tC .non) sl .non := fun G H σ k f Q q => q _ G H (.refl k) .non
theorem ev_is (h : Ev K te sl x) (e : x = y) : Ev K te sl y := e ▸ h
theorem ev_op (ha : Ev K ta sl x) (hb : Ev K tb sl y) (hr : R2D K r x y z) : Ev K (tOp r ta tb) sl z := fun G H σ k f Q q =>
  ha G H σ k f _ fun v G1 H1 n1 r1 => hb G1 H1 σ n1.k (FrD.mono n1.g f) _ fun w G2 H2 n2 r2 => hr G2 H2 n2.k v w (r1.mono n2.g) r2 Q fun u G3 H3 n3 r3 => q u G3 H3 ((n1.trans n2).trans n3) r3
theorem ev_un {r : V → Hp → VK → Prop} (ha : Ev K ta sl x) (hr : R1D K r x z) : Ev K (tUn r ta) sl z := fun G H σ k f Q q =>
  ha G H σ k f _ fun v G1 H1 n1 r1 => hr G1 H1 n1.k v r1 Q fun u G2 H2 n2 r2 => q u G2 H2 (n1.trans n2) r2
theorem r2_I0 {g : Int → Int → V} {i j : Int} {d : Dt} (h : ∀ G, Rp K G (g i j) d) : R2D K (rI0 g) (.int i) (.int j) d := fun G H k v w r1 r2 Q q => by
  cases r1
  cases r2
  exact ⟨i, j, rfl, rfl, q _ G H (.refl k) (h G)⟩
theorem r2_I {C : Int → Int → Prop} {g : Int → Int → V} {i j : Int} {d : Dt} (hc : C i j) (h : ∀ G, Rp K G (g i j) d) : R2D K (rI C g) (.int i) (.int j) d := fun G H k v w r1 r2 Q q => by
  cases r1
  cases r2
  exact ⟨i, j, rfl, rfl, hc, q _ G H (.refl k) (h G)⟩
theorem r2_add {i j : Int} : R2D K (rI0 fun i j => .int (i + j)) (.int i) (.int j) (.int (i + j)) := r2_I0 fun _ => .int _
theorem r2_sub {i j : Int} : R2D K (rI0 fun i j => .int (i - j)) (.int i) (.int j) (.int (i - j)) := r2_I0 fun _ => .int _
theorem r2_lt {i j : Int} : R2D K (rI0 fun i j => .bl (decide (i < j))) (.int i) (.int j) (.bl (decide (i < j))) := r2_I0 fun _ => .bl _
theorem r2_le {i j : Int} : R2D K (rI0 fun i j => .bl (decide (i ≤ j))) (.int i) (.int j) (.bl (decide (i ≤ j))) := r2_I0 fun _ => .bl _
theorem r2_gt {i j : Int} : R2D K (rI0 fun i j => .bl (decide (j < i))) (.int i) (.int j) (.bl (decide (j < i))) := r2_I0 fun _ => .bl _
theorem r2_ge {i j : Int} : R2D K (rI0 fun i j => .bl (decide (j ≤ i))) (.int i) (.int j) (.bl (decide (j ≤ i))) := r2_I0 fun _ => .bl _
theorem r2_mul {C : Int → Int → Prop} {i j : Int} (h : C i j) : R2D K (rI C fun i j => .int (i * j)) (.int i) (.int j) (.int (i * j)) := r2_I h fun _ => .int _
theorem r2_mod {i j : Int} (h : j ≠ 0) : R2D K (rI (fun _ j => j ≠ 0) fun i j => .int (i.fmod j)) (.int i) (.int j) (.int (i.fmod j)) := r2_I (C := fun _ j => j ≠ 0) h fun _ => .int _
/-- // by a divisor not 0 below 2 ^ 9000 in size -/
def CDivA (_ j : Int) : Prop := j ≠ 0 ∧ j.natAbs.log2 < 9000
theorem r2_div {i j : Int} (h : CDivA i j) : R2D K (rI CDivA fun i j => .int (i.fdiv j)) (.int i) (.int j) (.int (i.fdiv j)) := r2_I h fun _ => .int _
theorem r2_pow {i j : Int} (h : CPow i j) : R2D K (rI CPow fun i j => .int (i ^ j.toNat)) (.int i) (.int j) (.int (i ^ j.toNat)) := r2_I h fun _ => .int _
theorem r1_neg {i : Int} : R1D K (rU fun i => .int (-i)) (.int i) (.int (-i)) := fun G H k v r Q q => by
  cases r
  exact ⟨i, rfl, q _ G H (.refl k) (.int _)⟩
/-- == and != of data -/
theorem r2_eq {p q : PyData} (hx : py x = some p) (hy : py y = some q) (sx : SeqAt.shaped p = true) (sy : SeqAt.shaped q = true) : R2D K (rEqD K) x y (.bl (PyData.eqv p q)) := fun G H k v w r1 r2 Q qq =>
  ⟨p, q, (r1.mono k).dp hx, (r2.mono k).dp hy, sx, sy, qq _ G H (.refl k) (.bl _)⟩
theorem r2_ne {p q : PyData} (hx : py x = some p) (hy : py y = some q) (sx : SeqAt.shaped p = true) (sy : SeqAt.shaped q = true) : R2D K (rNeD K) x y (.bl (!PyData.eqv p q)) := fun G H k v w r1 r2 Q qq =>
  ⟨p, q, (r1.mono k).dp hx, (r2.mono k).dp hy, sx, sy, qq _ G H (.refl k) (.bl _)⟩
theorem r2_eqI {i j : Int} : R2D K (rEqD K) (.int i) (.int j) (.bl (i == j)) := by
  have h := r2_eq (K := K) (x := .int i) (y := .int j) (p := .int i) (q := .int j) rfl rfl rfl rfl
  rwa [PyData.eqv] at h
theorem r2_neI {i j : Int} : R2D K (rNeD K) (.int i) (.int j) (.bl (!(i == j))) := by
  have h := r2_ne (K := K) (x := .int i) (y := .int j) (p := .int i) (q := .int j) rfl rfl rfl rfl
  rwa [PyData.eqv] at h
def isNon : Dt → Bool
  | .non => true
  | _ => false
theorem isNon_v {G : Hp} {v : V} (h : Rp K G v x) : decide (v = .non) = isNon x := by
  cases h <;> first | rfl | exact decide_eq_false (fun z => nomatch z)
theorem r2_isN : R2D K rIsN x .non (.bl (isNon x)) := fun G H k v w r1 r2 Q q => by
  cases r2
  refine ⟨rfl, ?_⟩
  rw [isNon_v r1]
  exact q _ G H (.refl k) (.bl _)
theorem r2_notN : R2D K rNotN x .non (.bl (!isNon x)) := fun G H k v w r1 r2 Q q => by
  cases r2
  refine ⟨rfl, ?_⟩
  rw [isNon_v r1]
  exact q _ G H (.refl k) (.bl _)
/-! subscripts -/
theorem at_get {vs : List V} {ds : List Dt} {G : Hp} {i : Int} (r : Rps K G vs ds) (h : atI ds i = some x) : ∃ v, atI vs i = some v ∧ Rp K G v x := by
  unfold atI at h ⊢
  rw [r.length]
  cases q : ixN ds.length i with
  | none => rw [q] at h; cases h
  | some j =>
    rw [q] at h
    exact r.get h
theorem r2_ixT {ds : List Dt} {i : Int} (h : atI ds i = some x) : R2D K (rIx K) (.tup ds) (.int i) x := fun G H k v w r1 r2 Q q => by
  cases r2
  cases r1 with
  | tup hs rs =>
    obtain ⟨v, h1, h2⟩ := at_get rs h
    exact .inr (.inl ⟨_, _, i, v, rfl, rfl, exT k hs, h1, q v G H (.refl k) h2⟩)
theorem r2_ixL {ds : List Dt} {i : Int} (h : atI ds i = some x) : R2D K (rIx K) (.lst ds) (.int i) x := fun G H k v w r1 r2 Q q => by
  cases r2
  cases r1 with
  | lst hs rs =>
    obtain ⟨v, h1, h2⟩ := at_get rs h
    exact .inl ⟨_, _, i, v, rfl, rfl, Evl.ex_l k hs, h1, q v G H (.refl k) h2⟩
/-! arguments, displays -/
theorem ea_nil : EvA K tNil sl [] := fun G H σ k f Q q => q _ G H (.refl k) .nil
theorem ea_cons {tr : TA} {xs : List Dt} (ha : Ev K ta sl x) (hr : EvA K tr sl xs) : EvA K (tCons ta tr) sl (x :: xs) := fun G H σ k f Q q =>
  ha G H σ k f _ fun v G1 H1 n1 r1 => hr G1 H1 σ n1.k (FrD.mono n1.g f) _ fun vs G2 H2 n2 r2 => q _ G2 H2 (n1.trans n2) (.cons (r1.mono n2.g) r2)
theorem sz_ok {n : Nat} (h : n ≤ 100000) : n ≤ sizeLine := Nat.le_trans h (by decide)
theorem ev_tup {tr : TA} {xs : List Dt} (h : EvA K tr sl xs) (hn : xs.length ≤ 100000 := by exact Nat.le_of_ble_eq_true rfl) : Ev K (tTup tr) sl (.tup xs) := fun G H σ k f Q q =>
  h G H σ k f _ fun vs G1 H1 n1 r1 => ⟨by rw [r1.length]; exact sz_ok hn, fun p o hp ho => q _ _ _ (n1.trans (.new n1.k hp)) (.tup (sqx_new ho) (r1.mono (Ex.new (free_of n1.k hp))))⟩
theorem ev_lst {tr : TA} {xs : List Dt} (h : EvA K tr sl xs) (hn : xs.length ≤ 100000 := by exact Nat.le_of_ble_eq_true rfl) : Ev K (tLst tr) sl (.lst xs) := fun G H σ k f Q q =>
  h G H σ k f _ fun vs G1 H1 n1 r1 => ⟨by rw [r1.length]; exact sz_ok hn, fun p hp => q _ _ _ (n1.trans (.new n1.k hp)) (.lst (.inl (.inl upd_same)) (r1.mono (Ex.new (free_of n1.k hp))))⟩
/-! calls -/
theorem rps_nil {G : Hp} {vs : List V} {ds : List Dt} (r : Rps K G vs ds) : Rps K G (vs ++ []) ds := by
  rw [List.append_nil]
  exact r
theorem ev_call {tr : TA} {xs : List Dt} {R : List Dt → Dt → Prop} {E : XK} (h : EvA K tr sl xs) (hr : R xs x) : Ev K (tCall (spP K R) [] E tr) sl x := fun G H σ k f Q q =>
  h G H σ k f _ fun vs G1 H1 n1 r1 => ⟨xs, x, G1, n1.k, rps_nil r1, hr, fun v G2 H2 n2 r2 => q v G2 H2 (n1.trans n2) r2⟩
theorem ev_callX {tr : TA} {xs : List Dt} {R : List Dt → Dt → Prop} {XF : List Dt → Value → Prop} {E : XK} (h : EvA K tr sl xs) (hr : R xs x) : Ev K (tCall (spX K R XF) [] E tr) sl x := fun G H σ k f Q q =>
  h G H σ k f _ fun vs G1 H1 n1 r1 => ⟨xs, G1, n1.k, rps_nil r1, .inl ⟨x, hr, fun v G2 H2 n2 r2 => q v G2 H2 (n1.trans n2) r2⟩⟩
theorem ev_cb {tr : TA} {xs : List Dt} {rc : List V → Hp → VK → Prop} (h : EvA K tr sl xs) (hr : RcD K rc xs x) : Ev K (tCB rc tr) sl x := fun G H σ k f Q q =>
  h G H σ k f _ fun vs G1 H1 n1 r1 => hr G1 H1 n1.k vs r1 Q fun u G2 H2 n2 r2 => q u G2 H2 (n1.trans n2) r2
def rAbs : List V → Hp → VK → Prop := fun xs H Q => ∃ i, xs = [.int i] ∧ Q (.int (if i < 0 then -i else i)) H
def rMax2 : List V → Hp → VK → Prop := fun vs H Q => ∃ a b, vs = [.int a, .int b] ∧ Q (.int (if b > a then b else a)) H
def rMin2 : List V → Hp → VK → Prop := fun xs H Q => ∃ i j, xs = [.int i, .int j] ∧ Q (.int (if j < i then j else i)) H
theorem rps1 {G : Hp} {vs : List V} {d : Dt} (r : Rps K G vs [d]) : ∃ v, vs = [v] ∧ Rp K G v d := by
  cases r with
  | cons h t => cases t; exact ⟨_, rfl, h⟩
theorem rps2 {G : Hp} {vs : List V} {d e : Dt} (r : Rps K G vs [d, e]) : ∃ v w, vs = [v, w] ∧ Rp K G v d ∧ Rp K G w e := by
  cases r with
  | cons h t =>
    obtain ⟨w, rfl, h2⟩ := rps1 t
    exact ⟨_, _, rfl, h, h2⟩
theorem rc_abs {i : Int} : RcD K rAbs [.int i] (.int (i.natAbs : Int)) := fun G H k vs r Q q => by
  obtain ⟨v, rfl, h⟩ := rps1 r
  cases h
  refine ⟨i, rfl, ?_⟩
  have e : (if i < 0 then -i else i) = (i.natAbs : Int) := by split <;> omega
  rw [e]
  exact q _ G H (.refl k) (.int _)
theorem rc_max {i j : Int} : RcD K rMax2 [.int i, .int j] (.int (max i j)) := fun G H k vs r Q q => by
  obtain ⟨v, w, rfl, h1, h2⟩ := rps2 r
  cases h1
  cases h2
  refine ⟨i, j, rfl, ?_⟩
  have e : (if j > i then j else i) = max i j := by split <;> omega
  rw [e]
  exact q _ G H (.refl k) (.int _)
theorem rc_min {i j : Int} : RcD K rMin2 [.int i, .int j] (.int (min i j)) := fun G H k vs r Q q => by
  obtain ⟨v, w, rfl, h1, h2⟩ := rps2 r
  cases h1
  cases h2
  refine ⟨i, j, rfl, ?_⟩
  have e : (if j < i then j else i) = min i j := by split <;> omega
  rw [e]
  exact q _ G H (.refl k) (.int _)
theorem rc_gcd {i j : Int} : RcD K rGcd [.int i, .int j] (.int ((Nat.gcd i.natAbs j.natAbs : Nat) : Int)) := fun G H k vs r Q q => by
  obtain ⟨v, w, rfl, h1, h2⟩ := rps2 r
  cases h1
  cases h2
  exact ⟨i, j, rfl, q _ G H (.refl k) (.int _)⟩
def rLenS (K : PySem.W.Frag) : List V → Hp → VK → Prop := fun vs H Q => ∃ a xs, vs = [.ref a] ∧ (SqL K H a xs ∨ SqT K H a xs) ∧ Q (.int xs.length) H
theorem rc_lenT {ds : List Dt} : RcD K (rLenS K) [.tup ds] (.int (ds.length : Int)) := fun G H k vs r Q q => by
  obtain ⟨v, rfl, h⟩ := rps1 r
  cases h with
  | tup hs rs =>
    refine ⟨_, _, rfl, .inr (exT k hs), ?_⟩
    rw [rs.length]
    exact q _ G H (.refl k) (.int _)
theorem rc_lenL {ds : List Dt} : RcD K (rLenS K) [.lst ds] (.int (ds.length : Int)) := fun G H k vs r Q q => by
  obtain ⟨v, rfl, h⟩ := rps1 r
  cases h with
  | lst hs rs =>
    refine ⟨_, _, rfl, .inl (Evl.ex_l k hs), ?_⟩
    rw [rs.length]
    exact q _ G H (.refl k) (.int _)
/-! isinstance -/
def tyN : Dt → String
  | .non => "NoneType" | .bl _ => "bool" | .int _ => "int" | .str _ => "str" | .tup _ => "tuple" | .lst _ => "list" | .dct => "dict"
theorem tyx_of {H : Hp} {v : V} (h : Rp K H v x) : TyX K H v (.type (tyN x)) := by
  cases h with
  | non => exact .base .non
  | bl b => exact .base (.bl b)
  | int i => exact .base (.int i)
  | str s => exact .base (.str s)
  | tup hs _ =>
    rcases hs with ⟨o, h, _⟩ | ⟨o, its, n, hl, hc, _⟩
    · exact .fTuple h
    · exact .kTuple hl hc
  | lst hs _ =>
    rcases hs with (h | ⟨o, h⟩) | ⟨o, its, n, hl, hc, _⟩
    · exact .base (.lst h)
    · exact .base (.frz h)
    · exact .kList hl hc
  | dct h => exact .base (.dK h)
theorem ev_isi {n : String} {b : Bool} (h : Ev K ta sl x) (hb : kitB (tyN x) n = some b) : Ev K (tCB (rIsi K) (tCons ta (tCons (tC (.ty n)) tNil))) sl (.bl b) := fun G H σ k f Q q =>
  h G H σ k f _ fun v G1 H1 n1 r1 => ⟨v, .ty n, _, _, b, rfl, .ty n, tyx_of (r1.mono n1.k), kit_ty hb, q _ G1 H1 n1 (.bl b)⟩
theorem kb_ii : kitB "int" "int" = some true := by decide +kernel
theorem kb_ib : kitB "int" "bool" = some false := by decide +kernel
theorem kb_tt : kitB "tuple" "tuple" = some true := by decide +kernel
theorem kb_bb : kitB "bool" "bool" = some true := by decide +kernel
/-! tests, and | or | not -/
theorem et_test {b : Bool} (h : Ev K te sl (.bl b)) : EvT K (tTest te) sl b := fun G H σ k f Q q => h G H σ k f _ fun v G1 H1 n1 r1 => by
  cases r1
  exact ⟨b, rfl, q G1 H1 n1⟩
theorem et_B {b : Bool} (h : Ev K te sl (.bl b)) : EvT K (tB te) sl b := fun G H σ k f Q q => h G H σ k f _ fun v G1 H1 n1 r1 => by
  cases r1
  exact ⟨b, rfl, q G1 H1 n1⟩
theorem et_is {a b : Bool} (h : EvT K t sl a) (e : a = b) : EvT K t sl b := e ▸ h
theorem et_and {a b : Bool} (h1 : EvT K t sl a) (h2 : a = true → EvT K u sl b) : EvT K (tAnd t u) sl (a && b) := fun G H σ k f Q q => h1 G H σ k f _ fun G1 H1 n1 => by
  cases a with
  | true =>
    show u σ H1 Q
    exact h2 rfl G1 H1 σ n1.k (FrD.mono n1.g f) Q fun G2 H2 n2 => q G2 H2 (n1.trans n2)
  | false => exact q G1 H1 n1
theorem et_or {a b : Bool} (h1 : EvT K t sl a) (h2 : a = false → EvT K u sl b) : EvT K (tOr t u) sl (a || b) := fun G H σ k f Q q => h1 G H σ k f _ fun G1 H1 n1 => by
  cases a with
  | true => exact q G1 H1 n1
  | false =>
    show u σ H1 Q
    exact h2 rfl G1 H1 σ n1.k (FrD.mono n1.g f) Q fun G2 H2 n2 => q G2 H2 (n1.trans n2)
theorem et_not {a : Bool} (h : EvT K t sl a) : EvT K (tNot t) sl (!a) := fun G H σ k f Q q => h G H σ k f _ fun G1 H1 n1 => q G1 H1 n1
theorem ev_andV {a b : Bool} (h1 : Ev K ta sl (.bl a)) (h2 : a = true → Ev K tb sl (.bl b)) : Ev K (tAndV ta tb) sl (.bl (a && b)) := fun G H σ k f Q q => h1 G H σ k f _ fun v G1 H1 n1 r1 => by
  cases r1
  refine ⟨a, rfl, ?_⟩
  cases a with
  | true =>
    show tb σ H1 Q
    exact h2 rfl G1 H1 σ n1.k (FrD.mono n1.g f) Q fun v G2 H2 n2 => q v G2 H2 (n1.trans n2)
  | false => exact q _ G1 H1 n1 (.bl _)
theorem ev_orV {a b : Bool} (h1 : Ev K ta sl (.bl a)) (h2 : a = false → Ev K tb sl (.bl b)) : Ev K (tOrV ta tb) sl (.bl (a || b)) := fun G H σ k f Q q => h1 G H σ k f _ fun v G1 H1 n1 r1 => by
  cases r1
  refine ⟨a, rfl, ?_⟩
  cases a with
  | true => exact q _ G1 H1 n1 (.bl _)
  | false =>
    show tb σ H1 Q
    exact h2 rfl G1 H1 σ n1.k (FrD.mono n1.g f) Q fun v G2 H2 n2 => q v G2 H2 (n1.trans n2)
theorem ev_notV {a : Bool} (h1 : Ev K ta sl (.bl a)) : Ev K (tNotV ta) sl (.bl (!a)) := fun G H σ k f Q q => h1 G H σ k f _ fun v G1 H1 n1 r1 => by
  cases r1
  exact ⟨a, rfl, q _ G1 H1 n1 (.bl _)⟩
end
/-! ### statements that change nothing but slots: Nt goes on with other slots, Rt hands back -/
def Nt (K : PySem.W.Frag) (ts : TS) (sl sl2 : List Sl) : Prop := ∀ (G H : Hp) (σ : L2.St), Ex G H → FrD K G σ sl → ∀ D : Ends, (∀ σ2 G2 H2, Nx G H G2 H2 → FrD K G2 σ2 sl2 → D.nx σ2 H2) → ts D σ H
def Rt (K : PySem.W.Frag) (ts : TS) (sl : List Sl) (x : Dt) : Prop := ∀ (G H : Hp) (σ : L2.St), Ex G H → FrD K G σ sl → ∀ D : Ends, (∀ v G2 H2, Nx G H G2 H2 → Rp K G2 v x → D.rt v H2) → ts D σ H
section
variable {K : PySem.W.Frag} {sl sl1 sl2 : List Sl} {te : TE} {tc : TT} {x y : Dt} {t u : TS}
theorem nt_next : Nt K tNext sl sl := fun G H σ k f D q => q σ G H (.refl k) f
theorem nt_asg {i : Nat} (h : Ev K te sl x) : Nt K (tAsg te (gName i)) sl (sl.set i (.d x)) := fun G H σ k f D q =>
  h G H σ k f _ fun v G1 H1 n1 r1 => q _ G1 H1 n1 (frd_set (.d r1) i (FrD.mono n1.g f))
theorem nt_par {i j : Nat} {ta : TA} (h : EvA K ta sl [x, y]) : Nt K (tPar i j ta) sl ((sl.set i (.d x)).set j (.d y)) := fun G H σ k f D q =>
  h G H σ k f _ fun vs G1 H1 n1 r1 => by
    obtain ⟨v, w, rfl, h1, h2⟩ := rps2 r1
    exact ⟨v, w, rfl, q _ G1 H1 n1 (frd_set (.d h2) j (frd_set (.d h1) i (FrD.mono n1.g f)))⟩
/-- a, b = a pair -/
theorem nt_unp {i j : Nat} (h : Ev K te sl (.tup [x, y])) : Nt K (tAsg te (gTup K 2 (gCons (gName i) (gCons (gName j) gNil)))) sl ((sl.set i (.d x)).set j (.d y)) := fun G H σ k f D q =>
  h G H σ k f _ fun v G1 H1 n1 r1 => by
    cases r1 with
    | tup hs rs =>
      obtain ⟨v, w, rfl, h1, h2⟩ := rps2 rs
      exact ⟨_, _, rfl, exT n1.k hs, rfl, v, [w], rfl, w, [], rfl, rfl, q _ G1 H1 n1 (frd_set (.d h2) j (frd_set (.d h1) i (FrD.mono n1.g f)))⟩
theorem nt_drop (h : Ev K te sl x) : Nt K (tDrop te) sl sl := fun G H σ k f D q => h G H σ k f _ fun v G1 H1 n1 r1 => q _ G1 H1 n1 (FrD.mono n1.g f)
theorem rt_seq (h1 : Nt K t sl sl1) (h2 : Rt K u sl1 x) : Rt K (tSeq t u) sl x := fun G H σ k f D q =>
  h1 G H σ k f _ fun σ1 G1 H1 n1 f1 => h2 G1 H1 σ1 n1.k f1 D fun v G2 H2 n2 r2 => q v G2 H2 (n1.trans n2) r2
theorem rt_ret (h : Ev K te sl x) : Rt K (tRet te) sl x := fun G H σ k f D q => h G H σ k f _ q
theorem rt_is (h : Rt K t sl x) (e : x = y) : Rt K t sl y := e ▸ h
theorem nt_is (h : Nt K t sl sl1) (e : sl1 = sl2) : Nt K t sl sl2 := e ▸ h
theorem nt_if {b : Bool} (h : EvT K tc sl b) (h1 : b = true → Nt K t sl sl2) (h2 : b = false → Nt K u sl sl2) : Nt K (tIfS tc t u) sl sl2 := fun G H σ k f D q => h G H σ k f _ fun G1 H1 n1 => by
  cases b with
  | true =>
    show t D σ H1
    exact h1 rfl G1 H1 σ n1.k (FrD.mono n1.g f) D fun σ2 G2 H2 n2 => q σ2 G2 H2 (n1.trans n2)
  | false =>
    show u D σ H1
    exact h2 rfl G1 H1 σ n1.k (FrD.mono n1.g f) D fun σ2 G2 H2 n2 => q σ2 G2 H2 (n1.trans n2)
/-- if c: .. return; then the rest -/
theorem rt_cond {b : Bool} (h : EvT K tc sl b) (h1 : b = true → Rt K t sl x) (h2 : b = false → Rt K u sl x) : Rt K (tSeq (tIfS tc t tNext) u) sl x := fun G H σ k f D q => h G H σ k f _ fun G1 H1 n1 => by
  cases b with
  | true =>
    show t { D with nx := u D } σ H1
    exact h1 rfl G1 H1 σ n1.k (FrD.mono n1.g f) _ fun v G2 H2 n2 => q v G2 H2 (n1.trans n2)
  | false =>
    show u D σ H1
    exact h2 rfl G1 H1 σ n1.k (FrD.mono n1.g f) D fun v G2 H2 n2 => q v G2 H2 (n1.trans n2)
/-- the test is never true, the rest hands back -/
theorem rt_no {b : Bool} (h : EvT K tc sl b) (e : b = false) (k : Rt K u sl x) : Rt K (tSeq (tIfS tc t tNext) u) sl x := by
  subst e
  exact rt_cond h (fun z => by cases z) fun _ => k
theorem rt_yes {b : Bool} (h : EvT K tc sl b) (e : b = true) (k : Rt K t sl x) : Rt K (tSeq (tIfS tc t tNext) u) sl x := by
  subst e
  exact rt_cond h (fun _ => k) fun z => by cases z
/-- a while whose slots are told by a state: I holds, μ falls -/
theorem nt_while {α : Type} (S : α → List Sl) (I : α → Prop) (μ : α → Nat) (a0 : α) (i0 : I a0) (e0 : sl = S a0)
    (hs : ∀ a, I a → ∃ b, EvT K tc (S a) b ∧ (b = true → ∃ a', I a' ∧ μ a' < μ a ∧ Nt K t (S a) (S a')) ∧ (b = false → S a = sl2)) : Nt K (tWhile tc t) sl sl2 := fun G H σ k f D q => by
  subst e0
  refine ⟨fun m σ' H' => ∃ a G', m = μ a ∧ I a ∧ Nx G H G' H' ∧ FrD K G' σ' (S a), ⟨μ a0, a0, G, rfl, i0, .refl k, f⟩, ?_⟩
  rintro m σ1 H1 ⟨a, G1, rfl, ia, n1, f1⟩
  obtain ⟨b, hb, ht, hf⟩ := hs a ia
  refine hb G1 H1 σ1 n1.k f1 _ fun G2 H2 n2 => ?_
  cases b with
  | true =>
    obtain ⟨a', ia', lt, nt⟩ := ht rfl
    refine ⟨fun σ' H' => ∃ G', Nx G H G' H' ∧ FrD K G' σ' (S a'), fun σ' H' ⟨G', n', f'⟩ => ⟨μ a', lt, a', G', rfl, ia', n', f'⟩, ?_⟩
    exact nt G2 H2 σ1 n2.k (FrD.mono n2.g f1) _ fun σ3 G3 H3 n3 f3 => ⟨G3, (n1.trans n2).trans n3, f3⟩
  | false =>
    show D.nx σ1 H2
    have e := hf rfl
    rw [e] at f1
    exact q σ1 G2 H2 (n1.trans n2) (FrD.mono n2.g f1)
end
/-! ### a def by its body -/
/-- a def of the module -/
structure Dd (K : PySem.W.Frag) (mg : Str → Option Value) (x : Str) (st : Stmt) (ps : List Str) : Prop where
  ex : ∃ (f : Addr) (fd : FuncData), Fun K x x st f fd ∧ mg x = some (.ref f) ∧ Binds K fd ps []
/-- a def that may be called by its name -/
structure Has (P : Program) (w : World) (K : PySem.W.Frag) (mg : Str → Option Value) (base : Heap) (CX : CXT) (k : Nat) (x : Str) (ps : List Str) (sp : Sp) : Prop where
  ex : ∃ (f : Addr) (fd : FuncData), FnOk P w K mg base CX k f fd ps sp ∧ mg x = some (.ref f) ∧ PySem.W.keepIn K (.ref f) = true ∧ Binds K fd ps []
section
variable {P : Program} {w : World} {K : PySem.W.Frag} {mg : Str → Option Value} {base : Heap} {x : Str} {st : Stmt} {N ps : List Str} {k : Nat}
theorem start_ok {G : Hp} {vs : List V} {ds : List Dt} (r : Rps K G vs ds) (hl : ds.length = ps.length) : FrD K G (L2.start N vs) (ds.map Sl.d ++ List.replicate (N.length - ps.length) .no) := by
  unfold L2.start
  rw [r.length, hl]
  exact frd_start _ r
/-- a def that changes nothing and hands back on every way -/
theorem Dd.pure {R : List Dt → Dt → Prop} {t : TS} (D : Dd K mg x st ps) (S : FnScope N ps (defScope st)) (hl : ∀ ds d, R ds d → ds.length = ps.length)
    (h1 : ∀ (f : Addr) (cdv : Value) (A : Around) (outer : List Env) (s : Shared) (H : Hp) (E : XK), Room k (A.deeper (envOfC x (defScope st) s.heap.objs.size f cdv)) → PSs (cxOf CX0 P w K mg base N x (defScope st) f cdv A outer s H E).nox (defBody st) t)
    (h2 : ∀ ds d, R ds d → Rt K t (ds.map Sl.d ++ List.replicate (N.length - ps.length) .no) d) : Has P w K mg base CX0 (k + 1) x ps (spP K R) := by
  obtain ⟨f, fd, F, hm, b⟩ := D.ex
  refine ⟨f, fd, F.ok S (fun vs H Q E h => ?_) (fun cdv A outer s H vs Q E hr h => ⟨t, h1 f cdv A outer s H E hr, ?_⟩), hm, F.kp, b⟩
  · obtain ⟨ds, d, G, _, r, hR, _⟩ := h
    rw [r.length]
    exact hl ds d hR
  · obtain ⟨ds, d, G, kG, r, hR, q⟩ := h
    exact h2 ds d hR G H _ kG (start_ok r (hl ds d hR)) _ q
theorem rps_ints {H : Hp} : ∀ ns : List Int, Rps K H (ns.map V.int) (ns.map Dt.int)
  | [] => .nil
  | n :: r => .cons (.int n) (rps_ints r)
/-- any promise -/
theorem Dd.any {sp : Sp} {t : TS} (D : Dd K mg x st ps) (S : FnScope N ps (defScope st)) (hl : ∀ vs H Q E, sp vs H Q E → vs.length = ps.length)
    (h1 : ∀ (f : Addr) (cdv : Value) (A : Around) (outer : List Env) (s : Shared) (H : Hp) (E : XK), Room k (A.deeper (envOfC x (defScope st) s.heap.objs.size f cdv)) → PSs (cxOf CX0 P w K mg base N x (defScope st) f cdv A outer s H E).nox (defBody st) t)
    (h2 : ∀ vs H Q E, sp vs H Q E → t { nx := fun _ H' => Q .non H', rt := Q } (L2.start N vs) H) : Has P w K mg base CX0 (k + 1) x ps sp := by
  obtain ⟨f, fd, F, hm, b⟩ := D.ex
  exact ⟨f, fd, F.ok S hl (fun cdv A outer s H vs Q E hr h => ⟨t, h1 f cdv A outer s H E hr, h2 vs H Q E h⟩), hm, F.kp, b⟩
end
section
variable {X : Cx} {CX : CXT} {k j : Nat} {x : Str} {ps : List Str} {sp : Sp} {p pos : Pos} {e : Expr} {es : List Expr} {t : TA} {E : XK}
theorem pe_h (c : Has X.prog X.w X.K X.mg X.base CX k x ps sp) (hr : Room j X.A) (hk : k ≤ j) (hx : Passes CX X E) (ha : PA X (e :: es) t) (hg : Gl X x := by rfl)
    (hdb : (x == ("__debug__" : Str)) = false := by decide) (he : starEach (e :: es) X.env = (false, eval e X.env) :: starEach es X.env := by rfl) (hpl : (backTo pos (starEach es X.env)).any (·.1) = false := by rfl) :
    PE X (.Call (.Name x p) (e :: es) [] pos) (tCall sp [] E t) := by
  obtain ⟨f, fd, F, hm, kp, b⟩ := c.ex
  exact pe_call F (hr.mono hk) hg hm kp b .nil hx ha hdb he hpl
theorem op_fdivA : OpR X (binaryOp .FloorDiv) (rI CDivA fun i j => .int (i.fdiv j)) := opI fun i j _ _ _ _ _ hc q => floordiv_int hc.1 q (.inl (PyProof.noPylong_of_log2 hc.2))
theorem op_mulA : OpR X (binaryOp .Mult) (rI IntMulOk fun i j => .int (i * j)) := opI fun _ _ _ _ _ _ _ hc q => mul_int q hc
theorem ixK {K : PySem.W.Frag} (e : X.K = K) : IxR X (rIx K) := e ▸ ix_seq
theorem eqK {K : PySem.W.Frag} (e : X.K = K) (hu : X.A.units + 64 < cLine) : OpR X (compareOp .Eq) (rEqD K) := e ▸ op_eqD hu
theorem neK {K : PySem.W.Frag} (e : X.K = K) (hu : X.A.units + 64 < cLine) : OpR X (compareOp .NotEq) (rNeD K) := e ▸ op_neD hu
theorem lenK {K : PySem.W.Frag} (e : X.K = K) : CallR X (.builtin "len") (rLenS K) := e ▸ call_len_seq
theorem isiK {K : PySem.W.Frag} (e : X.K = K) : CallR X (.builtin "isinstance") (rIsi K) := e ▸ call_isi
theorem lstK {K : PySem.W.Frag} {tg l : Expr} {tl : TE} (e : X.K = K) (hl : PE X l tl) : PI X tg l (iList K tl) := e ▸ pi_list hl
theorem tupK {K : PySem.W.Frag} {es : List Expr} {k : Nat} {t : TGs} {n : Nat} {pos : Pos} (e : X.K = K) (hc : X.calm = true) (h : PGs X es t) (hn : (assignEach es X.env).length = n := by rfl) (hst : (assignEach es X.env).findIdx? (·.1) = none := by rfl) : PG X (.Tuple es k pos) (gTup K n t) := e ▸ pg_tup hc h hn hst
theorem cr_abs : CallR X (.builtin "abs") rAbs := call_abs
theorem cr_max (hc : X.calm = true) : CallR X (.builtin "max") rMax2 := call_max2 hc
theorem cr_min (hc : X.calm = true) : CallR X (.builtin "min") rMin2 := call_min2 hc
def rIsqrt : List V → Hp → VK → Prop := fun vs H Q => ∃ a : Int, vs = [.int a] ∧ 0 ≤ a ∧ a.toNat.log2 < 13000 ∧ Q (.int ((PySem.Float64.isqrt a.toNat : Nat) : Int)) H
theorem cr_isqrt : CallR X (.builtin "math.isqrt") rIsqrt := by
  intro pins s σ H vs us Q I r h
  obtain ⟨a, rfl, h0, h1, q⟩ := h
  obtain ⟨u, rfl, t, rfl⟩ := vals1 r
  exact call_function_meets PySem.W.MGF.kind_isqrt PySem.W.MGF.plain_isqrt PySem.W.MGF.entry_isqrt (PySem.W.MGF.args_isqrt _) (PySem.W.mg_run_isqrt a t (by omega) (by omega) (by omega)).meets ⟨.int _, H, I.tok _, ⟨_, rfl⟩, q⟩
end
end Z
namespace Z
open PySem PySem.Spec PyProof.Rows L2
open Evl (Ex)
/-! ### pots: lists of one int, at addresses that are not known for good -/
def Pots (ps : List Addr) (G H : Hp) : Prop := ∀ p ∈ ps, G p = none ∧ ∃ n : Int, H p = some (.lst [.int n])
structure NxP (ps : List Addr) (G H G2 H2 : Hp) : Prop where
  g : Ex G G2
  k : Ex G2 H2
  h : ∀ a o, a ∉ ps → H a = some o → H2 a = some o
  t : ∀ a, H a ≠ none → H2 a ≠ none
  f : ∀ a, G a = none → H a ≠ none → G2 a = none
theorem NxP.refl {ps : List Addr} {G H : Hp} (k : Ex G H) : NxP ps G H G H := ⟨Ex.refl G, k, fun _ _ _ h => h, fun _ h => h, fun _ h _ => h⟩
theorem NxP.trans {ps : List Addr} {G H G2 H2 G3 H3 : Hp} (a : NxP ps G H G2 H2) (b : NxP ps G2 H2 G3 H3) : NxP ps G H G3 H3 :=
  ⟨a.g.trans b.g, b.k, fun x o hx e => b.h x o hx (a.h x o hx e), fun x h => b.t x (a.t x h), fun x h1 h2 => b.f x (a.f x h1 h2) (a.t x h2)⟩
theorem Nx.p {ps : List Addr} {G H G2 H2 : Hp} (n : Nx G H G2 H2) : NxP ps G H G2 H2 := ⟨n.g, n.k, fun a o _ e => n.h a o e, fun _ h => ne_none n.h h, n.f⟩
theorem NxP.nx {G H G2 H2 : Hp} (n : NxP [] G H G2 H2) : Nx G H G2 H2 := ⟨n.g, fun a o e => n.h a o (by simp) e, n.k, n.f⟩
theorem Pots.nx {ps : List Addr} {G H G2 H2 : Hp} (m : Pots ps G H) (n : Nx G H G2 H2) : Pots ps G2 H2 := fun p hp => by
  obtain ⟨h1, i, h2⟩ := m p hp
  exact ⟨n.f p h1 (by rw [h2]; intro z; cases z), i, n.h p _ h2⟩
theorem Pots.nil {G H : Hp} : Pots [] G H := fun p hp => by cases hp
/-! ### promises of defs that draw from a pot -/
/-- hands back a new pot -/
def spNew (K : PySem.W.Frag) (C : List Dt → Prop) : Sp := fun vs H Q _ => ∃ (ds : List Dt) (G : Hp), Ex G H ∧ Rps K G vs ds ∧ C ds ∧
  ∀ p n G2 H2, Nx G H G2 H2 → H p = none → G2 p = none → H2 p = some (.lst [.int n]) → Q (.ref p) H2
/-- a number from 0 up to far -/
def spTake : Sp := fun vs H Q _ => ∃ (p : Addr) (n f : Int), vs = [.ref p, .int f] ∧ H p = some (.lst [.int n]) ∧ 0 < f ∧ f.natAbs.log2 < 9000 ∧
  ∀ m n' : Int, 0 ≤ m → m < f → Q (.int m) (upd H p (.lst [.int n']))
/-- what R tells may come, drawn from the pot that is handed in first -/
def spM (K : PySem.W.Frag) (C : List Dt → Prop) (R : List Dt → Dt → Prop) : Sp := fun vs H Q _ => ∃ (p : Addr) (ws : List V) (ds : List Dt) (G : Hp), vs = .ref p :: ws ∧ Ex G H ∧ Rps K G ws ds ∧ C ds ∧ Pots [p] G H ∧
  ∀ v x G2 H2, R ds x → NxP [p] G H G2 H2 → Pots [p] G2 H2 → Rp K G2 v x → Q v H2
/-! ### expressions, where pots may be drawn from: what may come is R -/
def Ep (K : PySem.W.Frag) (te : TE) (sl : List Sl) (ps : List Addr) (R : Dt → Prop) : Prop := ∀ (G H : Hp) (σ : L2.St), Ex G H → FrD K G σ sl → Pots ps G H → ∀ Q : VK, (∀ v x G2 H2, R x → NxP ps G H G2 H2 → Pots ps G2 H2 → Rp K G2 v x → Q v H2) → te σ H Q
def EpA (K : PySem.W.Frag) (ta : TA) (sl : List Sl) (ps : List Addr) (R : List Dt → Prop) : Prop := ∀ (G H : Hp) (σ : L2.St), Ex G H → FrD K G σ sl → Pots ps G H → ∀ Q : List V → Hp → Prop, (∀ vs xs G2 H2, R xs → NxP ps G H G2 H2 → Pots ps G2 H2 → Rps K G2 vs xs → Q vs H2) → ta σ H Q
section
variable {K : PySem.W.Frag} {sl : List Sl} {ps : List Addr} {ta tb te tc : TE} {x y z : Dt} {r : R2} {R : Dt → Prop} {RA : List Dt → Prop} {tr : TA}
theorem ep_ev (h : Ev K te sl x) (hR : R x) : Ep K te sl ps R := fun G H σ k f m Q q => h G H σ k f Q fun v G2 H2 n r => q v x G2 H2 hR n.p (m.nx n) r
theorem ep_op (h : Ep K ta sl ps fun x => Ep K tb sl ps fun y => ∃ z, R2D K r x y z ∧ R z) : Ep K (tOp r ta tb) sl ps R := fun G H σ k f m Q q =>
  h G H σ k f m _ fun v x G1 H1 h1 n1 m1 r1 => h1 G1 H1 σ n1.k (FrD.mono n1.g f) m1 _ fun w y G2 H2 ⟨z, hr, hR⟩ n2 m2 r2 => hr G2 H2 n2.k v w (r1.mono n2.g) r2 Q fun u G3 H3 n3 r3 => q u z G3 H3 hR ((n1.trans n2).trans n3.p) (m2.nx n3) r3
theorem epa_nil (h : RA []) : EpA K tNil sl ps RA := fun G H σ k f m Q q => q _ _ G H h (.refl k) m .nil
theorem epa_cons (h : Ep K ta sl ps fun x => EpA K tr sl ps fun xs => RA (x :: xs)) : EpA K (tCons ta tr) sl ps RA := fun G H σ k f m Q q =>
  h G H σ k f m _ fun v x G1 H1 h1 n1 m1 r1 => h1 G1 H1 σ n1.k (FrD.mono n1.g f) m1 _ fun vs xs G2 H2 h2 n2 m2 r2 => q _ _ G2 H2 h2 (n1.trans n2) m2 (.cons (r1.mono n2.g) r2)
theorem epa_ev {xs : List Dt} (h : EvA K tr sl xs) (hR : RA xs) : EpA K tr sl ps RA := fun G H σ k f m Q q => h G H σ k f Q fun v G2 H2 n r => q v xs G2 H2 hR n.p (m.nx n) r
theorem ep_tup (h : EpA K tr sl ps fun xs => xs.length ≤ 100000 ∧ R (.tup xs)) : Ep K (tTup tr) sl ps R := fun G H σ k f m Q q =>
  h G H σ k f m _ fun vs xs G1 H1 ⟨hn, hR⟩ n1 m1 r1 => ⟨by rw [r1.length]; exact sz_ok hn, fun p o hp ho => q _ _ _ _ hR (n1.trans (Nx.new n1.k hp).p) (m1.nx (Nx.new n1.k hp)) (.tup (sqx_new ho) (r1.mono (Ex.new (free_of n1.k hp))))⟩
theorem ep_lst (h : EpA K tr sl ps fun xs => xs.length ≤ 100000 ∧ R (.lst xs)) : Ep K (tLst tr) sl ps R := fun G H σ k f m Q q =>
  h G H σ k f m _ fun vs xs G1 H1 ⟨hn, hR⟩ n1 m1 r1 => ⟨by rw [r1.length]; exact sz_ok hn, fun p hp => q _ _ _ _ hR (n1.trans (Nx.new n1.k hp).p) (m1.nx (Nx.new n1.k hp)) (.lst (.inl (.inl upd_same)) (r1.mono (Ex.new (free_of n1.k hp))))⟩
theorem ep_call {RF : List Dt → Dt → Prop} {E : XK} (h : EpA K tr sl ps fun xs => ∃ x, RF xs x ∧ R x) : Ep K (tCall (spP K RF) [] E tr) sl ps R := fun G H σ k f m Q q =>
  h G H σ k f m _ fun vs xs G1 H1 ⟨x, hr, hR⟩ n1 m1 r1 => ⟨xs, x, G1, n1.k, rps_nil r1, hr, fun v G2 H2 n2 r2 => q v x G2 H2 hR (n1.trans n2.p) (m1.nx n2) r2⟩
/-- a draw -/
theorem ep_take {i : Nat} {p : Addr} {E : XK} (hi : sl[i]? = some (.raw (.ref p))) (hp : p ∈ ps) (h : Ep K tb sl ps fun y => ∃ f : Int, y = .int f ∧ 0 < f ∧ f.natAbs.log2 < 9000 ∧ ∀ m : Int, 0 ≤ m → m < f → R (.int m)) :
    Ep K (tCall spTake [] E (tCons (tVar i) (tCons tb tNil))) sl ps R := fun G H σ k f m Q q => by
  refine ⟨.ref p, frd_raw f hi, ?_⟩
  refine h G H σ k f m _ fun w y G1 H1 ⟨fr, ey, h0, h9, hR⟩ n1 m1 r1 => ?_
  subst ey
  cases r1
  obtain ⟨gp, n, hn⟩ := m1 p hp
  refine ⟨p, n, fr, rfl, hn, h0, h9, fun a n' a0 a1 => ?_⟩
  refine q _ _ G1 (upd H1 p (.lst [.int n'])) (hR a a0 a1) (n1.trans ⟨Ex.refl _, fun b o e => ?_, fun b o hb e => ?_, fun b hb => ?_, fun b e _ => e⟩) (fun c hc => ?_) (.int _)
  · have nb : b ≠ p := fun z => by
      rw [z, gp] at e
      cases e
    rw [upd_ne nb]
    exact n1.k b o e
  · have nb : b ≠ p := fun z => hb (z ▸ hp)
    rw [upd_ne nb]
    exact e
  · by_cases nb : b = p
    · rw [nb, upd_same]
      intro z
      cases z
    · rw [upd_ne nb]
      exact hb
  · by_cases nb : c = p
    · subst nb
      exact ⟨gp, n', upd_same⟩
    · rw [upd_ne nb]
      exact m1 c hc
theorem Pots.one {G H : Hp} (m : Pots ps G H) {p : Addr} (hp : p ∈ ps) : Pots [p] G H := fun c hc => by
  have e : c = p := by simpa using hc
  subst e
  exact m c hp
theorem NxP.wide {p : Addr} {G H G2 H2 : Hp} (n : NxP [p] G H G2 H2) (hp : p ∈ ps) : NxP ps G H G2 H2 := ⟨n.g, n.k, fun a o ha e => n.h a o (fun z => by
  have e2 : a = p := by simpa using z
  rw [e2] at ha
  exact ha hp) e, n.t, n.f⟩
theorem Pots.after {p : Addr} {G H G2 H2 : Hp} (m : Pots ps G H) (n : NxP [p] G H G2 H2) (mp : Pots [p] G2 H2) : Pots ps G2 H2 := fun c hc => by
  by_cases e : c = p
  · subst e
    exact mp c (by simp)
  · obtain ⟨h1, i, h2⟩ := m c hc
    exact ⟨n.f c h1 (by rw [h2]; intro z; cases z), i, n.h c _ (by simpa using e) h2⟩
theorem ep_callM {i : Nat} {p : Addr} {E : XK} {C : List Dt → Prop} {RF : List Dt → Dt → Prop} (hi : sl[i]? = some (.raw (.ref p))) (hp : p ∈ ps) (h : EpA K tr sl ps fun ds => C ds ∧ ∀ x, RF ds x → R x) :
    Ep K (tCall (spM K C RF) [] E (tCons (tVar i) tr)) sl ps R := fun G H σ k f m Q q => by
  refine ⟨.ref p, frd_raw f hi, ?_⟩
  refine h G H σ k f m _ fun ws ds G1 H1 ⟨hC, hR⟩ n1 m1 r1 => ?_
  refine ⟨p, ws, ds, G1, by rw [List.append_nil], n1.k, r1, hC, m1.one hp, fun v x G2 H2 hx n2 m2 r2 => ?_⟩
  exact q v x G2 H2 (hR x hx) (n1.trans (n2.wide hp)) (m1.after n2 m2) r2
end
/-- forgetting slots -/
inductive Wk : Sl → Sl → Prop
  | same (s : Sl) : Wk s s
  | no (s : Sl) : Wk s .no
theorem frd_wk {K : PySem.W.Frag} {G : Hp} : ∀ {σ : L2.St} {sl sl2 : List Sl}, FrD K G σ sl → Paired Wk sl sl2 → FrD K G σ sl2
  | _, _, _, .nil, .nil => .nil
  | _, _, _, .cons h t, .cons w r => .cons (by cases w with
    | same => exact h
    | no => exact .no _) (frd_wk t r)
/-! ### statements, where pots may be drawn from: Ip goes on, Ir hands back -/
def Ip (K : PySem.W.Frag) (ts : TS) (sl : List Sl) (ps : List Addr) (N : List Sl → Prop) : Prop := ∀ (G H : Hp) (σ : L2.St), Ex G H → FrD K G σ sl → Pots ps G H → ∀ D : Ends, (∀ σ2 sl2 G2 H2, N sl2 → NxP ps G H G2 H2 → Pots ps G2 H2 → FrD K G2 σ2 sl2 → D.nx σ2 H2) → ts D σ H
def Ir (K : PySem.W.Frag) (ts : TS) (sl : List Sl) (ps : List Addr) (R : Dt → Prop) : Prop := ∀ (G H : Hp) (σ : L2.St), Ex G H → FrD K G σ sl → Pots ps G H → ∀ D : Ends, (∀ v x G2 H2, R x → NxP ps G H G2 H2 → Pots ps G2 H2 → Rp K G2 v x → D.rt v H2) → ts D σ H
section
variable {K : PySem.W.Frag} {sl sl1 sl2 : List Sl} {ps : List Addr} {te : TE} {tc : TT} {x y : Dt} {t u : TS} {N : List Sl → Prop} {R : Dt → Prop}
theorem ip_nt (h : Nt K t sl sl1) (k : Ip K u sl1 ps N) : Ip K (tSeq t u) sl ps N := fun G H σ e f m D q =>
  h G H σ e f _ fun σ1 G1 H1 n1 f1 => k G1 H1 σ1 n1.k f1 (m.nx n1) D fun σ2 sl2 G2 H2 h2 n2 m2 f2 => q σ2 sl2 G2 H2 h2 (n1.p.trans n2) m2 f2
theorem ip_end (h : Nt K t sl sl1) (k : N sl1) : Ip K t sl ps N := fun G H σ e f m D q =>
  h G H σ e f _ fun σ1 G1 H1 n1 f1 => q σ1 sl1 G1 H1 k n1.p (m.nx n1) f1
theorem ip_asg1 {i : Nat} (h : Ep K te sl ps fun x => N (sl.set i (.d x))) : Ip K (tAsg te (gName i)) sl ps N := fun G H σ e f m D q =>
  h G H σ e f m _ fun v x G1 H1 h1 n1 m1 r1 => q _ _ G1 H1 h1 n1 m1 (frd_set (.d r1) i (FrD.mono n1.g f))
theorem ir_asg {i : Nat} (h : Ep K te sl ps fun x => Ir K u (sl.set i (.d x)) ps R) : Ir K (tSeq (tAsg te (gName i)) u) sl ps R := fun G H σ e f m D q =>
  h G H σ e f m _ fun v x G1 H1 h1 n1 m1 r1 => h1 G1 H1 _ n1.k (frd_set (.d r1) i (FrD.mono n1.g f)) m1 D fun v x G2 H2 h2 n2 m2 r2 => q v x G2 H2 h2 (n1.trans n2) m2 r2
theorem ir_unp {i j : Nat} (h : Ep K te sl ps fun x => ∃ a b, x = .tup [a, b] ∧ Ir K u ((sl.set i (.d a)).set j (.d b)) ps R) : Ir K (tSeq (tAsg te (gTup K 2 (gCons (gName i) (gCons (gName j) gNil)))) u) sl ps R := fun G H σ e f m D q =>
  h G H σ e f m _ fun v x G1 H1 ⟨a, b, ex, h1⟩ n1 m1 r1 => by
    subst ex
    cases r1 with
    | tup hs rs =>
      obtain ⟨v, w, rfl, a1, a2⟩ := rps2 rs
      exact ⟨_, _, rfl, exT n1.k hs, rfl, v, [w], rfl, w, [], rfl, rfl, h1 G1 H1 _ n1.k (frd_set (.d a2) j (frd_set (.d a1) i (FrD.mono n1.g f))) m1 D fun v x G2 H2 h2 n2 m2 r2 => q v x G2 H2 h2 (n1.trans n2) m2 r2⟩
theorem ir_ret (h : Ep K te sl ps R) : Ir K (tRet te) sl ps R := fun G H σ e f m D q => h G H σ e f m _ q
theorem ir_cond {b : Bool} (h : EvT K tc sl b) (h1 : b = true → Ir K t sl ps R) (h2 : b = false → Ir K u sl ps R) : Ir K (tSeq (tIfS tc t tNext) u) sl ps R := fun G H σ e f m D q => h G H σ e f _ fun G1 H1 n1 => by
  cases b with
  | true =>
    show t { D with nx := u D } σ H1
    exact h1 rfl G1 H1 σ n1.k (FrD.mono n1.g f) (m.nx n1) _ fun v x G2 H2 h2 n2 m2 r2 => q v x G2 H2 h2 (n1.p.trans n2) m2 r2
  | false =>
    show u D σ H1
    exact h2 rfl G1 H1 σ n1.k (FrD.mono n1.g f) (m.nx n1) D fun v x G2 H2 h2 n2 m2 r2 => q v x G2 H2 h2 (n1.p.trans n2) m2 r2
/-- for x in range(n), what the slots hold told by I -/
theorem ip_for {ta : TA} {j : Nat} {n : Int} (I : Nat → List Sl → Prop) (h : EvA K ta sl [.int n]) (hn : n ≤ 100000 ∧ -100000 ≤ n) (h0 : I 0 sl) (hs : ∀ (i : Nat) sl', (i : Int) < n → I i sl' → Ip K t (sl'.set j (.d (.int i))) ps (I (i + 1))) : Ip K (tFor (iRng1 ta) (gName j) t) sl ps (I n.toNat) := fun G H σ k f m D q => by
  refine h G H σ k f _ fun vs G1 H1 n1 r1 => ?_
  obtain ⟨v, rfl, r2⟩ := rps1 r1
  cases r2
  refine ⟨n, rfl, by omega, by omega, for_range (lo := 0) (n := n.toNat) (fun i σ' H' => ∃ G' sl', I i sl' ∧ NxP ps G H G' H' ∧ Pots ps G' H' ∧ FrD K G' σ' sl') ⟨G1, sl, h0, n1.p, m.nx n1, FrD.mono n1.g f⟩ ?_ ?_⟩
  · rintro i σ2 H2 hi ⟨G2, sl2, i2, n2, m2, f2⟩
    have e : (0 : Int) + (i : Int) = (i : Int) := Int.zero_add _
    rw [e]
    refine hs i sl2 (by omega) i2 G2 H2 _ n2.k (frd_set (.d (.int _)) j f2) m2 _ fun σ3 sl3 G3 H3 i3 n3 m3 f3 => ⟨G3, sl3, i3, n2.trans n3, m3, f3⟩
  · rintro σ2 H2 ⟨G2, sl2, i2, n2, m2, f2⟩
    exact q σ2 sl2 G2 H2 i2 n2 m2 f2
theorem ip_while (I : Nat → List Sl → Prop) (m0 : Nat) (h0 : I m0 sl) (hs : ∀ m sl', I m sl' → ∃ b, EvT K tc sl' b ∧ (b = true → Ip K t sl' ps fun sl2 => ∃ m', m' < m ∧ I m' sl2) ∧ (b = false → N sl')) : Ip K (tWhile tc t) sl ps N := fun G H σ k f m D q => by
  refine ⟨fun l σ' H' => ∃ G' sl', I l sl' ∧ NxP ps G H G' H' ∧ Pots ps G' H' ∧ FrD K G' σ' sl', ⟨m0, G, sl, h0, .refl k, m, f⟩, ?_⟩
  rintro l σ1 H1 ⟨G1, sl1, i1, n1, m1, f1⟩
  obtain ⟨b, hb, ht, hf⟩ := hs l sl1 i1
  refine hb G1 H1 σ1 n1.k f1 _ fun G2 H2 n2 => ?_
  cases b with
  | true =>
    refine ⟨fun σ' H' => ∃ G' sl' l', l' < l ∧ I l' sl' ∧ NxP ps G H G' H' ∧ Pots ps G' H' ∧ FrD K G' σ' sl', fun σ' H' ⟨G', sl', l', lt, i', n', m', f'⟩ => ⟨l', lt, G', sl', i', n', m', f'⟩, ?_⟩
    exact ht rfl G2 H2 σ1 n2.k (FrD.mono n2.g f1) (m1.nx n2) _ fun σ3 sl3 G3 H3 ⟨l', lt, i'⟩ n3 m3 f3 => ⟨G3, sl3, l', lt, i', (n1.trans n2.p).trans n3, m3, f3⟩
  | false =>
    exact q σ1 sl1 G2 H2 (hf rfl) (n1.trans n2.p) (m1.nx n2) (FrD.mono n2.g f1)
theorem rt_ip (h : Ip K t sl [] fun s => Rt K u s x) : Rt K (tSeq t u) sl x := fun G H σ e f D q =>
  h G H σ e f .nil _ fun σ1 sl1 G1 H1 k1 n1 m1 f1 => k1 G1 H1 σ1 n1.k f1 D fun v G2 H2 n2 r2 => q v G2 H2 (n1.nx.trans n2) r2
end
section
variable {P : Program} {w : World} {K : PySem.W.Frag} {mg : Str → Option Value} {base : Heap} {x : Str} {st : Stmt} {N ps : List Str} {k : Nat}
theorem Dd.newpot {C : List Dt → Prop} {t : TS} (D : Dd K mg x st ps) (S : FnScope N ps (defScope st)) (hl : ∀ ds, C ds → ds.length = ps.length)
    (h1 : ∀ (f : Addr) (cdv : Value) (A : Around) (outer : List Env) (s : Shared) (H : Hp) (E : XK), Room k (A.deeper (envOfC x (defScope st) s.heap.objs.size f cdv)) → PSs (cxOf CX0 P w K mg base N x (defScope st) f cdv A outer s H E).nox (defBody st) t)
    (h3 : ∀ ds, C ds → ∀ (G H : Hp) (σ : L2.St), Ex G H → FrD K G σ (ds.map Sl.d ++ List.replicate (N.length - ps.length) .no) → ∀ D : Ends, (∀ p n G2 H2, Nx G H G2 H2 → H p = none → G2 p = none → H2 p = some (.lst [.int n]) → D.rt (.ref p) H2) → t D σ H) : Has P w K mg base CX0 (k + 1) x ps (spNew K C) := by
  refine D.any S (fun vs H Q E h => ?_) h1 fun vs H Q E h => ?_
  · obtain ⟨ds, G, _, r, hC, _⟩ := h
    rw [r.length]
    exact hl ds hC
  · obtain ⟨ds, G, kG, r, hC, q⟩ := h
    exact h3 ds hC G H _ kG (start_ok r (hl ds hC)) _ q
/-- a def that draws from the pot that it is handed first -/
theorem Dd.draws {C : List Dt → Prop} {R : List Dt → Dt → Prop} {t : TS} (D : Dd K mg x st ps) (S : FnScope N ps (defScope st)) (hl : ∀ ds, C ds → ds.length + 1 = ps.length)
    (h1 : ∀ (f : Addr) (cdv : Value) (A : Around) (outer : List Env) (s : Shared) (H : Hp) (E : XK), Room k (A.deeper (envOfC x (defScope st) s.heap.objs.size f cdv)) → PSs (cxOf CX0 P w K mg base N x (defScope st) f cdv A outer s H E).nox (defBody st) t)
    (h2 : ∀ ds, C ds → ∀ p, Ir K t (Sl.raw (.ref p) :: (ds.map Sl.d ++ List.replicate (N.length - ps.length) .no)) [p] (R ds)) : Has P w K mg base CX0 (k + 1) x ps (spM K C R) := by
  refine D.any S (fun vs H Q E h => ?_) h1 fun vs H Q E h => ?_
  · obtain ⟨p, ws, ds, G, rfl, _, r, hC, _⟩ := h
    show ws.length + 1 = _
    rw [r.length]
    exact hl ds hC
  · obtain ⟨p, ws, ds, G, rfl, kG, r, hC, m, q⟩ := h
    have e : (V.ref p :: ws).length = ps.length := by
      show ws.length + 1 = _
      rw [r.length]
      exact hl ds hC
    have fr : FrD K G (L2.start N (.ref p :: ws)) (Sl.raw (.ref p) :: (ds.map Sl.d ++ List.replicate (N.length - ps.length) .no)) := by
      unfold L2.start
      rw [e]
      exact .cons (.raw _) (frd_start _ r)
    exact h2 ds hC p G H _ kG fr m _ q
end
end Z
namespace Z
open PySem PySem.Spec PyProof.Rows L2
/-! ### fractions: a rational number q as the data (top, bottom) -/
def fq (q : Rat) : Dt := .tup [.int q.num, .int (q.den : Int)]
/-- the sign-carrying divisor -/
def dvs (t b : Int) : Int := if b < 0 then -((Nat.gcd t.natAbs b.natAbs : Nat) : Int) else ((Nat.gcd t.natAbs b.natAbs : Nat) : Int)
theorem gcd_pos {t b : Int} (h : b ≠ 0) : 0 < Nat.gcd t.natAbs b.natAbs := Nat.gcd_pos_of_pos_right _ (Int.natAbs_pos.mpr h)
theorem dvs_ne {t b : Int} (h : b ≠ 0) : dvs t b ≠ 0 := by
  have := gcd_pos (t := t) h
  unfold dvs
  split <;> omega
theorem low_num {t b : Int} (h : b ≠ 0) : t.fdiv (dvs t b) = ((t : Rat) / (b : Rat)).num := by
  rw [← Rat.divInt_eq_div, Rat.num_divInt]
  have e : (Nat.gcd t.natAbs b.natAbs) = b.gcd t := by rw [Nat.gcd_comm]; rfl
  have dv : ((b.gcd t : Nat) : Int) ∣ t := Int.gcd_dvd_right _ _
  unfold dvs
  rw [e]
  split
  · rename_i hb
    rw [Int.fdiv_eq_ediv_of_dvd (Int.neg_dvd.mpr dv), Int.ediv_neg, Int.sign_eq_neg_one_of_neg hb, Int.neg_one_mul, Int.neg_ediv_of_dvd dv]
  · rw [Int.fdiv_eq_ediv_of_dvd dv, Int.sign_eq_one_of_pos (by omega), Int.one_mul]
theorem low_den {t b : Int} (h : b ≠ 0) : b.fdiv (dvs t b) = (((t : Rat) / (b : Rat)).den : Int) := by
  rw [← Rat.divInt_eq_div, Rat.den_divInt, if_neg h]
  have e : (Nat.gcd t.natAbs b.natAbs) = b.gcd t := by rw [Nat.gcd_comm]; rfl
  have dv : ((b.gcd t : Nat) : Int) ∣ b := Int.gcd_dvd_left _ _
  rw [Int.natCast_ediv]
  unfold dvs
  rw [e]
  split
  · rename_i hb
    rw [Int.fdiv_eq_ediv_of_dvd (Int.neg_dvd.mpr dv), Int.ediv_neg, show ((b.natAbs : Nat) : Int) = -b by omega, Int.neg_ediv_of_dvd dv]
  · rw [Int.fdiv_eq_ediv_of_dvd dv, show ((b.natAbs : Nat) : Int) = b by omega]
theorem low_fq {t b : Int} (h : b ≠ 0) : (Dt.tup [.int (t.fdiv (dvs t b)), .int (b.fdiv (dvs t b))]) = fq ((t : Rat) / (b : Rat)) := by
  rw [low_num h, low_den h]
  rfl
theorem den_pos (q : Rat) : (0 : Int) < (q.den : Int) := by
  have := q.den_pos
  omega
theorem den_ne (q : Rat) : (q.den : Int) ≠ 0 := by
  have := q.den_pos
  omega
theorem fq_self (q : Rat) : ((q.num : Rat) / ((q.den : Int) : Rat)) = q := by
  rw [← Rat.divInt_eq_div, Rat.num_divInt_den]
theorem q_add (x y : Rat) : (((x.num * (y.den : Int) + y.num * (x.den : Int) : Int) : Rat) / (((x.den : Int) * (y.den : Int) : Int) : Rat)) = x + y := by
  rw [← Rat.divInt_eq_div, ← Int.natCast_mul, Rat.divInt_ofNat, Rat.add_def']
theorem q_sub (x y : Rat) : (((x.num * (y.den : Int) - y.num * (x.den : Int) : Int) : Rat) / (((x.den : Int) * (y.den : Int) : Int) : Rat)) = x - y := by
  rw [← Rat.divInt_eq_div, ← Int.natCast_mul, Rat.divInt_ofNat, Rat.sub_def']
theorem q_mul (x y : Rat) : (((x.num * y.num : Int) : Rat) / (((x.den : Int) * (y.den : Int) : Int) : Rat)) = x * y := by
  rw [← Rat.divInt_eq_div, ← Int.natCast_mul, Rat.divInt_ofNat, Rat.mul_def']
theorem q_div (x y : Rat) : (((x.num * (y.den : Int) : Int) : Rat) / (((x.den : Int) * y.num : Int) : Rat)) = x / y := by
  rw [← Rat.divInt_eq_div, Rat.div_def, Rat.inv_def, ← Rat.divInt_mul_divInt, Rat.num_divInt_den]
theorem q_lt (x y : Rat) : decide (x.num * (y.den : Int) < y.num * (x.den : Int)) = decide (x < y) := by
  rw [decide_eq_decide, Rat.lt_iff]
theorem num_ne {q : Rat} : q.num ≠ 0 ↔ q ≠ 0 := not_congr Rat.num_eq_zero
/-! sizes -/
def Bt (n : Nat) (i : Int) : Prop := i.natAbs < 2 ^ n
def Bq (n : Nat) (q : Rat) : Prop := Bt n q.num ∧ Bt n (q.den : Int)
theorem Bt.mono {n m : Nat} {i : Int} (h : Bt n i) (le : n ≤ m) : Bt m i := Nat.lt_of_lt_of_le h (Nat.pow_le_pow_right (by decide) le)
theorem bt_mul {n m : Nat} {i j : Int} (h1 : Bt n i) (h2 : Bt m j) : Bt (n + m) (i * j) := by
  unfold Bt
  rw [Int.natAbs_mul, Nat.pow_add]
  exact Nat.mul_lt_mul'' h1 h2
theorem bt_add {n m k : Nat} {i j : Int} (h1 : Bt n i) (h2 : Bt m j) (hn : n + 1 ≤ k) (hm : m + 1 ≤ k) : Bt k (i + j) := by
  have a := h1.mono (show n ≤ k - 1 by omega)
  have b := h2.mono (show m ≤ k - 1 by omega)
  unfold Bt at *
  obtain ⟨l, rfl⟩ : ∃ l, k = l + 1 := ⟨k - 1, by omega⟩
  rw [Nat.add_sub_cancel] at a b
  rw [Nat.pow_succ]
  omega
theorem bt_neg {n : Nat} {i : Int} (h : Bt n i) : Bt n (-i) := by
  unfold Bt at *
  rw [Int.natAbs_neg]
  exact h
theorem bt_sub {n m k : Nat} {i j : Int} (h1 : Bt n i) (h2 : Bt m j) (hn : n + 1 ≤ k) (hm : m + 1 ≤ k) : Bt k (i - j) := by
  rw [Int.sub_eq_add_neg]
  exact bt_add h1 (bt_neg h2) hn hm
theorem log2_of {n : Nat} {i : Int} (h : Bt n i) (h0 : 0 < n) : i.natAbs.log2 < n := PySem.Flt.log2_lt_of h0 h
theorem mulok {n m : Nat} {i j : Int} (h1 : Bt n i) (h2 : Bt m j) (h : n + m + 2 ≤ 1000000) : IntMulOk i j := by
  have a := log2_of (h1.mono (Nat.le_succ n)) (Nat.succ_pos n)
  have b := log2_of (h2.mono (Nat.le_succ m)) (Nat.succ_pos m)
  exact CMulW.ok (show i.natAbs.log2 + j.natAbs.log2 < 1000000 by omega)
theorem divok {n : Nat} {i j : Int} (h0 : j ≠ 0) (h : Bt n j) (hn : n ≤ 9000) : CDivA i j := ⟨h0, by
  have a := log2_of (h.mono (Nat.le_succ n)) (Nat.succ_pos n)
  have b : j.natAbs.log2 < 9000 := by
    by_cases z : n = 0
    · subst z
      have : j.natAbs < 1 := h
      omega
    · have := log2_of h (by omega)
      omega
  exact b⟩
theorem bt_dvs {n : Nat} {t b : Int} (h : b ≠ 0) (hb : Bt n b) : Bt n (dvs t b) := by
  have h1 : Nat.gcd t.natAbs b.natAbs ≤ b.natAbs := Nat.gcd_le_right _ (Int.natAbs_pos.mpr h)
  unfold Bt at *
  unfold dvs
  split
  · rw [Int.natAbs_neg, Int.natAbs_natCast]
    omega
  · rw [Int.natAbs_natCast]
    omega
/-- the answer of a fraction in lowest terms is no longer than what it was made of -/
theorem bq_div {n : Nat} {t b : Int} (h : b ≠ 0) (ht : Bt n t) (hb : Bt n b) : Bq n ((t : Rat) / (b : Rat)) := by
  have hg := gcd_pos (t := t) h
  rw [← Rat.divInt_eq_div]
  constructor
  · unfold Bt at *
    rw [Rat.num_divInt]
    have e1 : (b.sign * t / ((b.gcd t : Nat) : Int)).natAbs ≤ (b.sign * t).natAbs := by
      rw [Int.natAbs_ediv_of_dvd (Int.dvd_mul_of_dvd_right (Int.gcd_dvd_right _ _))]
      exact Nat.div_le_self _ _
    rw [Int.natAbs_mul, Int.natAbs_sign_of_ne_zero h, Nat.one_mul] at e1
    omega
  · unfold Bt at *
    rw [Rat.den_divInt, if_neg h]
    have e1 : b.natAbs / b.gcd t ≤ b.natAbs := Nat.div_le_self _ _
    rw [Int.natAbs_natCast]
    omega
/-! == of such data -/
theorem py_fq (q : Rat) : py (fq q) = some (.tuple [.int q.num, .int (q.den : Int)]) := by
  simp only [fq, py, pys]
theorem sh_fq (a b : Int) : SeqAt.shaped (.tuple [.int a, .int b]) = true := by
  rfl
theorem eqv_fq (x y : Rat) : PyData.eqv (.tuple [.int x.num, .int (x.den : Int)]) (.tuple [.int y.num, .int (y.den : Int)]) = decide (x = y) := by
  simp only [PyData.eqv, PyData.eqvAll, Bool.and_true]
  by_cases h : x = y
  · subst h
    simp
  · rw [decide_eq_false h]
    by_cases h1 : x.num = y.num
    · have h2 : ¬ ((x.den : Int) = (y.den : Int)) := fun z => h (Rat.ext h1 (Int.ofNat.inj z))
      rw [beq_eq_false_iff_ne.mpr h2, Bool.and_false]
    · rw [beq_eq_false_iff_ne.mpr h1, Bool.false_and]
theorem r2_eqF {K : PySem.W.Frag} {x y : Rat} : R2D K (rEqD K) (fq x) (fq y) (.bl (decide (x = y))) := by
  have h := r2_eq (K := K) (py_fq x) (py_fq y) (sh_fq _ _) (sh_fq _ _)
  rwa [eqv_fq] at h
theorem ix0 {K : PySem.W.Frag} {a b : Dt} : R2D K (rIx K) (.tup [a, b]) (.int 0) a := r2_ixT rfl
theorem ix1 {K : PySem.W.Frag} {a b : Dt} : R2D K (rIx K) (.tup [a, b]) (.int 1) b := r2_ixT rfl
theorem fx0 {K : PySem.W.Frag} {q : Rat} : R2D K (rIx K) (fq q) (.int 0) (.int q.num) := r2_ixT rfl
theorem fx1 {K : PySem.W.Frag} {q : Rat} : R2D K (rIx K) (fq q) (.int 1) (.int (q.den : Int)) := r2_ixT rfl
/-! euclid -/
theorem fmod_nat (a b : Nat) : (a : Int).fmod (b : Int) = ((a % b : Nat) : Int) := by
  rw [Int.fmod_eq_emod_of_nonneg _ (Int.natCast_nonneg b)]
  rfl
/-- a whole root -/
theorem isq_unique {n a b : Nat} (h1 : a * a ≤ n) (h2 : n < (a + 1) * (a + 1)) (h3 : b * b ≤ n) (h4 : n < (b + 1) * (b + 1)) : a = b := by
  have u : a < b + 1 := Nat.lt_of_not_le fun z => by
    have := Nat.mul_le_mul z z
    omega
  have v : b < a + 1 := Nat.lt_of_not_le fun z => by
    have := Nat.mul_le_mul z z
    omega
  omega
def sq (n : Nat) : Nat := PySem.Float64.isqrt n
theorem sq_spec (n : Nat) : sq n * sq n ≤ n ∧ n < (sq n + 1) * (sq n + 1) := PySem.Float64.isqrt_spec n
theorem sq_is {n a : Nat} (h : a * a = n) : sq n = a := isq_unique (sq_spec n).1 (sq_spec n).2 (by omega) (by
  have : (a + 1) * (a + 1) = a * a + 2 * a + 1 := by
    rw [Nat.add_mul, Nat.mul_add, Nat.mul_one, Nat.one_mul]
    omega
  omega)
theorem bt_sq {n : Nat} {m : Nat} (h : Bt n (m : Int)) : Bt n (sq m : Int) := by
  unfold Bt at *
  rw [Int.natAbs_natCast] at *
  have h1 := (sq_spec m).1
  have h2 : sq m ≤ sq m * sq m := by
    by_cases z : sq m = 0
    · omega
    · exact Nat.le_mul_of_pos_right _ (by omega)
  omega
theorem rc_isqrt {K : PySem.W.Frag} {i : Int} (h0 : 0 ≤ i) (h1 : i.toNat.log2 < 13000) : RcD K rIsqrt [.int i] (.int (sq i.toNat : Int)) := fun G H k vs r Q q => by
  obtain ⟨v, rfl, h⟩ := rps1 r
  cases h
  exact ⟨i, rfl, h0, h1, q _ G H (.refl k) (.int _)⟩
theorem mulL {i j : Int} (h : -(2 ^ 64) < i ∧ i < 2 ^ 64) : IntMulOk i j := CMul.ok (.inl h)
theorem mulR {i j : Int} (h : -(2 ^ 64) < j ∧ j < 2 ^ 64) : IntMulOk i j := CMul.ok (.inr h)
theorem fmod_bd {a b : Int} (h : 0 < b) : 0 ≤ a.fmod b ∧ a.fmod b < b := ⟨Int.fmod_nonneg_of_pos a h, Int.fmod_lt_of_pos a h⟩
/-- the root of a fraction, as data -/
def rootD (x : Rat) : Dt := if x.num < 0 then .non else if sq x.num.toNat * sq x.num.toNat = x.num.toNat ∧ sq x.den * sq x.den = x.den then .tup [.int (sq x.num.toNat : Int), .int (sq x.den : Int)] else .non
theorem nat_sq_cop {a b : Nat} (h : Nat.gcd (a * a) (b * b) = 1) : Nat.gcd a b = 1 := by
  have d1 : Nat.gcd a b ∣ Nat.gcd (a * a) (b * b) := Nat.dvd_gcd (Nat.dvd_trans (Nat.gcd_dvd_left a b) (Nat.dvd_mul_right a a)) (Nat.dvd_trans (Nat.gcd_dvd_right a b) (Nat.dvd_mul_right b b))
  rw [h] at d1
  exact Nat.dvd_one.mp d1
theorem num_sq (x : Rat) : (x * x).num = x.num * x.num := by
  have e : x * x = x ^ 2 := by rw [show (2 : Nat) = 1 + 1 from rfl, Rat.pow_succ, Rat.pow_one]
  rw [e, Rat.num_pow]
  rw [show (2 : Nat) = 1 + 1 from rfl, Int.pow_succ, Int.pow_succ, Int.pow_zero, Int.one_mul]
theorem den_sq (x : Rat) : (x * x).den = x.den * x.den := by
  have e : x * x = x ^ 2 := by rw [show (2 : Nat) = 1 + 1 from rfl, Rat.pow_succ, Rat.pow_one]
  rw [e, Rat.den_pow]
  exact Nat.pow_two x.den
theorem abs_parts (x : Rat) : x.abs.num = (x.num.natAbs : Int) ∧ x.abs.den = x.den := by
  rcases Rat.nonneg_total x with h | h
  · rw [Rat.abs_of_nonneg h]
    have := Rat.num_nonneg.mpr h
    exact ⟨by omega, rfl⟩
  · have h' : x ≤ 0 := by
      have := Rat.neg_le_neg h
      rwa [Rat.neg_neg] at this
    rw [Rat.abs_of_nonpos h']
    have := Rat.num_nonneg.mpr h
    rw [Rat.neg_num] at this
    exact ⟨by rw [Rat.neg_num]; omega, rfl⟩
theorem fq_abs (x : Rat) : fq x.abs = .tup [.int (x.num.natAbs : Int), .int (x.den : Int)] := by
  unfold fq
  rw [(abs_parts x).1, (abs_parts x).2]
theorem rootD_sq (x : Rat) : rootD (x * x) = fq x.abs := by
  unfold rootD
  rw [num_sq, den_sq]
  have h0 : ¬ x.num * x.num < 0 := by
    have : x.num * x.num = ((x.num.natAbs * x.num.natAbs : Nat) : Int) := Int.natAbs_mul_self.symm
    omega
  have e : (x.num * x.num).toNat = x.num.natAbs * x.num.natAbs := by
    rw [← Int.natAbs_mul_self]
    rfl
  rw [if_neg h0, e, sq_is (n := x.num.natAbs * x.num.natAbs) rfl, sq_is (n := x.den * x.den) rfl, if_pos ⟨rfl, rfl⟩]
  rw [fq_abs]
def R_low (ds : List Dt) (d : Dt) : Prop := ∃ t b : Int, ds = [.int t, .int b] ∧ b ≠ 0 ∧ Bt 9000 b ∧ d = fq ((t : Rat) / (b : Rat))
def R_sum (ds : List Dt) (d : Dt) : Prop := ∃ x y : Rat, ds = [fq x, fq y] ∧ Bq 4400 x ∧ Bq 4400 y ∧ d = fq (x + y)
def R_gap (ds : List Dt) (d : Dt) : Prop := ∃ x y : Rat, ds = [fq x, fq y] ∧ Bq 4400 x ∧ Bq 4400 y ∧ d = fq (x - y)
def R_prod (ds : List Dt) (d : Dt) : Prop := ∃ x y : Rat, ds = [fq x, fq y] ∧ Bq 4400 x ∧ Bq 4400 y ∧ d = fq (x * y)
def R_quot (ds : List Dt) (d : Dt) : Prop := ∃ x y : Rat, ds = [fq x, fq y] ∧ Bq 4400 x ∧ Bq 4400 y ∧ y ≠ 0 ∧ d = fq (x / y)
def R_less (ds : List Dt) (d : Dt) : Prop := ∃ x y : Rat, ds = [fq x, fq y] ∧ Bq 4400 x ∧ Bq 4400 y ∧ d = .bl (decide (x < y))
theorem r2_eqS {K : PySem.W.Frag} {a b : Str} (ha : SeqAt.shaped (.str a) = true) (hb : SeqAt.shaped (.str b) = true) : R2D K (rEqD K) (.str a) (.str b) (.bl (a == b)) := by
  have h := r2_eq (K := K) (x := .str a) (y := .str b) (p := .str a) (q := .str b) rfl rfl ha hb
  rwa [PyData.eqv] at h
theorem r2_neS {K : PySem.W.Frag} {a b : Str} (ha : SeqAt.shaped (.str a) = true) (hb : SeqAt.shaped (.str b) = true) : R2D K (rNeD K) (.str a) (.str b) (.bl (!(a == b))) := by
  have h := r2_ne (K := K) (x := .str a) (y := .str b) (p := .str a) (q := .str b) rfl rfl ha hb
  rwa [PyData.eqv] at h
theorem r2_eqB {K : PySem.W.Frag} {a b : Bool} : R2D K (rEqD K) (.bl a) (.bl b) (.bl (a == b)) := by
  have h := r2_eq (K := K) (x := .bl a) (y := .bl b) (p := .bool a) (q := .bool b) rfl rfl rfl rfl
  rwa [PyData.eqv] at h
theorem r2_neB {K : PySem.W.Frag} {a b : Bool} : R2D K (rNeD K) (.bl a) (.bl b) (.bl (!(a == b))) := by
  have h := r2_ne (K := K) (x := .bl a) (y := .bl b) (p := .bool a) (q := .bool b) rfl rfl rfl rfl
  rwa [PyData.eqv] at h
theorem bq_add {n m : Nat} {x y : Rat} (h1 : Bq n x) (h2 : Bq m y) : Bq (n + m + 1) (x + y) := by
  rw [← q_add]
  exact bq_div (Int.mul_ne_zero (den_ne x) (den_ne y)) (bt_add (bt_mul h1.1 h2.2) (bt_mul h2.1 h1.2) (by omega) (by omega)) ((bt_mul h1.2 h2.2).mono (by omega))
theorem bq_sub {n m : Nat} {x y : Rat} (h1 : Bq n x) (h2 : Bq m y) : Bq (n + m + 1) (x - y) := by
  rw [← q_sub]
  exact bq_div (Int.mul_ne_zero (den_ne x) (den_ne y)) (bt_sub (bt_mul h1.1 h2.2) (bt_mul h2.1 h1.2) (by omega) (by omega)) ((bt_mul h1.2 h2.2).mono (by omega))
theorem bq_mul {n m : Nat} {x y : Rat} (h1 : Bq n x) (h2 : Bq m y) : Bq (n + m) (x * y) := by
  rw [← q_mul]
  exact bq_div (Int.mul_ne_zero (den_ne x) (den_ne y)) (bt_mul h1.1 h2.1) (bt_mul h1.2 h2.2)
theorem bq_quo {n m : Nat} {x y : Rat} (h1 : Bq n x) (h2 : Bq m y) (y0 : y ≠ 0) : Bq (n + m) (x / y) := by
  rw [← q_div]
  exact bq_div (Int.mul_ne_zero (den_ne x) (num_ne.mpr y0)) (bt_mul h1.1 h2.2) (bt_mul h1.2 h2.1)
theorem Bq.mono {n m : Nat} {q : Rat} (h : Bq n q) (le : n ≤ m) : Bq m q := ⟨h.1.mono le, h.2.mono le⟩
theorem bq_one : Bq 1 1 := ⟨by show Int.natAbs 1 < 2 ^ 1; decide, by show Int.natAbs 1 < 2 ^ 1; decide⟩
theorem bq_zero : Bq 1 0 := ⟨by show Int.natAbs 0 < 2 ^ 1; decide, by show Int.natAbs 1 < 2 ^ 1; decide⟩
theorem bq_neg {n : Nat} {q : Rat} (h : Bq n q) : Bq n (-q) := ⟨by rw [Rat.neg_num]; exact bt_neg h.1, h.2⟩
theorem low_ok {t b : Int} (h : b ≠ 0) (hb : Bt 9000 b) : R_low [.int t, .int b] (fq ((t : Rat) / (b : Rat))) := ⟨t, b, rfl, h, hb, rfl⟩
theorem sum_ok {x y : Rat} (h1 : Bq 4400 x) (h2 : Bq 4400 y) : R_sum [fq x, fq y] (fq (x + y)) := ⟨x, y, rfl, h1, h2, rfl⟩
theorem gap_ok {x y : Rat} (h1 : Bq 4400 x) (h2 : Bq 4400 y) : R_gap [fq x, fq y] (fq (x - y)) := ⟨x, y, rfl, h1, h2, rfl⟩
theorem prod_ok {x y : Rat} (h1 : Bq 4400 x) (h2 : Bq 4400 y) : R_prod [fq x, fq y] (fq (x * y)) := ⟨x, y, rfl, h1, h2, rfl⟩
theorem less_ok {x y : Rat} (h1 : Bq 4400 x) (h2 : Bq 4400 y) : R_less [fq x, fq y] (.bl (decide (x < y))) := ⟨x, y, rfl, h1, h2, rfl⟩
theorem quot_ok {x y : Rat} (h1 : Bq 4400 x) (h2 : Bq 4400 y) (h : y ≠ 0) : R_quot [fq x, fq y] (fq (x / y)) := ⟨x, y, rfl, h1, h2, h, rfl⟩
end Z
namespace Z
open PySem PySem.Spec PyProof.Rows L2
open Evl (Ex)
/-! ### list + list of any lists that can be read; count and index of truths -/
def rCatS (K : PySem.W.Frag) : R2 := fun x y H Q => ∃ l b xs zs, x = .ref l ∧ y = .ref b ∧ SqL K H l xs ∧ SqL K H b zs ∧ xs.length + zs.length ≤ sizeLine ∧ ∀ p, H p = none → Q (.ref p) (upd H p (.lst (xs ++ zs)))
theorem catK {X : Cx} {K : PySem.W.Frag} (eK : X.K = K) : OpR X (binaryOp .Add) (rCatS K) := by
  subst eK
  intro pins s σ H x y v u Q I rx ry h
  obtain ⟨l, b, xs, zs, rfl, rfl, h1, h2, hz, q⟩ := h
  cases rx
  cases ry
  obtain ⟨i1, r1, ⟨⟨c1, d1, a1, s1⟩, n1, g1, e1, _, k1⟩, _⟩ := I.list h1
  obtain ⟨i2, r2, ⟨⟨c2, d2, a2, s2⟩, n2, g2, e2, _, k2⟩, _⟩ := I.list h2
  dsimp only at e1 k1 e2 k2
  subst e1 k1 e2 k2
  have l1 := r1.length
  have l2 := r2.length
  have ea : i1.toArray ++ i2.toArray = (i1 ++ i2).toArray := by simp
  refine concat_meets ⟨_, g1, rfl⟩ ⟨_, g2, rfl⟩ noFill_list_add seq_list_add PySem.F.slot_list_add PySem.F.entry_list_add (PySem.F.args_list_add_2 _ _)
    (list_addW l b i1.toArray i2.toArray n1 n2 d1 d2 s1 s2 (by rw [List.size_toArray, List.size_toArray]; omega)) ⟨g1, g2, ?_⟩
  rw [ea]
  exact ⟨.ref _, _, I.lnew (t' := s.toks) (r1.append r2) (by rw [List.length_append]; omega), rfl, q _ I.fresh⟩
def rCntD (K : PySem.W.Frag) : V → List V → Hp → VK → Prop := fun x xs H Q => ∃ (p : Addr) (bs : List Bool) (b : Bool), x = .ref p ∧ xs = [.bl b] ∧ SqL K H p (bs.map V.bl) ∧ Q (.int (bs.count b : Nat)) H
theorem bools_dp {K : PySem.W.Frag} {H : Hp} : ∀ bs : List Bool, DpAll K H (bs.map V.bl) (bs.map PyData.bool)
  | [] => .nil
  | b :: r => .cons (.bl b) (bools_dp r)
theorem bools_plain : ∀ bs : List Bool, PyData.plainAll (bs.map PyData.bool) = true
  | [] => rfl
  | b :: r => by
    show (PyData.plain (.bool b) && PyData.plainAll (r.map PyData.bool)) = true
    rw [bools_plain r]
    rfl
theorem bools_count (b : Bool) : ∀ bs : List Bool, (bs.map PyData.bool).countP (fun y => PyData.eqv y (.bool b)) = bs.count b
  | [] => rfl
  | c :: r => by
    rw [List.map_cons, List.countP_cons, List.count_cons, bools_count b r]
    rfl
theorem cntK {X : Cx} {K : PySem.W.Frag} (eK : X.K = K) (hu : X.A.units + 64 < cLine) : MtR X "list.count" (rCntD K) := by
  subst eK
  intro pins s σ H x xs v us Q I rx rxs h
  obtain ⟨p, bs, b, rfl, rfl, hs, q⟩ := h
  cases rx
  cases rxs with
  | cons ry rt =>
    cases rt
    obtain ⟨its, rv, ⟨o, n, ho, hc, hdn, hd⟩, hlen⟩ := I.list hs
    obtain ⟨a1, rd⟩ := Dp.readsAll I _ _ its (bools_dp bs) rv
    obtain ⟨a2, rb⟩ := Dp.reads I (.bool b) _ _ (Dp.bl b) ry
    refine SeqAt.count_list_data (l := p) (vs := its.toArray) ⟨o, ho, hc, n, hd⟩ (show ReadsAll s.heap its.toArray.toList _ _ by simpa using rd) rb (bools_plain bs) rfl ?_ ?_
    · have e : (PyData.bool b).depth ≤ 1 := Nat.le_of_ble_eq_true rfl
      have e2 : min (PyData.depthAll (bs.map PyData.bool)) (PyData.bool b).depth ≤ (PyData.bool b).depth := Nat.min_le_right _ _
      omega
    · rw [bools_count]
      exact ⟨.int _, H, I.tok _, ⟨_, rfl⟩, q⟩
theorem idxK {X : Cx} {K : PySem.W.Frag} (eK : X.K = K) : MtR X "list.index" (rIndex K) := eK ▸ mt_index
section
variable {K : PySem.W.Frag} {sl : List Sl} {ta tb te tc : TE} {x y z : Dt}
theorem r2_cat {xs ys : List Dt} (h : xs.length + ys.length ≤ 100000) : R2D K (rCatS K) (.lst xs) (.lst ys) (.lst (xs ++ ys)) := fun G H k v w r1 r2 Q q => by
  cases r1 with
  | lst h1 s1 =>
    cases r2 with
    | lst h2 s2 =>
      refine ⟨_, _, _, _, rfl, rfl, Evl.ex_l k h1, Evl.ex_l k h2, by rw [s1.length, s2.length]; exact sz_ok h, fun p hp => ?_⟩
      exact q _ _ _ (.new k hp) (.lst (.inl (.inl upd_same)) ((s1.append s2).mono (Ex.new (free_of k hp))))
theorem rps_bools {H : Hp} {vs : List V} : ∀ {bs : List Bool}, Rps K H vs (bs.map Dt.bl) → vs = bs.map V.bl
  | [], h => by cases h; rfl
  | b :: r, h => by
    cases h with
    | cons h1 h2 =>
      cases h1
      rw [rps_bools h2]
      rfl
theorem ev_count {bs : List Bool} {b : Bool} (h : Ev K te sl (.lst (bs.map Dt.bl))) : Ev K (tBM K "list" (rCntD K) te (tCons (tC (.bl b)) tNil)) sl (.int (bs.count b : Nat)) := fun G H σ k f Q q =>
  h G H σ k f _ fun v G1 H1 n1 r1 => by
    cases r1 with
    | lst hs rs =>
      have e := rps_bools rs
      subst e
      exact ⟨.inl ⟨rfl, _, Evl.ex_l n1.k hs⟩, _, bs, b, rfl, rfl, Evl.ex_l n1.k hs, q _ G1 H1 n1 (.int _)⟩
theorem ev_index {bs : List Bool} {j : Nat} (h : Ev K te sl (.lst (bs.map Dt.bl))) (hj : bs[j]? = some true) (hno : ∀ m, m < j → bs[m]? = some false) : Ev K (tBM K "list" (rIndex K) te (tCons (tC (.bl true)) tNil)) sl (.int j) := fun G H σ k f Q q =>
  h G H σ k f _ fun v G1 H1 n1 r1 => by
    cases r1 with
    | lst hs rs =>
      have e := rps_bools rs
      subst e
      refine ⟨.inl ⟨rfl, _, Evl.ex_l n1.k hs⟩, _, _, .bl true, j, .bl true, rfl, rfl, Evl.ex_l n1.k hs, rfl, ?_, by rw [List.getElem?_map, hj]; rfl, rfl, fun m z hm hz => ?_, q _ G1 H1 n1 (.int _)⟩
      · rw [List.all_map]
        exact List.all_eq_true.mpr fun _ _ => rfl
      · rw [List.getElem?_map, hno m hm] at hz
        cases hz
        rfl
end
/-! ### the exception that a suite holds, handed to a def -/
theorem isE {X : Cx} {K : PySem.W.Frag} {D a : Addr} {oe : Obj} (eK : X.K = K) (hp : (a, oe) ∈ X.pn) (C : ExcC K D) (hz : Zc (.ref D) none oe) (hf : ∃ vs, oe.data = .fields vs) : CallR X (.builtin "isinstance") (rIsE K D a) := by
  subst eK
  intro pins s σ H xs us Q I r h
  obtain ⟨c, cv, b, rfl, hcv, e, q⟩ := h
  cases r with
  | cons rx rr =>
    cases rr with
    | cons rt rr =>
      cases rr
      cases rx
      have ec := hcv _ rt
      subst ec
      have hget := (I.pin (a, oe) (List.mem_append.mpr (.inl hp))).1
      obtain ⟨vs, hv⟩ := hf
      have J : PySem.W.InstAt s.heap a oe D none := by
        obtain ⟨oc, od, oda, osl⟩ := oe
        obtain ⟨h1, h2⟩ := hz
        dsimp only at h1 h2 hv
        subst h1 h2 hv
        exact ⟨hget, rfl, rfl, trivial⟩
      exact PySem.W.kia_one (PySem.W.handS_kitx_exc C.hg C.hk C.hs C.hd C.ha C.hn C.ht C.hm) I.kIn J e (fun z => nomatch z) fun tk => ⟨.bl b, H, I.tok tk, rfl, q⟩
theorem ev_isE {K : PySem.W.Frag} {sl : List Sl} {i : Nat} {a D : Addr} {c : V} {cv : Value} {b : Bool} (hi : sl[i]? = some (.raw (.ref a))) (hc : ∀ u, RelV c u → u = cv) (e : PySem.W.kitOne K (.ref D) cv = some b) : Ev K (tCB (rIsE K D a) (tCons (tVar i) (tCons (tC c) tNil))) sl (.bl b) := fun G H σ k f Q q =>
  ⟨.ref a, frd_raw f hi, c, cv, b, rfl, hc, e, q _ G H (.refl k) (.bl b)⟩
/-- called with the exception at p.1, an instance of D, a def hands back the text ans -/
structure FnE (P : Program) (w : World) (K : PySem.W.Frag) (mg : Str → Option Value) (base : Heap) (k : Nat) (f : Addr) (fd : FuncData) (ps : List Str) (D : Addr) (ans : Str) : Prop where
  run : ∀ (A : Around) (outer : List Env) (s : Shared) (H : Hp) (us : List Value) (p : Addr × Obj) (Q : VK), L2H.RoomH k A → Zc (.ref D) none p.2 → (∃ vs, p.2.data = .fields vs) → L2H.PinOk outer H s p → Env0 P w K mg base A outer s H → BindsTo s fd ⟨us, []⟩ (ps.zip us) → us = [.ref p.1] → (∀ H2, Ex H H2 → Q (.str ans) H2) →
    codeAny (model P w) A (.call (.ref f) ⟨us, []⟩) (CR CX0 outer P w H s Q E0) s
section
variable {P : Program} {w : World} {K : PySem.W.Frag} {mg : Str → Option Value} {base : Heap} {x y : Str} {st : Stmt} {N : List Str} {k : Nat}
theorem fnE_of {f D : Addr} {fd : FuncData} {ans : Str} {t : Addr → TS} (F : Fun K x x st f fd) (S : FnScope N [y] (defScope st))
    (h1 : ∀ (cdv : Value) (A : Around) (outer : List Env) (s : Shared) (H : Hp) (a : Addr) (oe : Obj), L2H.RoomH k (A.deeper (envOfC x (defScope st) s.heap.objs.size f cdv)) → Zc (.ref D) none oe → (∃ vs, oe.data = .fields vs) → PSs (L2H.cxH CX0 P w K mg base N x (defScope st) f cdv A outer s H E0 (a, oe)) (defBody st) (t a))
    (h2 : ∀ a, Rt K (t a) (Sl.raw (.ref a) :: List.replicate (N.length - 1) .no) (.str ans)) : FnE P w K mg base (k + 1) f fd [y] D ans := by
  obtain ⟨oc, od, kV, doc, pm, an, cdv, ct, osl, rfl, lk, hcd⟩ := F.ex
  refine ⟨fun A outer s H us p Q hr hz hf pin env0 hb hus hq => ?_⟩
  subst hus
  have inK : K.In s.heap := env0.mod.kin.keeps fun b o e => (env0.bs b o e).1
  have lim : s.heap.NoLimit := env0.mod.nolimit.keeps fun b o e => (env0.bs b o e).1
  have kinds : ∀ z ∈ ([y] : List Str).zip [Value.ref p.1], (defScope st).names.lookup z.1 = some .local ∨ ((defScope st).names.lookup z.1 = some .cell ∧ ((cellsFrom (s.heap.objs.size + 1) (defScope st).names []).lookup z.1).isSome = true) := fun ⟨n, v⟩ hy => by
    rcases S.par n (List.of_mem_zip hy).1 with a | a
    · exact .inl a
    · exact .inr ⟨a, PySem.W.cellsFrom_some _ _ _ (.inl a)⟩
  refine codeAny_call_function hr.depth (inK _ _ lk) rfl S.co S.gen rfl (PySem.W.codeRec_of inK hcd) (hb _ _ _ _ ?_)
  refine wpAny_newFunctionEnv_cells S.kind kinds fun en hen s2 xx => ?_
  subst hen
  refine ⟨lim.keeps xx.toInCall.keep, codeAny_func ?_⟩
  have r : Vals [V.ref p.1] [Value.ref p.1] := .cons rfl .nil
  have I : Inv (L2H.cxH CX0 P w K mg base N x (defScope st) f cdv A outer s H E0 p) [] (L2.start N [.ref p.1]) H s2 := L2H.inv_startH S pin env0 rfl r xx
  have ht := h1 cdv A outer s H p.1 p.2 (hr.deeper _) hz hf
  have read : t p.1 { nx := fun _ _ => False, rt := Q } (L2.start N [.ref p.1]) H := h2 p.1 H H _ (Ex.refl H) (by
    show FrD K H (some (V.ref p.1) :: ([] ++ List.replicate (N.length - 1) none)) _
    exact .cons (.raw _) (frd_start _ .nil)) _ fun v G2 H2 n2 r2 => by
      cases r2
      exact hq H2 n2.h
  refine wpAny_mono (ht.run [] s2 _ H _ I read) (fun fl s' hs => ?_) fun e s' hs => hs
  cases fl with
  | ret u =>
    obtain ⟨v, σ', H', J, rv, q⟩ := hs
    exact ⟨v, H', J.os, J.bare, J.base, J.hok, rv, q⟩
  | next =>
    obtain ⟨_, _, _, q⟩ := hs
    exact False.elim q
  | brk =>
    obtain ⟨_, _, _, q⟩ := hs
    exact False.elim q
  | cont =>
    obtain ⟨_, _, _, q⟩ := hs
    exact False.elim q
end
/-- such a def, by its name; Kd tells for which classes what it answers -/
structure HasE (P : Program) (w : World) (K : PySem.W.Frag) (mg : Str → Option Value) (base : Heap) (k : Nat) (x y : Str) (Kd : Addr → Str → Prop) : Prop where
  ex : ∃ (f : Addr) (fd : FuncData), (∀ D ans, Kd D ans → FnE P w K mg base k f fd [y] D ans) ∧ mg x = some (.ref f) ∧ PySem.W.keepIn K (.ref f) = true ∧ Binds K fd [y] []
/-- the call of such a def with the suite's exception -/
def tKind (Kd : Addr → Str → Prop) (i : Nat) (a : Addr) (cls : Value) (d : Option Addr) : TE := fun σ H Q => ∃ D ans, cls = .ref D ∧ d = none ∧ Kd D ans ∧ σ[i]? = some (some (.ref a)) ∧ ∀ H2, Ex H H2 → Q (.str ans) H2
theorem pe_kind {X : Cx} {Kd : Addr → Str → Prop} {k j i : Nat} {x y n : Str} {a : Addr} {oe : Obj} {cls : Value} {d : Option Addr} {q pos pn : Pos} (hF : HasE X.prog X.w X.K X.mg X.base k x y Kd) (hr : L2H.RoomH j X.A) (hkj : k ≤ j)
    (hp : (a, oe) ∈ X.pn) (hz : Zc cls d oe) (hf : ∃ vs, oe.data = .fields vs) (hN : X.N[i]? = some n) (hv : Vis X.env.scope n) (hg : Gl X x := by rfl)
    (hdb : (x == ("__debug__" : Str)) = false := by decide) (hd : (n == ("__debug__" : Str)) = false := by decide) (hcd : (n == ("__classdict__" : Str)) = false := by decide) (hs : starEach [Expr.Name n pn] X.env = [(false, eval (.Name n pn) X.env)] := by rfl) :
    PE X (.Call (.Name x q) [.Name n pn] [] pos) (tKind Kd i a cls d) := by
  obtain ⟨f, fd, hF, hm, hk, hb⟩ := hF.ex
  refine ⟨fun pins s σ H Q I h => ?_⟩
  obtain ⟨D, ans, rfl, rfl, hKd, hσ, hq⟩ := h
  refine wpAny_Call_Name_kw (ld_glob I hg hm ?_ hdb)
  have ha : PA X [Expr.Name n pn] (tCons (tVar i) tNil) := pa_cons (pe_var hN hv hd hcd) pa_nil hs
  refine PySem.W.callWith_K (h₀ := X.base) I.ok.mod.kin hk (thn (ha.run pos pins s σ H (fun vs H1 => vs = [.ref a] ∧ H1 = H) I ⟨.ref a, hσ, rfl, rfl⟩) fun us s1 ⟨vs, H1, I1, r, ev, eH⟩ => ⟨I1.kIn, ?_⟩) hs rfl
  subst ev eH
  have P1 := I1.pin (a, oe) (List.mem_append_left _ hp)
  have pin : L2H.PinOk X.stack H1 s1 (a, oe) := ⟨P1.1, P1.2.1, fun hmm => (List.mem_cons.mp (I1.stkSub a hmm)).elim P1.2.2.1 P1.2.2.2.1, P1.2.2.2.2⟩
  cases r with
  | cons ru rn =>
    cases rn
    cases ru
    have b := hb s1 [.ref a] I1.kIn rfl
    refine wpAny_call (codeAny_mono ((hF D ans hKd).run X.A X.stack s1 H1 _ (a, oe) Q ⟨by have := hr.dp; omega, by have := hr.un; omega⟩ hz hf pin I1.env0 b rfl hq) fun rr s' hh => ?_)
    cases rr with
    | error e => exact False.elim hh
    | ok fl =>
      cases fl with
      | ret u => exact I1.after hh
      | next => exact False.elim hh
      | brk => exact False.elim hh
      | cont => exact False.elim hh
theorem roomS {j : Nat} {A : Around} {v : Option Value} (hr : Room j A) : L2H.RoomH j (A.mark v) := ⟨hr.dp, hr.un⟩
theorem unH {j : Nat} {A : Around} (hr : L2H.RoomH j A) : A.units + 64 < cLine := by
  have := hr.un
  omega
theorem bmK {X : Cx} {K : PySem.W.Frag} {c : Expr} {to : TE} {t : TA} {T : String} {r : V → List V → Hp → VK → Prop} (eK : X.K = K) (h : PE X c (tBM X.K T r to t)) : PE X c (tBM K T r to t) := eK ▸ h
/-! ### one of several defs, picked out of a list, called -/
structure FnAt (P : Program) (w : World) (K : PySem.W.Frag) (mg : Str → Option Value) (base : Heap) (CX : CXT) (k : Nat) (f : Addr) (sp : Sp) : Prop where
  ex : ∃ (fd : FuncData) (ps : List Str), FnOk P w K mg base CX k f fd ps sp ∧ PySem.W.keepIn K (.ref f) = true ∧ Binds K fd ps []
theorem FnAt.of {P : Program} {w : World} {K : PySem.W.Frag} {mg : Str → Option Value} {base : Heap} {CX : CXT} {k j : Nat} {f : Addr} {x : Str} {ps : List Str} {sp : Sp} (h : Has P w K mg base CX k x ps sp) (e : mg x = some (.ref f)) (hk : k ≤ j) : FnAt P w K mg base CX j f sp := by
  obtain ⟨g, fd, F, hm, kp, b⟩ := h.ex
  rw [e] at hm
  cases hm
  exact ⟨fd, ps, F.mono hk, kp, b⟩
/-- a def that lets nothing out may stand among such as do -/
theorem FnAt.calm {P : Program} {w : World} {K : PySem.W.Frag} {mg : Str → Option Value} {base : Heap} {k : Nat} {f : Addr} {sp : Sp} (h : FnAt P w K mg base CX0 k f sp) : FnAt P w K mg base (L2.CX P w) k f sp := by
  obtain ⟨fd, ps, F, kp, b⟩ := h.ex
  refine ⟨fd, ps, ⟨F.len, fun A outer s H args us vs Q E hr he hb hv hs => codeAny_mono (F.run A outer s H args us vs Q E hr he hb hv hs) fun r s' hh => ?_⟩, kp, b⟩
  cases r with
  | error e => exact False.elim hh
  | ok fl =>
    cases fl with
    | ret u => exact hh
    | next => exact False.elim hh
    | brk => exact False.elim hh
    | cont => exact False.elim hh
/-! ### an own class that may be raised -/
structure Cl (K : PySem.W.Frag) (mg : Str → Option Value) (x : Str) (C : Addr) : Prop where
  g : mg x = some (.ref C)
  k : PySem.W.keepIn K (.ref C) = true
  b : PySem.W.subIn K (.ref C) (.type "BaseException") = some true
  t : PySem.W.typeIn K (.ref C) = some (.type "type")
  x : PySem.W.excIn K C [.type "ValueError", .type "Exception", .type "BaseException", .type "object"] "ValueError.__new__" = true
/-- a def that may raise, told by its data: it hands back x (None also by its end), or raises cls -/
def Rx (K : PySem.W.Frag) (ts : XK → TS) (sl : List Sl) (x : Option Dt) (cls : Value) : Prop := ∀ (G H : Hp) (σ : L2.St), Ex G H → FrD K G σ sl → ∀ (D : Ends) (E : XK), (∀ d, x = some d → ∀ v G2 H2, Nx G H G2 H2 → Rp K G2 v d → D.rt v H2) → (x = some .non → ∀ σ2 G2 H2, Nx G H G2 H2 → D.nx σ2 H2) → (x = none → ∀ G2 H2, Nx G H G2 H2 → E cls none H2) → ts E D σ H
abbrev tRs (C : Addr) (E : XK) : TS := fun _ σ H => (fun (_ : L2.St) (H : Hp) (Q : XK) => Q (.ref C) none H) σ H fun cls d H' => (fun (cls : Value) (d : Option Addr) (_ : L2.St) (H : Hp) => E cls d H) cls d σ H'
section
variable {K : PySem.W.Frag} {sl sl1 : List Sl} {te : TE} {tc : TT} {ta : TA} {t : TS} {u : XK → TS} {x : Option Dt} {d : Dt} {c : Value} {C : Addr} {xs : List Dt} {R : List Dt → Dt → Prop} {XF : List Dt → Value → Prop} {b : Bool}
theorem rx_rt (h : Rt K t sl d) : Rx K (fun _ => t) sl (some d) c := fun G H σ k f D E q _ _ => h G H σ k f D (q d rfl)
theorem rx_nt (h : Nt K t sl sl1) (g : Rx K u sl1 x c) : Rx K (fun E => tSeq t (u E)) sl x c := fun G H σ k f D E q1 q2 q3 =>
  h G H σ k f _ fun σ1 G1 H1 n1 f1 => g G1 H1 σ1 n1.k f1 D E (fun d e v G2 H2 n2 r2 => q1 d e v G2 H2 (n1.trans n2) r2) (fun e σ2 G2 H2 n2 => q2 e σ2 G2 H2 (n1.trans n2)) fun e G2 H2 n2 => q3 e G2 H2 (n1.trans n2)
theorem rx_ok (h : EvA K ta sl xs) (hr : R xs d) (g : Rx K u sl x c) : Rx K (fun E => tSeq (tDrop (tCall (spX K R XF) [] E ta)) (u E)) sl x c := fun G H σ k f D E q1 q2 q3 =>
  h G H σ k f _ fun vs G1 H1 n1 r1 => ⟨xs, G1, n1.k, rps_nil r1, .inl ⟨d, hr, fun v G2 H2 n2 r2 => by
    have n12 := n1.trans n2
    exact g G2 H2 σ n2.k (FrD.mono n12.g f) D E (fun d e v G3 H3 n3 r3 => q1 d e v G3 H3 (n12.trans n3) r3) (fun e σ2 G3 H3 n3 => q2 e σ2 G3 H3 (n12.trans n3)) fun e G3 H3 n3 => q3 e G3 H3 (n12.trans n3)⟩⟩
theorem rx_out (h : EvA K ta sl xs) (hr : XF xs c) : Rx K (fun E => tSeq (tDrop (tCall (spX K R XF) [] E ta)) (u E)) sl none c := fun G H σ k f D E q1 q2 q3 =>
  h G H σ k f _ fun vs G1 H1 n1 r1 => ⟨xs, G1, n1.k, rps_nil r1, .inr ⟨c, hr, fun G2 H2 n2 => q3 rfl G2 H2 (n1.trans n2)⟩⟩
theorem rx_ret (h : EvA K ta sl xs) (hr : R xs d) : Rx K (fun E => tRet (tCall (spX K R XF) [] E ta)) sl (some d) c := fun G H σ k f D E q1 q2 q3 =>
  h G H σ k f _ fun vs G1 H1 n1 r1 => ⟨xs, G1, n1.k, rps_nil r1, .inl ⟨d, hr, fun v G2 H2 n2 r2 => q1 d rfl v G2 H2 (n1.trans n2) r2⟩⟩
theorem rx_retout (h : EvA K ta sl xs) (hr : XF xs c) : Rx K (fun E => tRet (tCall (spX K R XF) [] E ta)) sl none c := fun G H σ k f D E q1 q2 q3 =>
  h G H σ k f _ fun vs G1 H1 n1 r1 => ⟨xs, G1, n1.k, rps_nil r1, .inr ⟨c, hr, fun G2 H2 n2 => q3 rfl G2 H2 (n1.trans n2)⟩⟩
theorem rx_no {s : XK → TS} (h : EvT K tc sl b) (e : b = false) (g : Rx K u sl x c) : Rx K (fun E => tSeq (tIfS tc (s E) tNext) (u E)) sl x c := fun G H σ k f D E q1 q2 q3 => by
  subst e
  exact h G H σ k f _ fun G1 H1 n1 => g G1 H1 σ n1.k (FrD.mono n1.g f) D E (fun d e v G2 H2 n2 r2 => q1 d e v G2 H2 (n1.trans n2) r2) (fun e σ2 G2 H2 n2 => q2 e σ2 G2 H2 (n1.trans n2)) fun e G2 H2 n2 => q3 e G2 H2 (n1.trans n2)
theorem rx_raise (h : EvT K tc sl b) (e : b = true) : Rx K (fun E => tSeq (tIfS tc (tRs C E) tNext) (u E)) sl none (.ref C) := fun G H σ k f D E q1 q2 q3 => by
  subst e
  exact h G H σ k f _ fun G1 H1 n1 => q3 rfl G1 H1 n1
theorem rx_no1 {s : XK → TS} (h : EvT K tc sl b) (e : b = false) : Rx K (fun E => tIfS tc (s E) tNext) sl (some .non) c := fun G H σ k f D E q1 q2 q3 => by
  subst e
  exact h G H σ k f _ fun G1 H1 n1 => q2 rfl σ G1 H1 n1
theorem rx_raise1 (h : EvT K tc sl b) (e : b = true) : Rx K (fun E => tIfS tc (tRs C E) tNext) sl none (.ref C) := fun G H σ k f D E q1 q2 q3 => by
  subst e
  exact h G H σ k f _ fun G1 H1 n1 => q3 rfl G1 H1 n1
end
section
variable {P : Program} {w : World} {K : PySem.W.Frag} {mg : Str → Option Value} {base : Heap} {x : Str} {st : Stmt} {N ps : List Str} {k : Nat}
/-- a def that may raise: where R tells an answer it hands it back, else XF's class -/
theorem Dd.raises {R : List Dt → Dt → Prop} {XF : List Dt → Value → Prop} {t : XK → TS} (D : Dd K mg x st ps) (S : FnScope N ps (defScope st)) (hl : ∀ ds d, R ds d → ds.length = ps.length) (hl2 : ∀ ds c, XF ds c → ds.length = ps.length)
    (h1 : ∀ (f : Addr) (cdv : Value) (A : Around) (outer : List Env) (s : Shared) (H : Hp) (E : XK), Room k (A.deeper (envOfC x (defScope st) s.heap.objs.size f cdv)) → PSs (cxOf (L2.CX P w) P w K mg base N x (defScope st) f cdv A outer s H E) (defBody st) (t E))
    (h2 : ∀ ds d, R ds d → Rx K t (ds.map Sl.d ++ List.replicate (N.length - ps.length) .no) (some d) .none) (h3 : ∀ ds c, XF ds c → Rx K t (ds.map Sl.d ++ List.replicate (N.length - ps.length) .no) none c) : Has P w K mg base (L2.CX P w) (k + 1) x ps (spX K R XF) := by
  obtain ⟨f, fd, F, hm, b⟩ := D.ex
  refine ⟨f, fd, F.okX S (fun vs H Q E h => ?_) (fun cdv A outer s H vs Q E hr h => ⟨t E, h1 f cdv A outer s H E hr, ?_⟩), hm, F.kp, b⟩
  · obtain ⟨ds, G, _, r, h⟩ := h
    rw [r.length]
    rcases h with ⟨d, hR, _⟩ | ⟨c, hX, _⟩
    · exact hl ds d hR
    · exact hl2 ds c hX
  · obtain ⟨ds, G, kG, r, h⟩ := h
    rcases h with ⟨d, hR, q⟩ | ⟨c, hX, q⟩
    · exact h2 ds d hR G H _ kG (start_ok r (hl ds d hR)) _ E (fun d' e v G2 H2 n2 r2 => by cases e; exact q v G2 H2 n2 r2) (fun e σ2 G2 H2 n2 => by cases e; exact q .non G2 H2 n2 .non) (fun z => by cases z)
    · exact h3 ds c hX G H _ kG (start_ok r (hl2 ds c hX)) _ E (fun d' e => by cases e) (fun e => by cases e) fun _ => q
end
theorem frd_len {K : PySem.W.Frag} {G : Hp} {σ : L2.St} {sl : List Sl} (f : FrD K G σ sl) : σ.length = sl.length := Paired.length f
theorem passC {X : Cx} {E : XK} (tk : Takes X (fun cls d _ H => E cls d H)) : Passes (L2.CX X.prog X.w) X E := passes_call tk fun _ _ _ _ h => h
end Z
namespace Z
open PySem PySem.Spec PyProof.Rows L2
open Evl (Ex)
/-! ### more displays and calls: {}, str(n), list(t), t + u, all([..]), a comprehension over a list of data -/
def tDct : TE := fun _ H Q => ∀ p, H p = none → Q (.ref p) (upd H p (.dK []))
theorem pe_dct {X : Cx} {pos : Pos} : PE X (.Dict [] [] pos) tDct := pe_dnewK
theorem allK {X : Cx} {K : PySem.W.Frag} (e : X.K = K) (hc : X.calm = true) : CallR X (.builtin "all") (rAll K) := e ▸ cr_all hc
section
variable {K : PySem.W.Frag} {sl : List Sl} {ta tb te tc tl : TE} {x y z : Dt}
theorem ev_dct : Ev K tDct sl .dct := fun G H σ k f Q q => fun p hp => q _ _ _ (.new k hp) (.dct upd_same)
theorem rc_all {bs : List Bool} : RcD K (rAll K) [.lst (bs.map Dt.bl)] (.bl (bs.all id)) := fun G H k vs r Q q => by
  obtain ⟨v, rfl, h1⟩ := rps1 r
  cases h1 with
  | lst hs rs =>
    have e := rps_bools rs
    subst e
    exact ⟨_, bs, rfl, Evl.ex_l k hs, q _ G H (.refl k) (.bl _)⟩
theorem frd_wipe {G : Hp} : ∀ {σ : L2.St} {sl : List Sl} (i : Nat), FrD K G σ sl → FrD K G (σ.set i none) (sl.set i .no)
  | _, _, _, .nil => .nil
  | _, _, 0, .cons _ t => .cons (.no _) t
  | _, _, i + 1, .cons r t => .cons r (frd_wipe i t)
theorem Rps.snoc {G : Hp} {vs : List V} {ds : List Dt} {v : V} {d : Dt} (h : Rps K G vs ds) (r : Rp K G v d) : Rps K G (vs ++ [v]) (ds ++ [d]) := h.append (.cons r .nil)
/-- [te for x in tl], x in slot i -/
theorem ev_lc {i : Nat} {ds : List Dt} (f : Dt → Dt) (h : Ev K tl sl (.lst ds)) (hn : ds.length ≤ 90000) (he : ∀ d ∈ ds, Ev K te ((sl.set i .no).set i (.d d)) (f d)) : Ev K (tLc (iList K tl) (gName i) tYes te [i]) sl (.lst (ds.map f)) := fun G H σ k fr Q q =>
  h G H σ k fr _ fun v G1 H1 n1 r1 => by
    cases r1 with
    | lst hs rs =>
      rename_i a xs
      have hlen := rs.length
      refine ⟨a, rfl, ⟨_, Evl.ex_l n1.k hs⟩, fun Dl hD => ?_⟩
      have gD : G1 Dl = none := free_of n1.k hD
      refine lc_list (K := K) (a := a) (xs := xs) (fun j H' => ∃ G' vs, Ex G1 G' ∧ Ex H1 H' ∧ Ex G' H' ∧ (∀ c, G1 c = none → H1 c ≠ none → G' c = none) ∧ G' Dl = none ∧ H' Dl = some (.lst vs) ∧ Rps K G' vs ((ds.map f).take j))
        ⟨G1, [], Ex.refl _, Ex.new hD, n1.k.trans (Ex.new hD), fun _ z _ => z, gD, upd_same, .nil⟩ (fun j H' _ ⟨G', vs, e1, e2, _⟩ => Evl.ex_l (n1.k.trans e2) hs) ?_ ?_
      · rintro j x H' hj ⟨G', vs, e1, e2, e3, e4, e5, e6, e7⟩
        have hj2 : j < xs.length := (List.getElem?_eq_some_iff.mp hj).1
        have hd : ds[j]? = some ds[j] := List.getElem?_eq_getElem (by omega)
        obtain ⟨x', hx', rx⟩ := rs.get hd
        rw [hj] at hx'
        cases hx'
        refine ⟨?_, ?_⟩
        · show ((wipe σ [i]).set i (some x)).set i none = σ.set i none
          show (((σ.set i none)).set i (some x)).set i none = σ.set i none
          rw [List.set_set, List.set_set]
        · have fr1 : FrD K G' ((σ.set i none).set i (some x)) ((sl.set i .no).set i (.d ds[j])) := frd_set (.d (rx.mono e1)) i (frd_wipe i (FrD.mono (n1.g.trans e1) fr))
          refine he ds[j] (List.getElem_mem _) G' H' _ e3 fr1 _ fun u G2 H2 n2 r2 => ?_
          have g2D : G2 Dl = none := n2.f Dl e5 (by rw [e6]; intro z; cases z)
          have hl := e7.length
          refine ⟨vs, n2.h Dl _ e6, Nat.lt_of_lt_of_le (m := 100000) (by rw [hl, List.length_take, List.length_map]; omega) (by decide), G2, vs ++ [u], e1.trans n2.g, Evl.Ex.mut (e2.trans n2.h) hD, Evl.Ex.mut n2.k g2D, fun c c1 c2 => n2.f c (e4 c c1 c2) (ne_none e2 c2), g2D, upd_same, ?_⟩
          have et : (ds.map f).take (j + 1) = (ds.map f).take j ++ [f ds[j]] := by
            rw [List.take_add_one, List.getElem?_map, hd]
            rfl
          rw [et]
          exact (e7.mono n2.g).snoc r2
      · rintro H' ⟨G', vs, e1, e2, e3, e4, e5, e6, e7⟩
        rw [hlen, show ds.length = (ds.map f).length from (List.length_map ..).symm, List.take_length] at e7
        refine q _ (upd G' Dl (.lst vs)) H' (n1.trans ⟨e1.trans (Ex.new e5), e2, fun b o hb => ?_, fun c c1 c2 => ?_⟩) (.lst (.inl (.inl upd_same)) (e7.mono (Ex.new e5)))
        · by_cases z : b = Dl
          · subst z
            rw [upd_same] at hb
            rw [e6]
            exact hb
          · rw [upd_ne z] at hb
            exact e3 b o hb
        · have z : c ≠ Dl := fun z => by
            rw [z] at c2
            exact c2 hD
          rw [upd_ne z]
          exact e4 c c1 c2
end
/-! ### what a fraction is, of anything -/
def isWh : Dt → Bool
  | .int _ => true
  | _ => false
def isFr : Dt → Bool
  | .tup [.int t, .int b] => decide (0 < b) && (((Nat.gcd t.natAbs b.natAbs : Nat) : Int) == 1)
  | _ => false
def isHp : Dt → Bool
  | .tup [x, y] => isFr x && isFr y
  | _ => false
theorem isFr_len {ds : List Dt} (h : ds.length ≠ 2) : isFr (.tup ds) = false := by
  unfold isFr
  split
  · rename_i t b e
    injection e with e
    rw [e] at h
    exact absurd rfl h
  · rfl
theorem isHp_len {ds : List Dt} (h : ds.length ≠ 2) : isHp (.tup ds) = false := by
  unfold isHp
  split
  · rename_i t b e
    injection e with e
    rw [e] at h
    exact absurd rfl h
  · rfl
theorem kb_tup (x : Dt) : ∃ b, kitB (tyN x) "tuple" = some b ∧ (b = true ↔ ∃ ds, x = .tup ds) := by
  cases x with
  | tup ds => exact ⟨true, (by simp only [tyN]; decide +kernel), by simp⟩
  | _ => exact ⟨false, (by simp only [tyN]; decide +kernel), by simp⟩
theorem kb_whole (x : Dt) : ∃ a b, kitB (tyN x) "int" = some a ∧ kitB (tyN x) "bool" = some b ∧ (a && !b) = isWh x := by
  cases x with
  | int i => exact ⟨true, false, (by simp only [tyN]; decide +kernel), (by simp only [tyN]; decide +kernel), rfl⟩
  | bl b => exact ⟨true, true, (by simp only [tyN]; decide +kernel), (by simp only [tyN]; decide +kernel), rfl⟩
  | _ => exact ⟨false, false, (by simp only [tyN]; decide +kernel), (by simp only [tyN]; decide +kernel), rfl⟩
theorem isWh_iff {x : Dt} : isWh x = true ↔ ∃ i, x = .int i := by
  cases x <;> simp [isWh]
theorem two_of {α : Type} {ds : List α} (h : ds.length = 2) : ∃ x y, ds = [x, y] := by
  match ds, h with
  | [x, y], _ => exact ⟨x, y, rfl⟩
/-- a pair of whole numbers with a bottom of a size that // serves -/
def Sz (x : Dt) : Prop := ∀ t b : Int, x = .tup [.int t, .int b] → Bt 9000 b
def Sz2 (x : Dt) : Prop := Sz x ∧ ∀ a b : Dt, x = .tup [a, b] → Sz a ∧ Sz b
theorem sz_fq {q : Rat} (h : Bt 9000 (q.den : Int)) : Sz (fq q) := fun t b e => by
  injection e with e
  injection e with e1 e2
  injection e2 with e2 _
  injection e2 with e2
  rw [← e2]
  exact h
theorem isFr_pair {t b : Int} (h : 0 < b) : decide (((t : Rat) / (b : Rat)).num = t ∧ ((((t : Rat) / (b : Rat)).den : Nat) : Int) = b) = (((Nat.gcd t.natAbs b.natAbs : Nat) : Int) == 1) := by
  have h0 : b ≠ 0 := by omega
  rw [← low_num h0, ← low_den h0]
  have e : dvs t b = ((Nat.gcd t.natAbs b.natAbs : Nat) : Int) := if_neg (by omega)
  have gp := gcd_pos (t := t) h0
  rw [e]
  by_cases g1 : Nat.gcd t.natAbs b.natAbs = 1
  · rw [g1]
    simp
  · have hb : ¬ b.fdiv ((Nat.gcd t.natAbs b.natAbs : Nat) : Int) = b := by
      rw [Int.fdiv_eq_ediv_of_nonneg _ (by omega)]
      have : b / ((Nat.gcd t.natAbs b.natAbs : Nat) : Int) < b := Int.ediv_lt_self_of_pos_of_ne_one h (by omega) |> fun z => z
      omega
    rw [decide_eq_false (fun z => hb z.2)]
    exact (beq_eq_false_iff_ne.mpr (by omega)).symm
theorem eqv_pair (a b c d : Int) : PyData.eqv (.tuple [.int a, .int b]) (.tuple [.int c, .int d]) = decide (a = c ∧ b = d) := by
  simp only [PyData.eqv, PyData.eqvAll, Bool.and_true]
  rw [Bool.eq_iff_iff]
  simp
theorem sz2_p {a b : Dt} (h : Sz (.tup [a, b])) (ha : Sz a) (hb : Sz b) : Sz2 (.tup [a, b]) := ⟨h, fun x y e => by
  cases e
  exact ⟨ha, hb⟩⟩
/-! ### is True, is not True -/
theorem r2_isB {K : PySem.W.Frag} {a b : Bool} : R2D K rIsB (.bl a) (.bl b) (.bl (decide (a = b))) := fun G H k v w r1 r2 Q q => by
  cases r1
  cases r2
  exact ⟨a, b, rfl, rfl, q _ G H (.refl k) (.bl _)⟩
theorem r2_notB {K : PySem.W.Frag} {a b : Bool} : R2D K rNotB (.bl a) (.bl b) (.bl (!decide (a = b))) := fun G H k v w r1 r2 Q q => by
  cases r1
  cases r2
  exact ⟨a, b, rfl, rfl, q _ G H (.refl k) (.bl _)⟩
/-! ### the loop over the cells -/
end Z
namespace Z
open PySem PySem.Spec PyProof.Rows L2
open Evl (Ex)
/-! ### speeds -/
def Sp (q : Rat) : Prop := -1 < q ∧ q < 1
def isSpD : Dt → Bool
  | .tup [.int t, .int b] => isFr (.tup [.int t, .int b]) && decide ((t.natAbs : Int) < b)
  | _ => false
theorem isFr_fq (q : Rat) : isFr (fq q) = true := by
  show (decide (0 < (q.den : Int)) && (((Nat.gcd q.num.natAbs (q.den : Int).natAbs : Nat) : Int) == 1)) = true
  have := q.reduced
  unfold Nat.Coprime at this
  rw [decide_eq_true (den_pos q), Int.natAbs_natCast, this]
  rfl
theorem isFr_iff {x : Dt} : isFr x = true ↔ ∃ q : Rat, x = fq q := by
  constructor
  · intro h
    match x, h with
    | .tup [.int t, .int b], h =>
      have h : (decide (0 < b) && (((Nat.gcd t.natAbs b.natAbs : Nat) : Int) == 1)) = true := h
      rw [Bool.and_eq_true, decide_eq_true_eq, beq_iff_eq] at h
      have hb : ((b.natAbs : Nat) : Int) = b := by omega
      refine ⟨⟨t, b.natAbs, by omega, by unfold Nat.Coprime; omega⟩, ?_⟩
      show _ = Dt.tup [.int t, .int (b.natAbs : Int)]
      rw [hb]
  · rintro ⟨q, rfl⟩
    exact isFr_fq q
theorem isSpD_fq (q : Rat) : isSpD (fq q) = decide ((q.num.natAbs : Int) < (q.den : Int)) := by
  show (isFr (fq q) && _) = _
  rw [isFr_fq]
  rfl
theorem isSpD_and (x : Dt) : isSpD x = (isFr x && isSpD x) := by
  cases h : isFr x with
  | true => rfl
  | false =>
    unfold isSpD
    split
    · rw [h]
      rfl
    · rfl
theorem sp_iff {q : Rat} : Sp q ↔ (q.num.natAbs : Int) < (q.den : Int) := by
  unfold Sp
  rw [Rat.lt_iff, Rat.lt_iff]
  have e1 : (1 : Rat).num = 1 := rfl
  have e2 : (1 : Rat).den = 1 := rfl
  have e3 : (-1 : Rat).num = -1 := rfl
  have e4 : (-1 : Rat).den = 1 := rfl
  rw [e1, e2, e3, e4]
  omega
theorem isSpD_of {q : Rat} (h : Sp q) : isSpD (fq q) = true := by
  rw [isSpD_fq]
  exact decide_eq_true (sp_iff.mp h)
theorem isSpD_iff {x : Dt} : isSpD x = true ↔ ∃ q : Rat, Sp q ∧ x = fq q := by
  constructor
  · intro h
    have h1 := h
    rw [isSpD_and, Bool.and_eq_true] at h1
    obtain ⟨q, rfl⟩ := isFr_iff.mp h1.1
    rw [isSpD_fq] at h
    exact ⟨q, sp_iff.mpr (of_decide_eq_true h), rfl⟩
  · rintro ⟨q, h, rfl⟩
    exact isSpD_of h
theorem sp_neg {q : Rat} (h : Sp q) : Sp (-q) := by
  unfold Sp at *
  grind
theorem sp_pos {x y : Rat} (hx : Sp x) (hy : Sp y) : 0 < 1 + x * y := by
  unfold Sp at *
  have a := Rat.mul_pos (show 0 < 1 + x by grind) (show 0 < 1 + y by grind)
  have b := Rat.mul_pos (show 0 < 1 - x by grind) (show 0 < 1 - y by grind)
  grind
theorem sp_ne {x y : Rat} (hx : Sp x) (hy : Sp y) : 1 + x * y ≠ 0 := by
  have := sp_pos hx hy
  grind
theorem div_lt_one {a b : Rat} (h : 0 < b) (h1 : a < b) : a / b < 1 := by
  rw [Rat.div_lt_iff h]
  grind
theorem neg_one_lt_div {a b : Rat} (h : 0 < b) (h1 : -b < a) : -1 < a / b := by
  rw [Rat.lt_div_iff h]
  grind
theorem sp_joined {x y : Rat} (hx : Sp x) (hy : Sp y) : Sp ((x + y) / (1 + x * y)) := by
  have hp := sp_pos hx hy
  unfold Sp at hx hy
  have a := Rat.mul_pos (show 0 < 1 + x by grind) (show 0 < 1 + y by grind)
  have b := Rat.mul_pos (show 0 < 1 - x by grind) (show 0 < 1 - y by grind)
  exact ⟨neg_one_lt_div hp (by grind), div_lt_one hp (by grind)⟩
theorem fq_neg (y : Rat) : (Dt.tup [.int (-y.num), .int (y.den : Int)]) = fq (-y) := by
  unfold fq
  rw [Rat.neg_num]
  rfl
theorem fq_neg0 (y : Rat) : (Dt.tup [.int (0 - y.num), .int (y.den : Int)]) = fq (-y) := by
  rw [Int.zero_sub]
  exact fq_neg y
@[irreducible] def jn (x y : Rat) : Rat := (x + y) / (1 + x * y)
theorem jn_def (x y : Rat) : jn x y = (x + y) / (1 + x * y) := by unfold jn; rfl
theorem sp_jn {x y : Rat} (hx : Sp x) (hy : Sp y) : Sp (jn x y) := by rw [jn_def]; exact sp_joined hx hy
theorem jn_back {x y : Rat} (hx : Sp x) (hy : Sp y) : jn (jn x y) (-y) = x := by
  have h1 := sp_ne hx hy
  have h2 : 1 - y * y ≠ 0 := by
    have := sp_ne hy (sp_neg hy)
    grind
  have h3 := sp_ne (sp_joined hx hy) (sp_neg hy)
  rw [jn_def, jn_def]
  grind
theorem jn_low (x y : Rat) (h : 1 + x * y ≠ 0) : ((x.num * (y.den : Int) + y.num * (x.den : Int) : Int) : Rat) / (((x.den : Int) * (y.den : Int) + x.num * y.num : Int) : Rat) = jn x y := by
  have e := fq_self x
  have e2 := fq_self y
  have d0 : ((x.den : Int) : Rat) ≠ 0 := by
    have := den_ne x
    exact_mod_cast this
  have d1 : ((y.den : Int) : Rat) ≠ 0 := by
    have := den_ne y
    exact_mod_cast this
  rw [Rat.intCast_add, Rat.intCast_add, Rat.intCast_mul, Rat.intCast_mul, Rat.intCast_mul, Rat.intCast_mul, jn_def]
  generalize (x.num : Rat) = n at *
  generalize ((x.den : Int) : Rat) = b at *
  generalize (y.num : Rat) = m at *
  generalize ((y.den : Int) : Rat) = c at *
  subst e
  subst e2
  grind
theorem jn_low_ne (x y : Rat) (h : 1 + x * y ≠ 0) : (x.den : Int) * (y.den : Int) + x.num * y.num ≠ 0 := fun z => by
  have e := fq_self x
  have e2 := fq_self y
  have d0 : ((x.den : Int) : Rat) ≠ 0 := by
    have := den_ne x
    exact_mod_cast this
  have d1 : ((y.den : Int) : Rat) ≠ 0 := by
    have := den_ne y
    exact_mod_cast this
  have z2 : (((x.den : Int) * (y.den : Int) + x.num * y.num : Int) : Rat) = 0 := by
    rw [z]
    rfl
  rw [Rat.intCast_add, Rat.intCast_mul, Rat.intCast_mul] at z2
  generalize (x.num : Rat) = n at *
  generalize ((x.den : Int) : Rat) = b at *
  generalize (y.num : Rat) = m at *
  generalize ((y.den : Int) : Rat) = c at *
  subst e
  subst e2
  grind
theorem bq_jn {n m : Nat} {x y : Rat} (h1 : Bq n x) (h2 : Bq m y) (h : 1 + x * y ≠ 0) : Bq (n + m + 1) (jn x y) := by
  rw [← jn_low x y h]
  exact bq_div (jn_low_ne x y h) (bt_add (bt_mul h1.1 h2.2) (bt_mul h2.1 h1.2) (by omega) (by omega)) (bt_add (bt_mul h1.2 h2.2) (bt_mul h1.1 h2.1) (by omega) (by omega))
/-- sizes for which two speeds may be put together -/
def Jb (x y : Rat) : Prop := ∃ n m, Bq n x ∧ Bq m y ∧ n + m + 2 ≤ 4400
def R_joined (ds : List Dt) (d : Dt) : Prop := ∃ x y : Rat, ds = [fq x, fq y] ∧ Jb x y ∧ 1 + x * y ≠ 0 ∧ d = fq (jn x y)
def R_tog (ds : List Dt) (d : Dt) : Prop := ∃ x y : Rat, ds = [fq x, fq y] ∧ Sp x ∧ Sp y ∧ Jb x y ∧ d = fq (jn x y)
theorem joined_ok {x y : Rat} (h1 : Jb x y) (h : 1 + x * y ≠ 0) : R_joined [fq x, fq y] (fq (jn x y)) := ⟨x, y, rfl, h1, h, rfl⟩
theorem Jb.neg {x y : Rat} (h : Jb x y) : Jb x (-y) := by
  obtain ⟨n, m, a, b, c⟩ := h
  exact ⟨n, m, a, bq_neg b, c⟩
/-! ### drawn out of a list -/
def AllL (P : Dt → Prop) : List Dt → Prop
  | [] => True
  | x :: r => P x ∧ AllL P r
theorem allL_get {P : Dt → Prop} : ∀ {xs : List Dt} {k : Nat}, AllL P xs → k < xs.length → ∃ x, xs[k]? = some x ∧ P x
  | [], _, _, h => absurd h (Nat.not_lt_zero _)
  | x :: r, 0, h, _ => ⟨x, rfl, h.1⟩
  | x :: r, k + 1, h, hk => by
    obtain ⟨y, h1, h2⟩ := allL_get (k := k) h.2 (by simpa using hk)
    exact ⟨y, by simpa using h1, h2⟩
theorem hit {P : Dt → Prop} {xs : List Dt} {m n : Int} (h0 : 0 ≤ m) (h1 : m < n) (hn : n = xs.length) (h : AllL P xs) : ∃ x, atI xs m = some x ∧ P x := by
  obtain ⟨k, rfl⟩ : ∃ k : Nat, m = (k : Int) := ⟨m.toNat, by omega⟩
  obtain ⟨x, h2, h3⟩ := allL_get (k := k) h (by omega)
  exact ⟨x, atI_nat h2, h3⟩
theorem lg64 {i : Int} (h0 : 0 ≤ i) (h : i < 2 ^ 64) : i.natAbs.log2 < 9000 := by
  have h2 : Bt 64 i := by
    show i.natAbs < 2 ^ 64
    omega
  have := log2_of h2 (by decide)
  omega
/-! ### plain speeds by a stretch s: (s s - 1) / (s s + 1) -/
abbrev pl (s : Rat) : Rat := (s * s - 1) / (s * s + 1)
theorem ss_pos {s : Rat} (h : s ≠ 0) : 0 < s * s := by
  rcases (by grind : s < 0 ∨ s = 0 ∨ 0 < s) with a | a | a
  · have := Rat.mul_pos (show 0 < -s by grind) (show 0 < -s by grind)
    grind
  · exact absurd a h
  · exact Rat.mul_pos a a
theorem pl_sp {s : Rat} (h : 0 < s) : Sp (pl s) := by
  have := Rat.mul_pos h h
  exact ⟨neg_one_lt_div (by grind) (by grind), div_lt_one (by grind) (by grind)⟩
theorem pl_low (s : Rat) (h : 0 < s) : ((s.num * s.num - (s.den : Int) * (s.den : Int) : Int) : Rat) / ((s.num * s.num + (s.den : Int) * (s.den : Int) : Int) : Rat) = pl s := by
  have e := fq_self s
  have d0 : ((s.den : Int) : Rat) ≠ 0 := by
    have := den_ne s
    exact_mod_cast this
  have ss := Rat.mul_pos h h
  rw [Rat.intCast_sub, Rat.intCast_add, Rat.intCast_mul, Rat.intCast_mul]
  generalize (s.num : Rat) = n at *
  generalize ((s.den : Int) : Rat) = b at *
  unfold pl
  subst e
  have h1 : n * n + b * b ≠ 0 := by
    have := ss_pos d0
    have h2 : n / b * (n / b) * (b * b) = n * n := by grind
    have h3 := Rat.mul_pos ss this
    grind
  grind
theorem pl_low_ne (s : Rat) : s.num * s.num + (s.den : Int) * (s.den : Int) ≠ 0 := by
  have a := den_pos s
  have b := Int.mul_pos a a
  have c : 0 ≤ s.num * s.num := by
    rw [← Int.natAbs_mul_self]
    omega
  omega
theorem bq_pl {n : Nat} {s : Rat} (h : Bq n s) (h0 : 0 < s) : Bq (n + n + 1) (pl s) := by
  rw [← pl_low s h0]
  exact bq_div (pl_low_ne s) (bt_sub (bt_mul h.1 h.1) (bt_mul h.2 h.2) (by omega) (by omega)) (bt_add (bt_mul h.1 h.1) (bt_mul h.2 h.2) (by omega) (by omega))
theorem int_lt {a b : Int} : (a : Rat) < (b : Rat) ↔ a < b := Rat.intCast_lt_intCast
theorem sp_low {t b : Int} (h : -b < t) (h1 : t < b) : Sp ((t : Rat) / (b : Rat)) := by
  have hb : (0 : Rat) < (b : Rat) := by
    have := int_lt (a := 0) (b := b)
    exact this.mpr (by omega)
  refine ⟨neg_one_lt_div hb ?_, div_lt_one hb (int_lt.mpr h1)⟩
  rw [← Rat.intCast_neg]
  exact int_lt.mpr h
theorem pos_low {t b : Int} (h : 0 < t) (h1 : 0 < b) : 0 < (t : Rat) / (b : Rat) := by
  have hb : (0 : Rat) < (b : Rat) := int_lt (a := 0).mpr h1
  have ht : (0 : Rat) < (t : Rat) := int_lt (a := 0).mpr h
  rw [Rat.lt_div_iff hb]
  grind
/-! ### inside a try whose handler hands the exception to the def that names its kind -/
section
variable {K : PySem.W.Frag} {sl : List Sl} {ti : TE} {ta : TA} {fs : List Addr} {j : Nat} {f : Addr} {menu : List (Addr × L2.Sp)} {R : List Dt → Dt → Prop} {XF : List Dt → Value → Prop} {xs : List Dt} {d : Dt} {c : Value} {G H : Hp} {σ : L2.St} {E : L2.St → XK} {Q : VK}
theorem was_kind {M : Value} {i : Nat} {C : Addr} {Kd : Addr → Str → Prop} {ans : Str} {Wo : WX} {D : Ends} (he : PySem.W.exmOne K (.ref C) M = some true) (hk : Kd C ans) (hi : i < σ.length) (kx : Ex G H) (q : ∀ v G2 H2, Nx G H G2 H2 → Rp K G2 v (.str ans) → D.rt v H2) : wAs K M i (fun a cls d => tRet (tKind Kd i a cls d)) Wo D (.ref C) none σ H :=
  ⟨true, he, fun _ a ha => ⟨_, _, rfl, rfl, hk, List.getElem?_set_self hi, fun H3 e3 => q _ G H3 ⟨Ex.refl _, e3, kx.trans e3, fun _ z _ => z⟩ (.str _)⟩, fun z => by cases z⟩
end
/-! ### so often -/
theorem sp_zero : Sp 0 := ⟨by decide, by decide⟩
/-! ### statements that go on or hand back -/
section
variable {K : PySem.W.Frag} {sl sl1 : List Sl} {ps : List Addr} {te : TE} {tc : TT} {x y : Dt} {t u : TS} {N N2 : List Sl → Prop} {R : Dt → Prop} {c : Value} {d : Dt} {b : Bool}
/-! tests that draw -/
def EpT (K : PySem.W.Frag) (tt : TT) (sl : List Sl) (ps : List Addr) (B : Bool → Prop) : Prop := ∀ (G H : Hp) (σ : L2.St), Ex G H → FrD K G σ sl → Pots ps G H → ∀ Q : Bool → Hp → Prop, (∀ b G2 H2, B b → NxP ps G H G2 H2 → Pots ps G2 H2 → Q b H2) → tt σ H Q
variable {B : Bool → Prop} {tt uu : TT}
theorem ept_test (h : Ep K te sl ps fun x => ∃ b, x = .bl b ∧ B b) : EpT K (tTest te) sl ps B := fun G H σ k f m Q q => h G H σ k f m _ fun v x G1 H1 ⟨b, ex, hB⟩ n1 m1 r1 => by
  subst ex
  cases r1
  exact ⟨b, rfl, q b G1 H1 hB n1 m1⟩
end
theorem kb_ss : kitB "str" "str" = some true := by decide +kernel
theorem kb_is : kitB "int" "str" = some false := by decide +kernel
/-! ### for .. in a list of data, pots drawn from inside -/
/-! ### a display, so many times -/
/-! ### beats and stretches -/
def beatD (x : Rat) : Dt := rootD (1 - x * x)
theorem rootD_some {y z : Rat} (h : y * y = z) : rootD z = fq y.abs := h ▸ rootD_sq y
theorem abs_sq (y : Rat) : y.abs * y.abs = y * y := by
  rcases Rat.nonneg_total y with h | h
  · rw [Rat.abs_of_nonneg h]
  · rw [Rat.abs_of_nonpos (by grind)]
    grind
theorem abs_nn (y : Rat) : 0 ≤ y.abs := by
  rcases Rat.nonneg_total y with h | h
  · rw [Rat.abs_of_nonneg h]
    exact h
  · rw [Rat.abs_of_nonpos (by grind)]
    exact h
theorem rootD_cases (z : Rat) : (∃ y, 0 ≤ y ∧ y * y = z ∧ rootD z = fq y) ∨ (rootD z = .non ∧ ∀ y, y * y ≠ z) := by
  by_cases h : ∃ y : Rat, y * y = z
  · obtain ⟨y, e⟩ := h
    exact .inl ⟨y.abs, abs_nn y, by rw [abs_sq, e], rootD_some e⟩
  · refine .inr ⟨?_, fun y e => h ⟨y, e⟩⟩
    unfold rootD
    by_cases h0 : z.num < 0
    · rw [if_pos h0]
    · rw [if_neg h0, if_neg]
      rintro ⟨h1, h2⟩
      have hd : sq z.den ≠ 0 := fun c => by
        rw [c] at h2
        have := z.den_pos
        omega
      have hc : Nat.gcd ((sq z.num.toNat : Int)).natAbs (sq z.den) = 1 := by
        rw [Int.natAbs_natCast]
        refine nat_sq_cop ?_
        rw [h1, h2]
        have := z.reduced
        unfold Nat.Coprime at this
        rw [show z.num.toNat = z.num.natAbs by omega]
        exact this
      refine h ⟨⟨(sq z.num.toNat : Int), sq z.den, hd, hc⟩, Rat.ext ?_ ?_⟩
      · rw [num_sq]
        show ((sq z.num.toNat : Nat) : Int) * ((sq z.num.toNat : Nat) : Int) = z.num
        rw [← Int.natCast_mul, h1]
        omega
      · rw [den_sq]
        exact h2
theorem bq_root {n : Nat} {y z : Rat} (e : y * y = z) (h : Bq n z) : Bq n y := by
  subst e
  have h1 := h.1
  have h2 := h.2
  rw [num_sq] at h1
  rw [den_sq, Int.natCast_mul] at h2
  unfold Bt at h1 h2
  rw [Int.natAbs_mul] at h1 h2
  have a := Nat.le_mul_self y.num.natAbs
  have b := Nat.le_mul_self (y.den : Int).natAbs
  exact ⟨Nat.lt_of_le_of_lt a h1, Nat.lt_of_le_of_lt b h2⟩
theorem sp_low_sq {x : Rat} (h : Sp x) : 0 < 1 - x * x := by
  unfold Sp at h
  have := Rat.mul_pos (show 0 < 1 - x by grind) (show 0 < 1 + x by grind)
  grind
theorem bq_low {n : Nat} {x : Rat} (h : Bq n x) : Bq (n + n + 2) (1 - x * x) := (bq_sub bq_one (bq_mul h h)).mono (by omega)
theorem beat_cases {x : Rat} (sx : Sp x) : (∃ b, 0 < b ∧ b * b = 1 - x * x ∧ beatD x = fq b) ∨ (beatD x = .non ∧ ∀ y, y * y ≠ 1 - x * x) := by
  rcases rootD_cases (1 - x * x) with ⟨y, h0, e, h⟩ | h
  · refine .inl ⟨y, ?_, e, h⟩
    have := sp_low_sq sx
    rcases (by grind : y = 0 ∨ 0 < y) with z | z
    · subst z
      grind
    · exact z
  · exact .inr h
theorem beat_pl {s : Rat} (h : 0 < s) : (2 * s / (s * s + 1)) * (2 * s / (s * s + 1)) = 1 - pl s * pl s := by
  have := Rat.mul_pos h h
  have h1 : s * s + 1 ≠ 0 := by grind
  unfold pl
  grind
theorem numpos {q : Rat} : 0 < q.num ↔ 0 < q := by
  rw [Rat.lt_iff]
  have e1 : (0 : Rat).num = 0 := rfl
  have e2 : (0 : Rat).den = 1 := rfl
  rw [e1, e2]
  omega
end Z
namespace Z
open PySem PySem.Spec PyProof.Rows L2 HT
open Evl (Ex)
/-! ### t[::-1] of a tuple -/
theorem rps_rev {K : PySem.W.Frag} {H : Hp} : ∀ {vs : List V} {ds : List Dt}, Rps K H vs ds → Rps K H vs.reverse ds.reverse
  | _, _, .nil => .nil
  | _, _, .cons h t => by
    rw [List.reverse_cons, List.reverse_cons]
    exact (rps_rev t).append (.cons h .nil)
theorem revLK {X : Cx} {K : PySem.W.Frag} {e : Expr} {te : TE} {k : Nat} {p1 p2 p3 pos : Pos} (eK : X.K = K) (he : PE X e te) : PE X (.Subscript e (.Slice none none (some (.UnaryOp .USub (.Constant (.int 1) k p1) p2)) p3) pos) (tRevL K te) := eK ▸ pe_revL he
/-! ### int(a truth) -/
def rIntB : List V → Hp → VK → Prop := fun xs H Q => (∃ i, xs = [.int i] ∧ Q (.int i) H) ∨ ∃ k, xs = [.bl k] ∧ Q (.int (if k then 1 else 0)) H
theorem rc_intB {K : PySem.W.Frag} {b : Bool} : RcD K rIntB [.bl b] (.int (if b then 1 else 0)) := fun G H k vs r Q q => by
  obtain ⟨v, rfl, h⟩ := rps1 r
  cases h
  exact .inr ⟨b, rfl, q _ G H (.refl k) (.int _)⟩
/-! ### speeds: in any turn, orders -/
theorem jn_self_neg {x : Rat} (hx : Sp x) : jn x (-x) = 0 := by
  rw [jn_def]
  grind
/-! ### plain ones together -/
theorem beat_jn {x y b c : Rat} (hx : Sp x) (hy : Sp y) (e1 : b * b = 1 - x * x) (e2 : c * c = 1 - y * y) : (b * c / (1 + x * y)) * (b * c / (1 + x * y)) = 1 - jn x y * jn x y := by
  have h1 := sp_ne hx hy
  rw [jn_def]
  have e3 : (b * c) * (b * c) = (1 - x * x) * (1 - y * y) := by grind
  grind
theorem beatD_of {x b : Rat} (b0 : 0 < b) (e : b * b = 1 - x * x) : beatD x = fq b := by
  unfold beatD
  rw [rootD_some e, Rat.abs_of_nonneg (by grind)]
end Z
namespace Z
open PySem PySem.Spec PyProof.Rows L2
open Evl (Ex)
/-! ### bit_length, <<, a < b < c -/
theorem ev_chain {K : PySem.W.Frag} {sl : List Sl} {ta tb tc : TE} {r r' : R2} {x y z : Dt} {a b : Bool} (ha : Ev K ta sl x) (hb : Ev K tb sl y) (hr : R2D K r x y (.bl a)) (hc : a = true → Ev K tc sl z) (hr' : a = true → R2D K r' y z (.bl b)) : Ev K (tChain r r' ta tb tc) sl (.bl (a && b)) := fun G H σ k f Q q =>
  ha G H σ k f _ fun v G1 H1 n1 r1 => hb G1 H1 σ n1.k (FrD.mono n1.g f) _ fun w G2 H2 n2 r2 => hr G2 H2 n2.k v w (r1.mono n2.g) r2 _ fun u G3 H3 n3 r3 => by
    have n13 := (n1.trans n2).trans n3
    cases r3
    refine ⟨a, rfl, ?_⟩
    cases a with
    | true =>
      rw [if_pos rfl]
      exact hc rfl G3 H3 σ n3.k (FrD.mono n13.g f) _ fun t G4 H4 n4 r4 => hr' rfl G4 H4 n4.k w t (r2.mono (n3.g.trans n4.g)) r4 Q fun u G5 H5 n5 r5 => q u G5 H5 ((n13.trans n4).trans n5) r5
    | false => exact q _ G3 H3 n13 (.bl _)
/-! ### seats -/
def beatB : Dt → Bool
  | .tup [.int t, .int b] => !isNon (beatD ((t : Rat) / (b : Rat)))
  | _ => false
theorem beatB_fq (q : Rat) : beatB (fq q) = !isNon (beatD q) := by
  show (!isNon (beatD ((q.num : Rat) / (((q.den : Nat) : Int) : Rat)))) = _
  rw [fq_self]
def isSeatD : Dt → Bool
  | .tup [s, h] => isSpD s && beatB s && isHp h
  | _ => false
theorem isSeatD_len {ds : List Dt} (h : ds.length ≠ 2) : isSeatD (.tup ds) = false := by
  unfold isSeatD
  split
  · rename_i t b e
    injection e with e
    rw [e] at h
    exact absurd rfl h
  · rfl
theorem isSeatD_no {x : Dt} (h : ¬ ∃ ds, x = .tup ds) : isSeatD x = false := by
  cases x <;> first | rfl | exact absurd ⟨_, rfl⟩ h
/-! sizes of what is bent -/
theorem sz2_hap {t p : Rat} (h1 : Bq 1000 t) (h2 : Bq 1000 p) : Sz2 (.tup [fq t, fq p]) := sz2_p (fun a b e => by cases e) (sz_fq (h1.2.mono (by decide))) (sz_fq (h2.2.mono (by decide)))
end Z
namespace Z
open PySem PySem.Spec PyProof.Rows L2 RZ
open Evl (Ex)
/-! ### [.. for a, b in zip(t, u)] -/
theorem wipe2 (σ : L2.St) {i j : Nat} (x y : V) : wipe ((((wipe σ [i, j]).set i (some x)).set j (some y))) [i, j] = wipe σ [i, j] := by
  show ((((((σ.set j none).set i none).set i (some x)).set j (some y)).set j none).set i none) = (σ.set j none).set i none
  apply List.ext_getElem?
  intro n
  simp only [List.getElem?_set, List.length_set]
  by_cases h1 : j = n <;> by_cases h2 : i = n <;> simp [h1, h2]
/-! ### a def that calls itself -/
theorem Dd.nil {P : Program} {w : World} {K : PySem.W.Frag} {mg : Str → Option Value} {base : Heap} {x : Str} {st : Stmt} {ps : List Str} {k : Nat} (D : Dd K mg x st ps) (S : True) {R : List Dt → Dt → Prop} (h : ∀ ds d, ¬ R ds d) : Has P w K mg base CX0 k x ps (spP K R) := by
  obtain ⟨f, fd, F, hm, b⟩ := D.ex
  have no : ∀ {vs H Q E}, spP K R vs H Q E → False := fun hs => by
    obtain ⟨ds, x, G, _, _, hR, _⟩ := hs
    exact h ds x hR
  exact ⟨f, fd, ⟨fun _ _ _ _ hs => (no hs).elim, fun A outer s H args us vs Q E hr he hb hv hs => (no hs).elim⟩, hm, F.kp, b⟩
/-! ### what a seat of speed v, beat b at (t0, p0) tells of (t, p), and back -/
def seatD (v t p : Rat) : Dt := .tup [fq v, .tup [fq t, fq p]]
def hapD (t p : Rat) : Dt := .tup [fq t, fq p]
def tlT (v b t0 p0 t p : Rat) : Rat := ((t - t0) - v * (p - p0)) / b
def tlP (v b t0 p0 t p : Rat) : Rat := ((p - p0) - v * (t - t0)) / b
/-- a plain speed with its beat -/
structure Pl (v b : Rat) : Prop where
  s : Sp v
  p : 0 < b
  e : b * b = 1 - v * v
theorem Pl.ne {v b : Rat} (h : Pl v b) : b ≠ 0 := by
  have := h.p
  grind
theorem Pl.beat {v b : Rat} (h : Pl v b) : beatD v = fq b := beatD_of h.p h.e
theorem Pl.bq {v b : Rat} (h : Pl v b) {n : Nat} (hv : Bq n v) : Bq (n + n + 2) b := bq_root h.e (bq_low hv)
theorem pl_pl {s : Rat} (h : 0 < s) : Pl (pl s) (2 * s / (s * s + 1)) := ⟨pl_sp h, by
  have := Rat.mul_pos h h
  rw [Rat.lt_div_iff (by grind)]
  grind, beat_pl h⟩
theorem pl_zero : Pl 0 1 := ⟨sp_zero, by decide, by grind⟩
end Z
namespace Z
open PySem PySem.Spec PyProof.Rows L2 RZ
open Evl (Ex)
/-! ### names of the top for a number, a text, a tuple of two numbers -/
theorem pe_globX {X : Cx} {x : Str} {v : V} {pos : Pos} (hg : Gl X x) (h : ∃ u, X.mg x = some u ∧ RelV v u) (hd : (x == ("__debug__" : Str)) = false := by decide) : PE X (.Name x pos) (tC v) := by
  obtain ⟨u, hm, r⟩ := h
  exact pe_glob hg hm r hd
theorem ev_ii {K : PySem.W.Frag} {sl : List Sl} {a : Addr} {i j : Int} (h : ∀ H, SqX K H a [.int i, .int j]) : Ev K (tC (.ref a)) sl (.tup [.int i, .int j]) := fun G H σ k f Q q => q _ G H (.refl k) (.tup (h G) (.cons (.int i) (.cons (.int j) .nil)))
/-! ### a def that may raise, whose pieces all carry the wish E -/
/-- what raises c -/
def EvX (K : PySem.W.Frag) (te : XK → TE) (sl : List Sl) (c : Value) : Prop := ∀ (G H : Hp) (σ : L2.St), Ex G H → FrD K G σ sl → ∀ (E : XK) (Q : VK), (∀ G2 H2, Nx G H G2 H2 → E c none H2) → te E σ H Q
def EvXT (K : PySem.W.Frag) (te : XK → TT) (sl : List Sl) (c : Value) : Prop := ∀ (G H : Hp) (σ : L2.St), Ex G H → FrD K G σ sl → ∀ (E : XK) (Q : Bool → Hp → Prop), (∀ G2 H2, Nx G H G2 H2 → E c none H2) → te E σ H Q
section
variable {K : PySem.W.Frag} {sl sl1 sl2 : List Sl} {c : Value} {t u : XK → TS} {x : Option Dt} {d : Dt} {b : Bool} {xs : List Dt}
theorem rx_no1E {tc : XK → TT} {s : XK → TS} (h : ∀ E, EvT K (tc E) sl b) (e : b = false) : Rx K (fun E => tIfS (tc E) (s E) tNext) sl (some .non) c := fun G H σ k f D E q1 q2 q3 => by
  subst e
  exact h E G H σ k f _ fun G1 H1 n1 => q2 rfl σ G1 H1 n1
theorem rx_raise1E {C : Addr} {tc : XK → TT} (h : ∀ E, EvT K (tc E) sl b) (e : b = true) : Rx K (fun E => tIfS (tc E) (tRs C E) tNext) sl none (.ref C) := fun G H σ k f D E q1 q2 q3 => by
  subst e
  exact h E G H σ k f _ fun G1 H1 n1 => q3 rfl G1 H1 n1
theorem evx_call {R : List Dt → Dt → Prop} {XF : List Dt → Value → Prop} {ta : XK → TA} (h : ∀ E, EvA K (ta E) sl xs) (hx : XF xs c) : EvX K (fun E => tCall (spX K R XF) [] E (ta E)) sl c := fun G H σ k f E Q q =>
  h E G H σ k f _ fun vs G1 H1 n1 r1 => ⟨xs, G1, n1.k, rps_nil r1, .inr ⟨c, hx, fun G2 H2 n2 => q G2 H2 (n1.trans n2)⟩⟩
theorem evxt_notB {ta : XK → TE} (h : EvX K ta sl c) : EvXT K (fun E => tNot (tB (ta E))) sl c := fun G H σ k f E Q q => h G H σ k f E _ q
theorem rx_if1X {tc : XK → TT} {s : XK → TS} (h : EvXT K tc sl c) : Rx K (fun E => tIfS (tc E) (s E) tNext) sl none c := fun G H σ k f D E q1 q2 q3 => h G H σ k f E _ (q3 rfl)
end
/-! ### a plain speed between two -/
end Z
namespace Z
open PySem PySem.Spec PyProof.Rows L2 RZ
open Evl (Ex)
/-! ### the same data, compared -/
mutual
theorem eqv_self : ∀ {d : Dt} {p : PyData}, py d = some p → PyData.eqv p p = true
  | .non, _, e => by cases e; simp only [PyData.eqv]
  | .bl b, _, e => by cases e; simp [PyData.eqv]
  | .int i, _, e => by cases e; simp [PyData.eqv]
  | .str x, _, e => by cases e; simp [PyData.eqv]
  | .tup ds, _, e => by
    cases q : pys ds with
    | none => simp only [py, q] at e; cases e
    | some xs =>
      simp only [py, q] at e
      cases e
      have := eqvs_self q
      simpa only [PyData.eqv] using this
  | .lst ds, _, e => by
    cases q : pys ds with
    | none => simp only [py, q] at e; cases e
    | some xs =>
      simp only [py, q] at e
      cases e
      have := eqvs_self q
      simpa only [PyData.eqv] using this
  | .dct, _, e => by simp only [py] at e; cases e
theorem eqvs_self : ∀ {ds : List Dt} {xs : List PyData}, pys ds = some xs → PyData.eqvAll xs xs = true
  | [], _, e => by cases e; simp only [PyData.eqvAll]
  | d :: ds, _, e => by
    cases q : py d with
    | none => simp only [pys, q] at e; cases e
    | some x =>
      cases q2 : pys ds with
      | none => simp only [pys, q, q2] at e; cases e
      | some xs =>
        simp only [pys, q, q2] at e
        cases e
        simp only [PyData.eqvAll, Bool.and_eq_true]
        exact ⟨eqv_self q, eqvs_self q2⟩
end
theorem r2_eqSelf {K : PySem.W.Frag} {x y : Dt} {p : PyData} (e : x = y) (h : py x = some p) (s : SeqAt.shaped p = true) : R2D K (rEqD K) x y (.bl true) := by
  subst e
  have := r2_eq (K := K) h h s s
  rwa [eqv_self h] at this
theorem r2_neSelf {K : PySem.W.Frag} {x y : Dt} {p : PyData} (e : x = y) (h : py x = some p) (s : SeqAt.shaped p = true) : R2D K (rNeD K) x y (.bl false) := by
  subst e
  have := r2_ne (K := K) h h s s
  rwa [eqv_self h] at this
theorem py_hap (t p : Rat) : py (hapD t p) = some (.tuple [.tuple [.int t.num, .int (t.den : Int)], .tuple [.int p.num, .int (p.den : Int)]]) := by
  simp only [hapD, fq, py, pys]
theorem sh_hap (a b c d : Int) : SeqAt.shaped (.tuple [.tuple [.int a, .int b], .tuple [.int c, .int d]]) = true := by rfl
/-! ### what is a seat -/
theorem isHp_hap (t p : Rat) : isHp (hapD t p) = true := by
  show (isFr (fq t) && isFr (fq p)) = true
  rw [isFr_fq, isFr_fq]
  rfl
theorem seat_is {v b : Rat} (h : Pl v b) (t p : Rat) : isSeatD (seatD v t p) = true := by
  show (isSpD (fq v) && beatB (fq v) && isHp (hapD t p)) = true
  rw [isSpD_of h.s, beatB_fq, h.beat, isHp_hap]
  rfl
theorem Pl.neg {v b : Rat} (h : Pl v b) : Pl (-v) b := ⟨sp_neg h.s, h.p, by rw [h.e]; grind⟩
theorem Pl.jn {v b w c : Rat} (h : Pl v b) (g : Pl w c) : Pl (Z.jn v w) (b * c / (1 + v * w)) := ⟨sp_jn h.s g.s, by
  have p1 := sp_pos h.s g.s
  have := Rat.mul_pos h.p g.p
  rw [Rat.lt_div_iff p1]
  grind, beat_jn h.s g.s h.e g.e⟩
/-! ### sizes of what is told -/
/-! ### clocks, places, meetings -/
/-- [te for x in tl], x in slot i, item by item -/
theorem ev_lcP {K : PySem.W.Frag} {sl : List Sl} {te tl : TE} {i : Nat} {ds es : List Dt} (hes : es.length = ds.length) (h : Ev K tl sl (.lst ds)) (hn : ds.length ≤ 90000) (he : ∀ (k : Nat) (d e : Dt), ds[k]? = some d → es[k]? = some e → Ev K te ((sl.set i .no).set i (.d d)) e) : Ev K (tLc (iList K tl) (gName i) tYes te [i]) sl (.lst es) := fun G H σ k fr Q q =>
  h G H σ k fr _ fun v G1 H1 n1 r1 => by
    cases r1 with
    | lst hs rs =>
      rename_i a xs
      have hlen := rs.length
      refine ⟨a, rfl, ⟨_, Evl.ex_l n1.k hs⟩, fun Dl hD => ?_⟩
      have gD : G1 Dl = none := free_of n1.k hD
      refine lc_list (K := K) (a := a) (xs := xs) (fun j H' => ∃ G' vs, Ex G1 G' ∧ Ex H1 H' ∧ Ex G' H' ∧ (∀ c, G1 c = none → H1 c ≠ none → G' c = none) ∧ G' Dl = none ∧ H' Dl = some (.lst vs) ∧ Rps K G' vs (es.take j))
        ⟨G1, [], Ex.refl _, Ex.new hD, n1.k.trans (Ex.new hD), fun _ z _ => z, gD, upd_same, .nil⟩ (fun j H' _ ⟨G', vs, e1, e2, _⟩ => Evl.ex_l (n1.k.trans e2) hs) ?_ ?_
      · rintro j x H' hj ⟨G', vs, e1, e2, e3, e4, e5, e6, e7⟩
        have hj2 : j < xs.length := (List.getElem?_eq_some_iff.mp hj).1
        have hd : ds[j]? = some ds[j] := List.getElem?_eq_getElem (by omega)
        obtain ⟨x', hx', rx⟩ := rs.get hd
        rw [hj] at hx'
        cases hx'
        refine ⟨?_, ?_⟩
        · show ((wipe σ [i]).set i (some x)).set i none = σ.set i none
          show (((σ.set i none)).set i (some x)).set i none = σ.set i none
          rw [List.set_set, List.set_set]
        · have fr1 : FrD K G' ((σ.set i none).set i (some x)) ((sl.set i .no).set i (.d ds[j])) := frd_set (.d (rx.mono e1)) i (frd_wipe i (FrD.mono (n1.g.trans e1) fr))
          have hd2 : es[j]? = some es[j] := List.getElem?_eq_getElem (by omega)
          refine he j ds[j] es[j] hd hd2 G' H' _ e3 fr1 _ fun u G2 H2 n2 r2 => ?_
          have g2D : G2 Dl = none := n2.f Dl e5 (by rw [e6]; intro z; cases z)
          have hl := e7.length
          refine ⟨vs, n2.h Dl _ e6, Nat.lt_of_lt_of_le (m := 100000) (by rw [hl, List.length_take]; omega) (by decide), G2, vs ++ [u], e1.trans n2.g, Evl.Ex.mut (e2.trans n2.h) hD, Evl.Ex.mut n2.k g2D, fun c c1 c2 => n2.f c (e4 c c1 c2) (ne_none e2 c2), g2D, upd_same, ?_⟩
          have et : es.take (j + 1) = es.take j ++ [es[j]] := by
            rw [List.take_add_one, hd2]
            rfl
          rw [et]
          exact (e7.mono n2.g).snoc r2
      · rintro H' ⟨G', vs, e1, e2, e3, e4, e5, e6, e7⟩
        rw [hlen, show ds.length = es.length from hes.symm, List.take_length] at e7
        refine q _ (upd G' Dl (.lst vs)) H' (n1.trans ⟨e1.trans (Ex.new e5), e2, fun b o hb => ?_, fun c c1 c2 => ?_⟩) (.lst (.inl (.inl upd_same)) (e7.mono (Ex.new e5)))
        · by_cases z : b = Dl
          · subst z
            rw [upd_same] at hb
            rw [e6]
            exact hb
          · rw [upd_ne z] at hb
            exact e3 b o hb
        · have z : c ≠ Dl := fun z => by
            rw [z] at c2
            exact c2 hD
          rw [upd_ne z]
          exact e4 c c1 c2
/-! ### slices of a tuple -/
/-! ### seats of seats -/
theorem mne {a b : Rat} (h : a ≠ 0) (g : b ≠ 0) : a * b ≠ 0 := fun z => (Rat.mul_eq_zero.mp z).elim h g
end Z
namespace Z
open PySem PySem.Spec PyProof.Rows L2 RZ
open Evl (Ex)
/-! ### a, b, c = a tuple of three; a loop that draws, then the rest -/
section
variable {K : PySem.W.Frag} {sl sl1 sl2 : List Sl} {te : TE} {tc : TT} {x y z : Dt} {t u : TS} {ps : List Addr} {N : List Sl → Prop} {R : Dt → Prop}
theorem ir_ip (h : Ip K t sl ps N) (k : ∀ s, N s → Ir K u s ps R) : Ir K (tSeq t u) sl ps R := fun G H σ e f m D q =>
  h G H σ e f m _ fun σ1 s1 G1 H1 hn n1 m1 f1 => k s1 hn G1 H1 σ1 n1.k f1 m1 D fun v x G2 H2 hr n2 m2 r2 => q v x G2 H2 hr (n1.trans n2) m2 r2
end
theorem fq_inj {x y : Rat} (e : fq x = fq y) : x = y := by
  injection e with e
  injection e with e1 e2
  injection e1 with e1
  injection e2 with e2 _
  injection e2 with e2
  exact Rat.ext e1 (by omega)
/-! ### try: what is done, what is told of it -/
inductive Oc where
  | ret (d : Dt)
  | go
  | out (c : Value)
section
variable {K : PySem.W.Frag} {sl : List Sl} {te : WX → TE} {tc : TT} {t u : WX → TS} {d : Dt} {c : Value} {o : Oc} {b : Bool} {xs : List Dt} {R : List Dt → Dt → Prop} {XF : List Dt → Value → Prop} {ta : TA} {ti : TE} {j : Nat} {fs : List Addr} {f : Addr} {menu : List (Addr × L2.Sp)}
/-- the statement try, its body's reading apart -/
def tTry (K : PySem.W.Frag) (M : Value) (i : Nat) (ts : Addr → Value → Option Addr → TS) (Wo : WX) (tb : WX → TS) : TS := fun D σ H => tb (wAs K M i ts Wo D) D σ H
theorem tryT {X : Cx} {st : Stmt} {tb : WX → TS} {c : Value} {i : Nat} {ts : Addr → Value → Option Addr → TS} {Wout : WX} (eK : X.K = K) (h : PS X st (fun D σ H => tb (wAs X.K c i ts Wout D) D σ H)) : PS X st (tTry K c i ts Wout tb) := eK ▸ h
end
theorem isNon_iff {d : Dt} (h : isNon d = true) : d = .non := by
  cases d <;> first | rfl | cases h
/-! ### rods and gates -/
/-! what the program and the suite say of rods -/
end Z
namespace Z
open PySem PySem.Spec PyProof.Rows L2 RZ
open Evl (Ex)
/-! ### the loop over the cells, other names ahead of it -/
/-! ### haps compared; what one hap is to another -/
theorem r2_eqH {K : PySem.W.Frag} {a b c d : Rat} : R2D K (rEqD K) (hapD a b) (hapD c d) (.bl (decide (a = c ∧ b = d))) := by
  have := r2_eq (K := K) (py_hap a b) (py_hap c d) (sh_hap _ _ _ _) (sh_hap _ _ _ _)
  have e : PyData.eqv (.tuple [.tuple [.int a.num, .int (a.den : Int)], .tuple [.int b.num, .int (b.den : Int)]]) (.tuple [.tuple [.int c.num, .int (c.den : Int)], .tuple [.int d.num, .int (d.den : Int)]]) = decide (a = c ∧ b = d) := by
    have h1 := eqv_fq a c
    have h2 := eqv_fq b d
    have : PyData.eqv (.tuple [.tuple [.int a.num, .int (a.den : Int)], .tuple [.int b.num, .int (b.den : Int)]]) (.tuple [.tuple [.int c.num, .int (c.den : Int)], .tuple [.int d.num, .int (d.den : Int)]]) = (PyData.eqv (.tuple [.int a.num, .int (a.den : Int)]) (.tuple [.int c.num, .int (c.den : Int)]) && (PyData.eqv (.tuple [.int b.num, .int (b.den : Int)]) (.tuple [.int d.num, .int (d.den : Int)]) && true)) := by
      simp only [PyData.eqv, PyData.eqvAll]
    rw [this, h1, h2, Bool.and_true, Bool.decide_and]
  rwa [e] at this
theorem bq_abs {n : Nat} {q : Rat} (h : Bq n q) : Bq n q.abs := by
  obtain ⟨e1, e2⟩ := abs_parts q
  refine ⟨?_, ?_⟩
  · show Int.natAbs q.abs.num < 2 ^ n
    rw [e1, Int.natAbs_natCast]
    exact h.1
  · show Int.natAbs (q.abs.den : Int) < 2 ^ n
    rw [e2]
    exact h.2
def wordS (l g : Rat) : Str := if l = 0 ∧ g = 0 then "same" else if ¬ l < g.abs then "later" else if ¬ -l < g.abs then "earlier" else "beside"
theorem sh_word (l g : Rat) : SeqAt.shaped (.str (wordS l g)) = true := by
  unfold wordS
  split
  · decide +kernel
  · split
    · decide +kernel
    · split <;> decide +kernel
end Z
namespace Z
open PySem PySem.Spec PyProof.Rows L2 RZ
open Evl (Ex)
/-! ### a list that is made here and grows, p; frozen when it is handed on -/
theorem nmem {c p : Addr} {ps : List Addr} (hc : c ∈ ps) (hp : p ∉ ps) : c ≠ p := fun z => hp (by rw [← z]; exact hc)
structure NxL (p : Addr) (ps : List Addr) (G H G2 H2 : Hp) : Prop where
  g : Ex G G2
  k : Ex G2 H2
  h : ∀ a o, a ∉ p :: ps → H a = some o → H2 a = some o
  t : ∀ a, H a ≠ none → H2 a ≠ none
  f : ∀ a, a ≠ p → G a = none → H a ≠ none → G2 a = none
theorem NxP.l {p : Addr} {ps : List Addr} {G H G2 H2 : Hp} (n : NxP ps G H G2 H2) : NxL p ps G H G2 H2 := ⟨n.g, n.k, fun a o ha e => n.h a o (fun z => ha (List.mem_cons_of_mem _ z)) e, n.t, fun a _ h1 h2 => n.f a h1 h2⟩
theorem NxL.trans {p : Addr} {ps : List Addr} {G H G2 H2 G3 H3 : Hp} (a : NxL p ps G H G2 H2) (b : NxL p ps G2 H2 G3 H3) : NxL p ps G H G3 H3 :=
  ⟨a.g.trans b.g, b.k, fun x o hx e => b.h x o hx (a.h x o hx e), fun x h => b.t x (a.t x h), fun x hx h1 h2 => b.f x hx (a.f x hx h1 h2) (a.t x h2)⟩
def Ls (K : PySem.W.Frag) (p : Addr) (ds : List Dt) (G H : Hp) : Prop := G p = none ∧ ∃ vs, H p = some (.lst vs) ∧ Rps K G vs ds
theorem Ls.nx {K : PySem.W.Frag} {p : Addr} {ds : List Dt} {G H G2 H2 : Hp} (m : Ls K p ds G H) (n : Nx G H G2 H2) : Ls K p ds G2 H2 := by
  obtain ⟨g, vs, h, r⟩ := m
  exact ⟨n.f p g (by rw [h]; intro z; cases z), vs, n.h p _ h, r.mono n.g⟩
section
variable {K : PySem.W.Frag} {sl sl1 : List Sl} {s t u : TS} {ps : List Addr} {p : Addr} {ds : List Dt} {d x : Dt} {N : List Sl → List Dt → Prop} {M : List Sl → Prop} {ta : TA} {i : Nat}
theorem fz {G H : Hp} (e : Ex G H) (l : Ls K p ds G H) (m : Pots ps G H) (hp : p ∉ ps) : ∃ G2, NxL p ps G H G2 H ∧ Rp K G2 (.ref p) (.lst ds) ∧ Pots ps G2 H := by
  obtain ⟨lg, vs, lh, lr⟩ := l
  refine ⟨upd G p (.lst vs), ⟨Ex.new lg, fun b o e1 => ?_, fun b o _ e1 => e1, fun b hb => hb, fun b hb h1 h2 => ?_⟩, .lst (.inl (.inl upd_same)) (lr.mono (Ex.new lg)), fun c hc => ?_⟩
  · by_cases z : b = p
    · subst z
      rw [upd_same] at e1
      rw [lh]
      exact e1
    · rw [upd_ne z] at e1
      exact e b o e1
  · rw [upd_ne hb]
    exact h1
  · obtain ⟨a1, n, a2⟩ := m c hc
    exact ⟨by rw [upd_ne (nmem hc hp)]; exact a1, n, a2⟩
end
/-! ### a < b < c, tested -/
theorem et_chain {K : PySem.W.Frag} {sl : List Sl} {ta tb tc : TE} {r r' : R2} {x y z : Dt} {a b : Bool} (ha : Ev K ta sl x) (hb : Ev K tb sl y) (hr : R2D K r x y (.bl a)) (hc : a = true → Ev K tc sl z) (hr' : a = true → R2D K r' y z (.bl b)) : EvT K (tTest (tChain r r' ta tb tc)) sl (a && b) := et_test (ev_chain ha hb hr hc hr')
end Z
namespace Z
open PySem PySem.Spec PyProof.Rows L2 RZ
/-! ### keys that are tuples of numbers, or of such tuples -/
mutual
/-- only numbers stand in it -/
def numy : NestedKey → Bool
  | .num _ => true
  | .tup ks => numys ks
  | .none => false
  | .text _ => false
def numys : List NestedKey → Bool
  | [] => true
  | k :: ks => numy k && numys ks
end
theorem numys_mem : ∀ {ks : List NestedKey}, numys ks = true → ∀ k ∈ ks, numy k = true
  | [], _, k, h => (by cases h)
  | c :: ks, q, k, h => by
    rw [numys, Bool.and_eq_true] at q
    rcases List.mem_cons.mp h with e | m
    · rw [e]; exact q.1
    · exact numys_mem q.2 k m
theorem dep_mem : ∀ {ks : List NestedKey}, ∀ k ∈ ks, k.depth ≤ NestedKey.depthAll ks
  | [], k, h => (by cases h)
  | c :: ks, k, h => by
    rw [NestedKey.depthAll]
    rcases List.mem_cons.mp h with e | m
    · rw [e]; exact Nat.le_max_left _ _
    · exact Nat.le_trans (dep_mem k m) (Nat.le_max_right _ _)
theorem all_mem {h : Heap} : ∀ {ks : List NestedKey} {vs : List Value}, NestedAll h ks vs → ∀ v ∈ vs, ∃ k ∈ ks, NestedIs h k v
  | [], _, x, v, m => by cases x; cases m
  | k :: ks, _, x, v, m => by
    cases x with
    | cons a b =>
      rcases List.mem_cons.mp m with e | m
      · exact ⟨k, List.mem_cons_self, e ▸ a⟩
      · obtain ⟨c, hc, q⟩ := all_mem b v m
        exact ⟨c, List.mem_cons_of_mem _ hc, q⟩
section
variable {P : Program} {w : World}
/-- such a key is of no class that was stated -/
theorem cls_q (s : Shared) : ∀ (n : Nat) (k : NestedKey) (v : Value), NestedIs s.heap k v → k.depth ≤ n → ∀ (A : Around) (E : Value → Shared → Prop) (Q : Bool → Shared → Prop), Q false s → wpAny (model P w) A (ofAClassStatement n v) Q E s := by
  intro n
  induction n with
  | zero =>
    intro k v x hn A E Q q
    cases x with
    | tup _ _ _ _ => exact absurd hn (by rw [NestedKey.depth]; omega)
    | none => exact wpAny_pure q
    | bool _ => exact wpAny_pure q
    | int _ _ => exact wpAny_pure q
    | text _ _ => exact wpAny_pure q
  | succ n ih =>
    intro k v x hn A E Q q
    cases x with
    | none => exact wpAny_pure q
    | bool _ => exact wpAny_pure q
    | int _ _ => exact wpAny_pure q
    | text _ _ => exact wpAny_pure q
    | @tup a o vs m ks ho hc hd hall =>
      rw [NestedKey.depth] at hn
      unfold ofAClassStatement
      refine wpAny_bind (wpAny_typeOf (⟨o, ho, hc⟩ : s.TypeIs (.ref a) "tuple") ?_)
      dsimp only
      rw [show (("tuple" : String) == "tuple") = true by decide]
      simp only [Bool.false_eq_true, Bool.not_true, if_true, if_false]
      try refine wpAny_bind (wpAny_pure ?_)
      try simp only [Bool.false_eq_true, Bool.not_true, if_false]
      show wpAny _ _ (seqItems? (Value.ref a) >>= _) _ _ s
      refine wpAny_bind (wpAny_seqItems ho hd ?_)
      dsimp only
      refine wpAny_bind ?_
      show wpAny _ A (forIn vs _ _) _ _ s
      rw [← Array.forIn_toList]
      refine wpAny_forIn_list _ (fun l r z => r.1 = none ∧ z = s ∧ ∀ u ∈ l, ∃ k ∈ ks, NestedIs s.heap k u) _ ?_ ?_ _ _ ⟨rfl, rfl, all_mem hall⟩
      · rintro u l r z ⟨hr, rfl, g⟩
        obtain ⟨c, hc', x'⟩ := g u List.mem_cons_self
        refine wpAny_bind (ih c u x' (Nat.le_trans (dep_mem c hc') (by omega)) _ _ _ ?_)
        simp only [Bool.false_eq_true, if_false]
        exact wpAny_pure ⟨rfl, rfl, fun y m => g y (List.mem_cons_of_mem _ m)⟩
      · rintro ⟨r1, r2⟩ z ⟨hr, rfl, _⟩
        dsimp only at hr
        subst hr
        exact wpAny_pure q
/-- its hash is told by its value alone -/
theorem hsh_q (s : Shared) : ∀ (n : Nat) (k : NestedKey) (v : Value), NestedIs s.heap k v → k.depth ≤ n → numy k = true → ∀ (A : Around) (E : Value → Shared → Prop) (Q : Bool → Shared → Prop), Q true s → wpAny (model P w) A (hashByValue n v) Q E s := by
  intro n
  induction n with
  | zero =>
    intro k v x hn hk A E Q q
    cases x with
    | tup _ _ _ _ => exact absurd hn (by rw [NestedKey.depth]; omega)
    | none => exact wpAny_pure q
    | bool _ => exact wpAny_pure q
    | int _ _ => exact wpAny_pure q
    | text _ _ => exact absurd hk (by rw [numy]; decide)
  | succ n ih =>
    intro k v x hn hk A E Q q
    cases x with
    | none => exact wpAny_pure q
    | bool _ => exact wpAny_pure q
    | int _ _ => exact wpAny_pure q
    | text _ _ => exact absurd hk (by rw [numy]; decide)
    | @tup a o vs m ks ho hc hd hall =>
      rw [NestedKey.depth] at hn
      rw [numy] at hk
      unfold hashByValue
      refine wpAny_bind (wpAny_specialOf (⟨o, ho, hc⟩ : s.TypeIs (.ref a) "tuple") F.slot_tuple_hash.lookup ?_)
      show wpAny _ _ (seqItems? (Value.ref a) >>= _) _ _ s
      refine wpAny_bind (wpAny_seqItems ho hd (wpAny_bind ?_))
      show wpAny _ A (forIn vs _ _) _ _ s
      rw [← Array.forIn_toList]
      refine wpAny_forIn_list _ (fun l r z => r.1 = none ∧ z = s ∧ ∀ u ∈ l, ∃ k ∈ ks, NestedIs s.heap k u) _ ?_ ?_ _ _ ⟨rfl, rfl, all_mem hall⟩
      · rintro u l r z ⟨hr, rfl, g⟩
        obtain ⟨c, hc', x'⟩ := g u List.mem_cons_self
        refine wpAny_bind (ih c u x' (Nat.le_trans (dep_mem c hc') (by omega)) (numys_mem hk c hc') _ _ _ ?_)
        simp only [Bool.false_eq_true, Bool.not_true, if_false]
        exact wpAny_pure ⟨rfl, rfl, fun y m => g y (List.mem_cons_of_mem _ m)⟩
      · rintro ⟨r1, r2⟩ z ⟨hr, rfl, _⟩
        dsimp only at hr
        subst hr
        exact wpAny_pure q
/-- at a lies the key k, not too deep, of numbers alone -/
def NkAt (h : Heap) (k : NestedKey) (a : Addr) : Prop := NestedIs h k (.ref a) ∧ k.depth ≤ 8 ∧ numy k = true
theorem NkAt.stays {h h' : Heap} {k : NestedKey} {a : Addr} (x : NkAt h k a) (g : ∀ b o vs n, h.get? b = some o → o.data = .seq vs n → h'.get? b = some o) : NkAt h' k a := ⟨NestedIs.at g k _ x.1, x.2⟩
/-- a search among such keys shows nothing -/
theorem seen_q {A : Around} {E : Value → Shared → Prop} {s : Shared} {k : NestedKey} {b : Addr} {Q : Bool → Shared → Prop} (hk : NkAt s.heap k b) {ys : List Value} (hy : ∀ y ∈ ys, ∃ k' c, y = Value.ref c ∧ NkAt s.heap k' c) (q : Q false s) :
    wpAny (model P w) A (searchCouldBeSeen (.ref b) ys) Q E s := by
  unfold searchCouldBeSeen
  refine wpAny_bind (wpAny_forIn_list _ (fun l r z => r.1 = none ∧ z = s ∧ ∀ y ∈ l, ∃ k' c, y = Value.ref c ∧ NkAt s.heap k' c) _ ?_ ?_ _ _ ⟨rfl, rfl, hy⟩)
  · rintro u l r z ⟨hr, rfl, g⟩
    obtain ⟨k', c, rfl, hc⟩ := g u List.mem_cons_self
    have g' := fun y m => g y (List.mem_cons_of_mem _ m)
    dsimp only
    by_cases hv : (b == c || (carriedByValue (.ref b) && carriedByValue (.ref c))) = true
    · exact wp_if_pos hv (wpAny_pure ⟨rfl, rfl, g'⟩)
    · refine wp_if_neg hv (wpAny_bind (quiet_key k _ 8 _ hk.1 hk.2.1 _ _ _ ?_))
      simp only [Bool.false_eq_true, Bool.not_true, if_false]
      refine wpAny_bind (quiet_key k' _ 8 _ hc.1 hc.2.1 _ _ _ ?_)
      simp only [Bool.false_eq_true, Bool.not_true, if_false]
      refine wpAny_bind (cls_q _ 8 k _ hk.1 hk.2.1 _ _ _ ?_)
      simp only [Bool.false_eq_true, if_false]
      refine wpAny_bind (cls_q _ 8 k' _ hc.1 hc.2.1 _ _ _ ?_)
      simp only [Bool.false_eq_true, if_false]
      exact wpAny_pure ⟨rfl, rfl, g'⟩
  · rintro ⟨r1, r2⟩ z ⟨hr, rfl, _⟩
    dsimp only at hr
    subst hr
    exact wpAny_pure q
end
end Z
namespace Z
open PySem PySem.Spec PyProof.Rows L2 RZ
/-! ### looking for a thing in a set -/
/-- the c-th step of the way that h takes -/
abbrev prW (m : Nat) (h : Int) (c : Nat) : SetTable.Probe := nth m (runAt m (SetTable.bits h % (m + 1)) (SetTable.bits h)) c
theorem prW_add (m : Nat) (h : Int) (c q : Nat) : nth m (prW m h c) q = prW m h (c + q) := (nth_add m c _ q).symm
theorem nth_dm (m : Nat) : ∀ (n : Nat) (p : SetTable.Probe), p.dummy = none → (nth m p n).dummy = none
  | 0, _, e => e
  | n + 1, p, e => nth_dm m n (adv m p) (by unfold adv; split <;> exact e)
theorem probe_on (t : SetTable) (r : Ris t.place.toList) (hd : t.dummies = #[]) (ha : Nat → Int) (h : Int) {c K : Nat} (hf : K < 10 * SetTable.turns t.mask) (hc : c ≤ K) (hK : way t.mask h K ∉ t.place.toList) (hb : ∀ d, d < K → way t.mask h d ∈ t.place.toList) :
    (∃ q i, c ≤ q ∧ q < K ∧ t.place.toList[i]? = some (way t.mask h q) ∧ ha i = h ∧ (∀ d i', c ≤ d → d < q → t.place.toList[i']? = some (way t.mask h d) → ha i' ≠ h) ∧
      t.probe ha h (prW t.mask h c) = some (.candidate (way t.mask h q) i (prW t.mask h (q + 1)))) ∨
    ((∀ d i', c ≤ d → d < K → t.place.toList[i']? = some (way t.mask h d) → ha i' ≠ h) ∧ t.probe ha h (prW t.mask h c) = some (.empty (way t.mask h K) none)) := by
  have e : ∀ q, (nth t.mask (prW t.mask h c) q).j = way t.mask h (c + q) := fun q => congrArg SetTable.Probe.j (prW_add t.mask h c q)
  have cK : c + (K - c) = K := by omega
  rcases go_spec t r hd ha h (10 * SetTable.turns t.mask) (K - c) (prW t.mask h c) (nth_dm _ _ _ rfl) (by omega) (fun q hq => by rw [e]; exact hb _ (by omega)) (by rw [e, cK]; exact hK) with ⟨q, i, hq, hi, hh, hno, hp⟩ | ⟨hno, hp⟩
  · left
    refine ⟨c + q, i, by omega, by omega, by rw [← e]; exact hi, hh, fun d i' h1 h2 h3 => hno (d - c) i' (by omega) (by rw [e, show c + (d - c) = d by omega]; exact h3), ?_⟩
    rw [← e, show c + q + 1 = c + (q + 1) from rfl, ← prW_add]
    exact hp
  · right
    refine ⟨fun d i' h1 h2 h3 => hno (d - c) i' (by omega) (by rw [e, show c + (d - c) = d by omega]; exact h3), ?_⟩
    have e' := e (K - c)
    rw [cK] at e'
    rw [← e']
    exact hp
section
variable {P : Program} {w : World} {A : Around} {E : Value → Shared → Prop} {s : Shared}
/-- the rows of a table that holds these keys -/
def rowsN (w : World) (L : List (Addr × NestedKey)) : List (Int × Value) := L.map fun p => (p.2.hash w, Value.ref p.1)
def hshN (w : World) (L : List (Addr × NestedKey)) : List Int := L.map fun p => p.2.hash w
/-- a set of such keys stands at a -/
structure NSet (w : World) (h : Heap) (a : Addr) (L : List (Addr × NestedKey)) (es : Array (Int × Value)) (ep : Nat) (t : SetTable) : Prop where
  ob : ∃ o, h.get? a = some o ∧ o.ExactSet ∧ o.data = .set es ep t
  rw' : es.toList = rowsN w L
  tb : TabOk t (hshN w L)
  one : (L.map (·.2)).Nodup
  at' : ∀ p ∈ L, NkAt h p.2 p.1
  pl : t.plain = true
  ld : w.params.followText "set-order" = true ∨ t.led = true
  wide : L.length * 5 < t.mask * 3
  few : L.length < 64
variable {a : Addr} {L : List (Addr × NestedKey)} {es : Array (Int × Value)} {ep : Nat} {t : SetTable}
theorem rows_len (e : es.toList = rowsN w L) : es.size = L.length := by
  have q := congrArg List.length e
  rwa [rowsN, List.length_map, Array.length_toList] at q
theorem fits_q (e : es.toList = rowsN w L) (T : TabOk t (hshN w L)) (hw : L.length ≤ t.mask) : t.fits es.size = true := by
  have q := T.sz
  rw [hshN, List.length_map] at q
  unfold SetTable.fits SetTable.fill
  rw [T.dm, rows_len e, Bool.and_eq_true, beq_iff_eq, decide_eq_true_eq, q]
  exact ⟨rfl, hw⟩
theorem NSet.fits (R : NSet w s.heap a L es ep t) : t.fits es.size = true := fits_q R.rw' R.tb (by have := R.wide; omega)
theorem row_at (e : es.toList = rowsN w L) {i : Nat} {p : Addr × NestedKey} (h : L[i]? = some p) : es[i]? = some (p.2.hash w, Value.ref p.1) := by
  have q : (rowsN w L)[i]? = some (p.2.hash w, Value.ref p.1) := by
    rw [rowsN, List.getElem?_map, h, Option.map_some]
  rw [← e, Array.getElem?_toList] at q
  exact q
/-- the search, from some step of the way on: the key is there, or its slot is free -/
theorem find_q (R : NSet w s.heap a L es ep t) {x : Addr} {k : NestedKey} (hx : NkAt s.heap k x) (hu : A.units + 8 < cLine) {K : Nat} (hf : K < 10 * SetTable.turns t.mask)
    (hK : way t.mask (k.hash w) K ∉ t.place.toList) (hb : ∀ c, c < K → way t.mask (k.hash w) c ∈ t.place.toList) {Q : SetFound → Shared → Prop}
    (yes : k ∈ L.map (·.2) → Q (.there none) s) (no : k ∉ L.map (·.2) → Q (.free (way t.mask (k.hash w) K) false) s) :
    ∀ (n c : Nat) (stand : Option SetTable.Probe), stand.getD (t.probeStart (k.hash w)) = prW t.mask (k.hash w) c → c ≤ K → K - c < n →
      (∀ (i : Nat) p, L[i]? = some p → p.2 = k → ∃ d, c ≤ d ∧ d < K ∧ t.place.toList[i]? = some (way t.mask (k.hash w) d)) → wpAny (model P w) A (setSearchFrom a (.ref x) (k.hash w) true n stand) Q E s := by
  intro n
  induction n with
  | zero => intro c st _ _ hn; exact absurd hn (Nat.not_lt_zero _)
  | succ n ih =>
    intro c st hst hc hn hre
    obtain ⟨o, ho, hex, hd⟩ := R.ob
    have fit := R.fits
    rw [setSearchFrom_succ]
    refine wpAny_bind (wpAny_setState_of ho hd fit ?_)
    dsimp only
    refine wp_if_neg (by unfold SetTable.gaveWay; rw [mask_odd R.tb.mok]; decide) ?_
    try refine wpAny_bind (wpAny_pure ?_)
    have hash_i : ∀ (i : Nat) p, L[i]? = some p → (es[i]?.map (·.1)).getD 0 = p.2.hash w := fun i p e => by rw [row_at R.rw' e, Option.map_some, Option.getD_some]
    rw [hst]
    rcases probe_on t R.tb.ris R.tb.dm (fun i => (es[i]?.map (·.1)).getD 0) (k.hash w) hf hc hK hb with ⟨q, i, hcq, hqK, hi, hh, hno, hp⟩ | ⟨hno, hp⟩
    · rw [hp]
      dsimp only
      have hil : i < L.length := by
        have z := R.tb.sz
        rw [hshN, List.length_map] at z
        have y : i < t.place.toList.length := (List.getElem?_eq_some_iff.mp hi).1
        rw [Array.length_toList, z] at y
        exact y
      obtain ⟨p, hpi⟩ : ∃ p, L[i]? = some p := ⟨_, List.getElem?_eq_getElem hil⟩
      have hpm := List.mem_of_getElem? hpi
      have on : wpAny (model P w) A (searchRest a (.ref x) (k.hash w) true n es t (way t.mask (k.hash w) q) i (prW t.mask (k.hash w) (q + 1))) Q E s := by
        unfold searchRest
        rw [row_at R.rw' hpi]
        dsimp only
        refine wpAny_bind (wpAny_holding ((nestedKind P w).eqBool (x := p.2) (y := k) hu ⟨(R.at' p hpm).1, (R.at' p hpm).2.1⟩ ⟨hx.1, hx.2.1⟩ (wpAny_bind (wpAny_setState_of ho hd fit ?_))))
        dsimp only
        by_cases ek : p.2 = k
        · exact wp_if_pos (by simp [ek]) (wpAny_pure (yes (List.mem_map.mpr ⟨p, hpm, ek⟩)))
        · refine wp_if_neg (by simp [ek]) ?_
          try refine wpAny_bind (wpAny_pure ?_)
          rw [sameMem]
          dsimp only
          have sl := slot_live R.tb.ris hi
          simp only [sl, if_true, row_at R.rw' hpi]
          refine wpAny_bind (wpAny_isSame_ref_self (wpAny_bind (wpAny_pure ?_)))
          simp only [if_true]
          refine wp_if_neg (by simp [ek]) (ih (q + 1) _ rfl (by omega) (by omega) fun i0 p0 h0 k0 => ?_)
          obtain ⟨d, d1, d2, d3⟩ := hre i0 p0 h0 k0
          refine ⟨d, ?_, d2, d3⟩
          rcases Nat.lt_trichotomy d q with z | z | z
          · exact absurd ((hash_i i0 p0 h0).trans (by rw [k0])) (hno d i0 d1 z d3)
          · subst z
            have s0 := slot_live R.tb.ris d3
            rw [sl] at s0
            injection s0 with s0
            rw [← s0, hpi] at h0
            injection h0 with h0
            exact absurd (by rw [h0]; exact k0) ek
          · exact z
      by_cases hl : t.led = true
      · refine wp_if_neg (by simp [hl]) ?_
        try refine wpAny_bind (wpAny_pure ?_)
        exact on
      · refine wp_if_pos (by simp [hl]) (wpAny_bind (seen_q hx (fun y hy => ?_) ?_))
        · obtain ⟨r, hr, rfl⟩ := List.mem_map.mp hy
          have r1 : r ∈ es.toList := by
            have : r ∈ es ∧ r.1 = k.hash w := by simpa using hr
            exact Array.mem_toList_iff.mpr this.1
          rw [R.rw', rowsN] at r1
          obtain ⟨p2, h2, rfl⟩ := List.mem_map.mp r1
          exact ⟨p2.2, p2.1, rfl, R.at' p2 h2⟩
        · refine wp_if_neg (by decide) ?_
          try refine wpAny_bind (wpAny_pure ?_)
          exact on
    · rw [hp]
      dsimp only
      refine wpAny_pure (no fun m => ?_)
      obtain ⟨p0, h0, k0⟩ := List.mem_map.mp m
      obtain ⟨i0, l0, e0⟩ := List.getElem_of_mem h0
      have h00 : L[i0]? = some p0 := by rw [← e0]; exact List.getElem?_eq_getElem l0
      obtain ⟨d, d1, d2, d3⟩ := hre i0 p0 h00 k0
      exact hno d i0 d1 d2 d3 ((hash_i i0 p0 h00).trans (by rw [k0]))
/-- the search that adding makes -/
theorem look_q (R : NSet w s.heap a L es ep t) {x : Addr} {k : NestedKey} (hx : NkAt s.heap k x) (hu : A.units + 8 < cLine) {Q : SetFound → Shared → Prop} (yes : k ∈ L.map (·.2) → Q (.there none) s)
    (no : ∀ K, k ∉ L.map (·.2) → way t.mask (k.hash w) K ∉ t.place.toList → (∀ c, c < K → way t.mask (k.hash w) c ∈ t.place.toList) → Q (.free (way t.mask (k.hash w) K) false) s) :
    wpAny (model P w) A (setSearch a (.ref x) (k.hash w) true) Q E s := by
  have hz := R.wide
  obtain ⟨K, hf, hK, hb⟩ := R.tb.first (by rw [hshN, List.length_map]; omega) (k.hash w)
  have big : 10 * SetTable.turns t.mask ≤ 1420 := by
    unfold SetTable.turns
    rcases R.tb.mok with e | e | e <;> omega
  unfold setSearch
  refine find_q R hx hu hf hK hb yes (fun hn => no K hn hK hb) 100000 0 none rfl (Nat.zero_le _) (by omega) fun i p hp hk => ?_
  have il : i < t.place.toList.length := by
    have y := (List.getElem?_eq_some_iff.mp hp).1
    have z := R.tb.sz
    rw [hshN, List.length_map] at z
    rw [Array.length_toList, z]
    exact y
  have hj := List.getElem?_eq_getElem il
  obtain ⟨c, hc, e⟩ := R.tb.before hK (i := i) (by rw [hshN, List.getElem?_map, hp, Option.map_some, hk]) hj
  exact ⟨c, Nat.zero_le _, hc, by rw [e]; exact hj⟩
end
end Z
namespace Z
open PySem PySem.Spec PyProof.Rows L2 RZ
section
variable {P : Program} {w : World} {A : Around} {E : Value → Shared → Prop} {s : Shared}
variable {a : Addr} {L : List (Addr × NestedKey)} {es : Array (Int × Value)} {ep : Nat} {t : SetTable}
/-- a key stays when only the set changes -/
theorem NkAt.but {h h' : Heap} {k : NestedKey} {b : Addr} {o : Obj} (x : NkAt h k b) (ho : h.get? a = some o) (hd : o.data = .set es ep t) (sb : Heap.SameBut a h h') : NkAt h' k b :=
  x.stays fun c u vs n e ed => (sb.2 c fun z => by
    rw [z, ho] at e
    injection e with e
    rw [← e, hd] at ed
    exact nomatch ed).trans e
/-- the rows, read in another order -/
theorem pick_rows (e : es.toList = rowsN w L) (order : Array Nat) (hp : order.toList.Perm (List.range L.length)) :
    ∃ M, (order.filterMap (es[·]?)).toList = rowsN w M ∧ M.Perm L ∧ hshN w M = order.toList.map fun i => (es.map (·.1)).getD i 0 := by
  have each : ∀ l : List Nat, (∀ i ∈ l, i < L.length) → l.filterMap (fun i => es[i]?) = rowsN w (l.filterMap fun i => L[i]?) ∧ hshN w (l.filterMap fun i => L[i]?) = l.map fun i => (es.map (·.1)).getD i 0 := by
    intro l
    induction l with
    | nil => intro _; exact ⟨rfl, rfl⟩
    | cons i l ih =>
      intro hl
      have hi := List.getElem?_eq_getElem (hl i List.mem_cons_self)
      obtain ⟨e1, e2⟩ := ih fun j m => hl j (List.mem_cons_of_mem _ m)
      have r := row_at e hi
      rw [List.filterMap_cons_some r, List.filterMap_cons_some hi, e1, List.map_cons, ← e2]
      refine ⟨rfl, ?_⟩
      have g : (es.map (·.1)).getD i 0 = (L[i]'(hl i List.mem_cons_self)).2.hash w := by
        rw [Array.getD_eq_getD_getElem?, Array.getElem?_map, r, Option.map_some, Option.getD_some]
      rw [g] <;> rfl
  have all : ∀ n, n ≤ L.length → (List.range n).filterMap (fun i => L[i]?) = L.take n := by
    intro n
    induction n with
    | zero => intro _; rfl
    | succ n ih =>
      intro hn
      have g := List.getElem?_eq_getElem (show n < L.length from hn)
      rw [List.range_succ, List.filterMap_append, ih (by omega), List.filterMap_cons_some g, List.take_succ, g] <;> rfl
  obtain ⟨e1, e2⟩ := each order.toList fun i m => List.mem_range.mp (hp.mem_iff.mp m)
  refine ⟨order.toList.filterMap fun i => L[i]?, by rw [Array.toList_filterMap]; exact e1, ?_, e2⟩
  have z := hp.filterMap fun i => L[i]?
  rwa [all L.length (Nat.le_refl _), List.take_length] at z
/-- the table is laid anew, larger -/
theorem relay_q {o : Obj} (ho : s.heap.get? a = some o) (hex : o.ExactSet) (hd : o.data = .set es ep t) (e : es.toList = rowsN w L) (T : TabOk t (hshN w L)) (hle : L.length ≤ t.mask) (one : (L.map (·.2)).Nodup) (ks : ∀ p ∈ L, NkAt s.heap p.2 p.1)
    (pl : t.plain = true) (ld : w.params.followText "set-order" = true ∨ t.led = true) (few : L.length < 64) {wanted M : Nat} (hw : SetTable.sizeAbove wanted - 1 = M) (hM : MaskOk M) (hw2 : SetTable.sizeAbove wanted ≤ 128) (hn : L.length * 5 < M * 3) {Q : Unit → Shared → Prop}
    (q : ∀ h' L' es' ep' t', Heap.SameBut a s.heap h' → NSet w h' a L' es' ep' t' → L'.Perm L → Q () { s with heap := h' }) : wpAny (model P w) A (setRelay a wanted) Q E s := by
  have sz := rows_len e
  have hml : (es.map (·.1)).size = L.length := by rw [Array.size_map, sz]
  obtain ⟨t', order, er, hp, T', em, el, epl, edm⟩ := relaid_ok t (hs := es.map (·.1)) hw hM (by rw [hml]; omega)
  rw [hml] at hp
  obtain ⟨L', r1, r2, r3⟩ := pick_rows e order hp
  rw [← r3] at T'
  have sz' : (order.filterMap (es[·]?)).size = es.size := by rw [rows_len r1, r2.length_eq, sz]
  rw [setRelay_eq]
  refine wpAny_bind (wpAny_setState_of ho hd (fits_q e T hle) ?_)
  dsimp only
  refine wp_if_neg (by rw [sizeLine_eq]; omega) ?_
  try refine wpAny_bind (wpAny_pure ?_)
  rw [er]
  dsimp only
  refine wpAny_bind (wp_if_neg (by rw [sz']; simp) ?_)
  try refine wpAny_bind (wpAny_pure ?_)
  refine wpAny_pure ?_
  dsimp only
  have sb : Heap.SameBut a s.heap (s.heap.update a (Obj.putSet (order.filterMap (es[·]?)) t')) := Heap.SameBut.update ..
  refine wpAny_storeSet_of ho hd (q _ L' _ (ep + 1) t' sb ⟨⟨_, store_at ho hd, hex, rfl⟩, r1, T', (r2.map (·.2)).nodup_iff.mpr one, fun p m => (ks p (r2.mem_iff.mp m)).but ho hd sb, by rw [epl]; exact pl, by rw [el]; exact ld, by rw [em, r2.length_eq]; exact hn, by rw [r2.length_eq]; exact few⟩ r2) (by rw [sz', sz, sizeLine_eq]; omega)
theorem ins_perm {α : Type} (l : List α) (n : Nat) (x : α) : (l.take n ++ x :: l.drop n).Perm (x :: l) := by
  have z : (l.take n ++ x :: l.drop n).Perm (x :: (l.take n ++ l.drop n)) := List.perm_middle
  rwa [List.take_append_drop] at z
/-- adding a key -/
theorem put_q (R : NSet w s.heap a L es ep t) {x : Addr} {k : NestedKey} (hx : NkAt s.heap k x) (hu : A.units + 8 < cLine) (hfew : L.length + 1 < 64) {Q : Bool → Shared → Prop}
    (q : ∀ b h' L' es' ep' t', Heap.SameBut a s.heap h' → NSet w h' a L' es' ep' t' → (k ∈ L.map (·.2) → L' = L) → (k ∉ L.map (·.2) → L'.Perm ((x, k) :: L)) → Q b { s with heap := h' }) :
    wpAny (model P w) A (setAddHashed a (.ref x) (k.hash w)) Q E s := by
  obtain ⟨o, ho, hex, hd⟩ := R.ob
  have sz := rows_len R.rw'
  have hwide := R.wide
  unfold setAddHashed
  refine wpAny_holding ?_
  rw [show (100000 : Nat) = 99999 + 1 by rfl, setAddHashedIn_succ]
  refine wpAny_bind (wpAny_setState_of ho hd R.fits ?_)
  dsimp only
  refine wp_if_neg (by simp [Value.scannable, byScan]) ?_
  try refine wpAny_bind (wpAny_pure ?_)
  refine wpAny_bind (look_q R hx hu (fun m => wpAny_pure (q false s.heap L es ep t (Heap.SameBut.refl a s.heap) R (fun _ => rfl) fun z => absurd m z)) fun K m hK hb => ?_)
  dsimp only
  refine wpAny_bind (wpAny_setState_of ho hd R.fits ?_)
  dsimp only
  obtain ⟨c1, c2, T, cm, cl, cp, -, -, cf⟩ := R.tb.put hK hb
  have pl1 : (t.put (way t.mask (k.hash w) K)).1.plain = true := by rw [cp]; exact R.pl
  generalize hpt : t.put (way t.mask (k.hash w) K) = pt at c1 T cm cl cp cf pl1 ⊢
  obtain ⟨t1, n⟩ := pt
  dsimp only at c1 T cm cl cp cf pl1 ⊢
  subst c1
  first
    | (refine wpAny_bind (wp_if_pos pl1 (hsh_q _ 8 k _ hx.1 hx.2.1 hx.2.2 _ _ _ ?_)))
    | (refine wp_if_pos pl1 (wpAny_bind (hsh_q _ 8 k _ hx.1 hx.2.1 hx.2.2 _ _ _ ?_)))
  simp only [if_true]
  generalize SetTable.below t.place (way t.mask (k.hash w) K) = n at c2 T ⊢
  have pm := ins_perm L n (x, k)
  have rows1 : (SetTable.insertAt es n (k.hash w, Value.ref x)).toList = rowsN w (L.take n ++ (x, k) :: L.drop n) := by
    rw [SetTable.toList_insertAt, R.rw', rowsN, rowsN, List.map_append, List.map_take, List.map_cons, List.map_drop]
  have T1 : TabOk t1 (hshN w (L.take n ++ (x, k) :: L.drop n)) := by
    rw [hshN, List.map_append, List.map_take, List.map_cons, List.map_drop]
    exact T
  have one1 : ((L.take n ++ (x, k) :: L.drop n).map (·.2)).Nodup := (pm.map (·.2)).nodup_iff.mpr (List.nodup_cons.mpr ⟨m, R.one⟩)
  have len1 : (L.take n ++ (x, k) :: L.drop n).length = L.length + 1 := pm.length_eq
  generalize SetTable.insertAt es n (k.hash w, Value.ref x) = es1 at rows1 ⊢
  generalize L.take n ++ (x, k) :: L.drop n = L1 at rows1 T1 one1 len1 pm
  have sz1 := rows_len rows1
  refine wpAny_bind (wpAny_storeSet_of ho hd ?_ (by rw [sz1, sizeLine_eq]; omega))
  have sb : Heap.SameBut a s.heap (s.heap.update a (Obj.putSet es1 t1)) := Heap.SameBut.update ..
  have ho1 := store_at (es' := es1) (t' := t1) ho hd
  generalize s.heap.update a (Obj.putSet es1 t1) = h1 at ho1 sb ⊢
  have ks1 : ∀ p ∈ L1, NkAt h1 p.2 p.1 := fun p hp => by
    rcases List.mem_cons.mp (pm.mem_iff.mp hp) with e | hp
    · rw [e]; exact hx.but ho hd sb
    · exact (R.at' p hp).but ho hd sb
  have ld1 : w.params.followText "set-order" = true ∨ t1.led = true := by rw [cl]; exact R.ld
  have cf' : t1.fill = L.length + 1 := by rw [cf, hshN, List.length_map]
  by_cases hf : t1.tooFull = true
  · have full : (L.length + 1) * 5 ≥ t.mask * 3 := by
      have z := hf
      unfold SetTable.tooFull at z
      rw [decide_eq_true_eq, cf', cm] at z
      exact z
    rw [sz]
    have fin : ∀ M, SetTable.sizeAbove (SetTable.grown (L.length + 1)) - 1 = M → MaskOk M → SetTable.sizeAbove (SetTable.grown (L.length + 1)) ≤ 128 → (L.length + 1) * 5 < M * 3 → (L.length + 1 ≤ t1.mask) →
        wpAny (model P w) A (setRelay a (SetTable.grown (L.length + 1))) (fun _ s' => wpAny (model P w) A (pure true) Q E s') E { s with heap := h1 } := fun M m1 m2 m3 m4 m5 =>
      relay_q (s := { s with heap := h1 }) ho1 hex rfl rows1 T1 (by rw [len1]; exact m5) one1 ks1 pl1 ld1 (by rw [len1]; exact hfew) m1 m2 m3 (by rw [len1]; exact m4) fun h2 L2 es2 ep2 t2 sb2 R2 pm2 =>
        wpAny_pure (q true h2 L2 es2 ep2 t2 (sb.trans sb2) R2 (fun z => absurd z m) fun _ => pm2.trans pm)
    have go : wpAny (model P w) A (setRelay a (SetTable.grown (L.length + 1))) (fun _ s' => wpAny (model P w) A (pure true) Q E s') E { s with heap := h1 } := by
      rcases R.tb.mok with e | e | e
      · have l4 : L.length = 4 := by rw [e] at full hwide; omega
        exact fin 31 (by rw [l4, size_20]) (.inr (.inl rfl)) (by rw [l4, size_20]; decide) (by omega) (by rw [cm, e]; omega)
      · have l18 : L.length = 18 := by rw [e] at full hwide; omega
        exact fin 127 (by rw [l18, size_76]) (.inr (.inr rfl)) (by rw [l18, size_76]; decide) (by omega) (by rw [cm, e]; omega)
      · rw [e] at full; omega
    first
      | exact wpAny_bind (wp_if_pos (by simp [hf]) go)
      | exact wp_if_pos (by simp [hf]) (wpAny_bind go)
  · have last : wpAny (model P w) A (pure true) Q E { s with heap := h1 } := by
      refine wpAny_pure (q true h1 L1 es1 (ep + 1) t1 sb ⟨⟨_, ho1, hex, rfl⟩, rows1, T1, one1, ks1, pl1, ld1, ?_, by rw [len1]; exact hfew⟩ (fun z => absurd z m) fun _ => pm)
      have z := hf
      unfold SetTable.tooFull at z
      rw [decide_eq_true_eq, cf'] at z
      rw [len1]
      omega
    first
      | exact wp_if_neg (by simp [hf]) last
      | exact wpAny_bind (wp_if_neg (by simp [hf]) (wpAny_pure last))
end
end Z
namespace Z
open PySem PySem.Spec PyProof.Rows L2 RZ
/-- what a set holds once the first i were handed to it -/
structure Met (ks : List (Addr × NestedKey)) (i : Nat) (L : List (Addr × NestedKey)) : Prop where
  from' : ∀ p ∈ L, p ∈ ks.take i
  each : ∀ p ∈ ks.take i, p.2 ∈ L.map (·.2)
  le : L.length ≤ i
theorem take_snoc {α : Type} {l : List α} {i : Nat} {x : α} (h : l[i]? = some x) : l.take (i + 1) = l.take i ++ [x] := by
  rw [List.take_succ, h, Option.toList_some]
theorem Met.old {ks L : List (Addr × NestedKey)} {i : Nat} {x : Addr × NestedKey} (g : Met ks i L) (h : ks[i]? = some x) (m : x.2 ∈ L.map (·.2)) : Met ks (i + 1) L where
  from' p hp := by rw [take_snoc h]; exact List.mem_append_left _ (g.from' p hp)
  each p hp := by
    rw [take_snoc h, List.mem_append, List.mem_singleton] at hp
    rcases hp with z | z
    · exact g.each p z
    · rw [z]; exact m
  le := Nat.le_succ_of_le g.le
theorem Met.new {ks L M : List (Addr × NestedKey)} {i : Nat} {x : Addr × NestedKey} (g : Met ks i L) (h : ks[i]? = some x) (pm : M.Perm (x :: L)) : Met ks (i + 1) M where
  from' p hp := by
    rw [take_snoc h, List.mem_append, List.mem_singleton]
    rcases List.mem_cons.mp (pm.mem_iff.mp hp) with z | z
    · exact .inr z
    · exact .inl (g.from' p z)
  each p hp := by
    rw [(pm.map (·.2)).mem_iff, List.map_cons, List.mem_cons]
    rw [take_snoc h, List.mem_append, List.mem_singleton] at hp
    rcases hp with z | z
    · exact .inr (g.each p z)
    · rw [z]; exact .inl rfl
  le := by rw [pm.length_eq, List.length_cons]; exact Nat.succ_le_succ g.le
section
variable {P : Program} {w : World} {A : Around} {E : Value → Shared → Prop} {s : Shared}
theorem NkAt.held {h h' : Heap} {k : NestedKey} {b : Addr} (x : NkAt h k b) (g : ∀ c o, h.get? c = some o → h'.get? c = some o) : NkAt h' k b := x.stays fun c o _ _ e _ => g c o e
theorem NSet.held {h h' : Heap} {a : Addr} {L : List (Addr × NestedKey)} {es : Array (Int × Value)} {ep : Nat} {t : SetTable} (R : NSet w h a L es ep t) (ga : ∀ o, h.get? a = some o → h'.get? a = some o) (ks : ∀ p ∈ L, NkAt h' p.2 p.1) : NSet w h' a L es ep t :=
  let ⟨o, ho, r⟩ := R.ob
  ⟨⟨o, ga o ho, r⟩, R.rw', R.tb, R.one, ks, R.pl, R.ld, R.wide, R.few⟩
theorem set0 {h : Heap} {a : Addr} (ho : h.get? a = some ({ cls := .type "set", dict := none, data := .set #[] 0 (SetTable.fresh 0 0 (!(World.params w).followText "set-order")) } : Obj)) : NSet w h a [] #[] 0 (SetTable.fresh 0 0 (!(World.params w).followText "set-order")) := by
  refine ⟨⟨_, ho, ⟨rfl, rfl, rfl⟩, rfl⟩, rfl, ⟨List.Pairwise.nil, rfl, rfl, Or.inl rfl, fun x m => (by cases m), fun i g j e => (by simp [hshN] at e)⟩, List.nodup_nil, fun p m => (by cases m), rfl, ?_, by show 0 * 5 < 7 * 3; omega, by show 0 < 64; omega⟩
  show _ ∨ (!w.params.followText "set-order") = true
  cases w.params.followText "set-order" with
  | true => exact .inl rfl
  | false => exact .inr rfl
/-- the loop that fills a set -/
theorem fill_q {I : Addr} {fp wr : List Addr} {G : Array GenState → Array GenState → Prop} {n : Nat} {Pv : Nat → Value → Prop} {St : Nat → Shared → Prop} {R : Result → Shared → Prop}
    (W : WalksS P w A.in1 I fp wr G n Pv St) (S : Addr) (hS : S ∉ fp) (ks : List (Addr × NestedKey)) (hn : n = ks.length) (hfew : ks.length < 64) (val : ∀ i v, Pv i v → ∃ p, ks[i]? = some p ∧ v = .ref p.1)
    (h0 : Heap) (hk : ∀ p ∈ ks, NkAt h0 p.2 p.1) (hS0 : h0.get? S = none) (hw0 : ∀ b ∈ wr, h0.get? b = none) (hu : A.in1.units + 8 < cLine) :
    ∀ (d i : Nat) (s : Shared), n - i = d → i ≤ n → St i s → (∀ b o, h0.get? b = some o → s.heap.get? b = some o) → (∃ L es ep t, NSet w s.heap S L es ep t ∧ Met ks i L) →
      (∀ s' L es ep t, Moved (S :: wr) G s s' → NSet w s'.heap S L es ep t → Met ks n L → (∀ b o, h0.get? b = some o → s'.heap.get? b = some o) → R (.ok (.ret .none)) s') →
      codeAny (model P w) A (.builtin "set.update.loop" ⟨[.ref S, .ref I], []⟩) R s := by
  have noS : S ∉ wr := fun m => hS (W.sub _ m)
  have wide : ∀ b ∈ wr, b ∈ S :: wr := fun b m => List.mem_cons_of_mem _ m
  have still : ∀ {x y : Shared}, Moved wr G x y → (∀ b o, h0.get? b = some o → x.heap.get? b = some o) → ∀ b o, h0.get? b = some o → y.heap.get? b = some o := fun mv g b o e =>
    mv.heap b o (fun m => nomatch (hw0 b m).symm.trans e) (g b o e)
  intro d
  induction d with
  | zero =>
    intro i s hd hi st g ⟨L, es, ep, t, N, M⟩ hR
    obtain rfl : i = n := by omega
    refine codeAny_builtin F.entry_set_update_loop ?_
    rw [Around.under_plainId F.plain_set_update_loop _]
    show wpAny _ A.in1 (pyNext (Value.ref I) >>= _) _ _ s
    refine wpAny_bind (W.done s _ _ st fun s' mv => ?_)
    have g' := still mv g
    show wpAny _ _ (ret Value.none) _ _ s'
    exact wpAny_pure (hR s' L es ep t (mv.mono wide) (N.held (fun o e => mv.heap S o noS e) fun p m => (hk p (List.mem_of_mem_take (M.from' p m))).held g') M g')
  | succ d ih =>
    intro i s hd hi st g ⟨L, es, ep, t, N, M⟩ hR
    have lt : i < n := by omega
    refine codeAny_builtin F.entry_set_update_loop ?_
    rw [Around.under_plainId F.plain_set_update_loop _]
    show wpAny _ A.in1 (pyNext (Value.ref I) >>= _) _ _ s
    refine wpAny_bind (W.item i s _ _ lt st fun v s' pv st' mv => ?_)
    obtain ⟨p, hp, rfl⟩ := val i v pv
    have g' := still mv g
    have N' : NSet w s'.heap S L es ep t := N.held (fun o e => mv.heap S o noS e) fun r m => (hk r (List.mem_of_mem_take (M.from' r m))).held g'
    have x : NkAt s'.heap p.2 p.1 := (hk p (List.mem_of_getElem? hp)).held g'
    show wpAny _ A.in1 (holding [Value.ref p.1] (setAdd S (Value.ref p.1)) >>= _) _ _ s'
    refine wpAny_bind (wpAny_holding ?_)
    unfold setAdd
    refine wpAny_holding (wpAny_bind ((nestedKind P w).pyHash (k := p.2) hu ⟨x.1, x.2.1⟩ ?_))
    have few' : L.length + 1 < 64 := by have := M.le; omega
    refine put_q (s := { s' with toks := s'.toks + p.2.draws }) N' x hu few' fun b h1 L1 es1 ep1 t1 sb N1 c1 c2 => ?_
    have M1 : Met ks (i + 1) L1 := by
      by_cases c : p.2 ∈ L.map (·.2)
      · rw [c1 c]; exact M.old hp c
      · exact M.new hp (c2 c)
    have g1 : ∀ b o, h0.get? b = some o → h1.get? b = some o := fun b o e => (sb.2 b fun z => by rw [z, hS0] at e; cases e).trans (g' b o e)
    refine wpAny_pure ⟨plainId_quiet F.plain_set_update_loop _, ih (i + 1) _ (by omega) lt (W.frame _ s' _ _ st' (Nat.le_add_right _ _) fun b m o e => ?_) g1 ⟨L1, es1, ep1, t1, N1, M1⟩ fun s2 L2 es2 ep2 t2 mv2 N2 M2 g2 => ?_⟩
    · exact (sb.2 b fun z => hS (z ▸ m)).trans e
    · exact hR s2 L2 es2 ep2 t2 (Moved.trans W.gtrans ((mv.mono wide).then_heap (Nat.le_add_right _ _) fun b o m e => (sb.2 b fun z => m (by rw [z]; exact List.mem_cons_self)).trans e) mv2) N2 M2 g2
end
end Z
namespace Z
open PySem PySem.Spec PyProof.Rows L2 RZ
section
variable {P : Program} {w : World} {A : Around} {E : Value → Shared → Prop} {s : Shared}
/-- set(xs): a new set of the keys of a list -/
theorem make_q {l : Addr} {items : Array Value} (ks : List (Addr × NestedKey)) {Q : Value → Shared → Prop} (hh : A.handled = none) (hl : s.heap.IsList l items) (hit : items.toList = ks.map fun p => Value.ref p.1) (hk : ∀ p ∈ ks, NkAt s.heap p.2 p.1) (hfew : ks.length < 64) (hu : A.units + 11 < cLine)
    (q : ∀ (h' : Heap) (tk : Nat) L es ep t, NSet w h' s.heap.objs.size L es ep t → Met ks ks.length L → (∀ b o, s.heap.get? b = some o → h'.get? b = some o) → Q (.ref s.heap.objs.size) { s with heap := h', toks := tk }) :
    wpAny (model P w) A (call (.type "set") [.ref l]) Q E s := by
  have many : items.size = ks.length := by
    have z := congrArg List.length hit
    rwa [List.length_map, Array.length_toList] at z
  obtain ⟨c, tl, hmro⟩ := F.called_set.mro
  have hmade := F.called_set.made
  have hsub := F.called_set.sub
  refine wpAny_call (codeAny_of_tree ?_)
  show wpAny _ _ (callAny (Value.type "set") _) _ _ _
  refine wpAny_pure ⟨Code.quiet_builtin _ (by decide +kernel), codeAny_builtin F.entry_type_call ?_⟩
  rw [Around.under_plain (weight_type_call_type "set" [Value.ref l] []) rfl]
  have h1 := F.called_set.notType
  have h2 := F.called_set.canCreate
  have hct := F.typeCall_set_1 (Value.ref l)
  repeat any_goals first | assumption | wp_step
  refine codeAny_mono (code_set_led1 (.ref l) (E := E) (Q₁ := fun v z => v = .ref s.heap.objs.size ∧ z = { s with heap := s.heap.push ({ cls := .type "set", dict := none, data := .set #[] 0 (SetTable.fresh 0 0 (!(World.params w).followText "set-order")) } : Obj) }) ⟨rfl, rfl⟩) fun r z hr => ?_
  cases r with
  | error e => exact hr
  | ok fl =>
    cases fl with
    | ret v =>
      obtain ⟨rfl, rfl⟩ := hr
      have at0 : (s.heap.push ({ cls := .type "set", dict := none, data := .set #[] 0 (SetTable.fresh 0 0 (!(World.params w).followText "set-order")) } : Obj)).get? s.heap.objs.size = some ({ cls := .type "set", dict := none, data := .set #[] 0 (SetTable.fresh 0 0 (!(World.params w).followText "set-order")) } : Obj) := Heap.get?_push_size _ rfl
      have hT : Shared.TypeIs { s with heap := s.heap.push ({ cls := .type "set", dict := none, data := .set #[] 0 (SetTable.fresh 0 0 (!(World.params w).followText "set-order")) } : Obj) } (.ref s.heap.objs.size) "set" := ⟨_, at0, rfl⟩
      have hli := F.called_set.init.lookup
      have hbi := F.called_set.init.bind (Value.ref s.heap.objs.size)
      repeat any_goals first | assumption | wp_step
      refine codeAny_mono (codeAny_call_builtin (R := wants (fun r z => r = .none ∧ ∃ h' tk L es ep t, z = { s with heap := h', toks := tk } ∧ NSet w h' s.heap.objs.size L es ep t ∧ Met ks ks.length L ∧ ∀ b o, s.heap.get? b = some o → h'.get? b = some o) E)
        F.called_set.init.plain F.entry_set_init (check_set_init_1 hT ?_)) fun r z hr => ?_
      · obtain ⟨ol, hol, hcl, nl, hdl⟩ := hl
        obtain ⟨oc, od, oda, osl⟩ := ol
        dsimp only at hcl hdl
        subst hcl hdl
        have hlS : l < s.heap.objs.size := Heap.lt_size hol
        have at1 := Heap.get?_push_of_some ({ cls := .type "set", dict := none, data := .set #[] 0 (SetTable.fresh 0 0 (!(World.params w).followText "set-order")) } : Obj) hol
        have hl1 : (s.heap.push ({ cls := .type "set", dict := none, data := .set #[] 0 (SetTable.fresh 0 0 (!(World.params w).followText "set-order")) } : Obj)).IsList l items := ⟨_, at1, rfl, nl, rfl⟩
        have hsls := F.sub_list_set
        have hslf := F.sub_list_frozenset
        have hne : (Value.type "list" == Value.type "dict") = false := by decide
        unfold Builtin.«set.__init__» noKeywords Builtin.Frozenset.updateFrom
        generalize hPI : pyIter = PI
        wp_walk
        subst hPI
        refine wpAny_pyIter_list hl1 (wpAny_bind (wpAny_runValue ?_))
        have zz : (s.heap.push ({ cls := .type "set", dict := none, data := .set #[] 0 (SetTable.fresh 0 0 (!(World.params w).followText "set-order")) } : Obj)).objs.size = s.heap.objs.size + 1 := Heap.size_push ..
        have gone : ∀ b, s.heap.objs.size ≤ b → s.heap.get? b = none := fun b hb => by
          cases e : s.heap.get? b with
          | none => rfl
          | some o => exact absurd (Heap.lt_size e) (Nat.not_lt.mpr hb)
        refine fill_q ((Walks.list (A := A.in1.in1.in1) (by simp [hh]) _ l (by rw [zz]; exact Nat.ne_of_lt (Nat.lt_succ_of_lt hlS)) items).toS) s.heap.objs.size ?_ ks many hfew (fun i v hv => ?_) s.heap hk (gone _ (Nat.le_refl _)) (fun b m => gone b (by rw [List.mem_singleton.mp m, zz]; exact Nat.le_succ _)) ?_ (items.size - 0) 0 _ (by omega) (Nat.zero_le _)
          ⟨⟨_, Heap.get?_push_size _ rfl, rfl, rfl⟩, hl1.push _⟩ (fun b o e => Heap.get?_push_of_some _ (Heap.get?_push_of_some _ e)) ⟨[], #[], 0, _, set0 (Heap.get?_push_of_some _ at0), ⟨fun p m => (by cases m), fun p m => (by simp at m), Nat.le_refl _⟩⟩ ?_
        · rw [zz]
          simp only [List.mem_cons, List.not_mem_nil, or_false, not_or]
          exact ⟨Nat.ne_of_lt (Nat.lt_succ_self _), (Nat.ne_of_lt hlS).symm⟩
        · have e : items.toList[i]? = some v := by rw [Array.getElem?_toList]; exact hv
          rw [hit, List.getElem?_map] at e
          cases g : ks[i]? with
          | none => rw [g] at e; cases e
          | some p => rw [g] at e; exact ⟨p, rfl, (Option.some.inj e).symm⟩
        · show A.units + 1 + 1 + 1 + 8 < cLine
          omega
        · intro z L es ep t mv N M g
          obtain ⟨h', g2, d2, tk', o2⟩ := z
          obtain rfl : g2 = s.gens := mv.gens
          obtain rfl : d2 = s.drawn := mv.drawn
          obtain rfl : o2 = s.os := mv.os
          rw [many] at M
          show wpAny _ _ _ _ _ _
          refine wpAny_pure ?_
          show wpAny _ _ (ret Value.none) _ _ _
          exact wpAny_pure ⟨rfl, h', tk', L, es, ep, t, rfl, N, M, g⟩
      · cases r with
        | error e => exact hr
        | ok f =>
          cases f with
          | ret v =>
            obtain ⟨rfl, h', tk, L, es, ep, t, rfl, N, M, g⟩ := hr
            repeat any_goals first | assumption | wp_step
            exact q _ _ _ _ _ _ N M g
          | _ => exact hr.elim
    | _ => exact hr.elim
end
end Z
namespace Z
open PySem PySem.Spec PyProof.Rows L2 RZ
open Evl (Ex)
/-! ### how many of a list of haps are unlike -/
mutual
def nkOf : Dt → NestedKey
  | .int i => .num i
  | .tup ds => .tup (nksOf ds)
  | .non => .none
  | .bl _ => .none
  | .str _ => .none
  | .lst _ => .none
  | .dct => .none
def nksOf : List Dt → List NestedKey
  | [] => []
  | d :: ds => nkOf d :: nksOf ds
end
/-- the unlike ones of a list of keys -/
def unl (l : List NestedKey) : List NestedKey := l.foldr (fun k a => if k ∈ a then a else k :: a) []
theorem mem_unl (x : NestedKey) : ∀ l : List NestedKey, x ∈ unl l ↔ x ∈ l
  | [] => Iff.rfl
  | k :: l => by
    have ih := mem_unl x l
    show x ∈ (if k ∈ unl l then unl l else k :: unl l) ↔ _
    split
    · rename_i h
      rw [ih, List.mem_cons]
      refine ⟨.inr, fun g => g.elim (fun e => ?_) id⟩
      rw [e]
      exact (mem_unl k l).mp h
    · rw [List.mem_cons, List.mem_cons, ih]
theorem unl_nodup : ∀ l : List NestedKey, (unl l).Nodup
  | [] => List.nodup_nil
  | k :: l => by
    show (if k ∈ unl l then unl l else k :: unl l).Nodup
    split
    · exact unl_nodup l
    · rename_i h
      exact List.nodup_cons.mpr ⟨h, unl_nodup l⟩
theorem unl_le : ∀ l : List NestedKey, (unl l).length ≤ l.length
  | [] => Nat.le_refl _
  | k :: l => by
    show (if k ∈ unl l then unl l else k :: unl l).length ≤ _
    have ih := unl_le l
    rw [List.length_cons]
    split
    · omega
    · rw [List.length_cons]; omega
theorem unl_all : ∀ l : List NestedKey, (unl l).length = l.length ↔ l.Nodup
  | [] => ⟨fun _ => List.nodup_nil, fun _ => rfl⟩
  | k :: l => by
    show (if k ∈ unl l then unl l else k :: unl l).length = _ ↔ _
    have ih := unl_all l
    have le := unl_le l
    rw [List.length_cons, List.nodup_cons, ← ih]
    split
    · rename_i h
      rw [mem_unl] at h
      exact ⟨fun e => absurd e (by omega), fun g => absurd h g.1⟩
    · rename_i h
      rw [mem_unl] at h
      rw [List.length_cons]
      exact ⟨fun e => ⟨h, by omega⟩, fun g => by omega⟩
theorem unl_of {ks M : List NestedKey} (n : M.Nodup) (h1 : ∀ x ∈ M, x ∈ ks) (h2 : ∀ x ∈ ks, x ∈ M) : M.length = (unl ks).length :=
  ((List.perm_ext_iff_of_nodup n (unl_nodup ks)).mpr fun x => (⟨fun m => (mem_unl x ks).mpr (h1 x m), fun m => h2 x ((mem_unl x ks).mp m)⟩)).length_eq
/-- a tuple of numbers, or of such tuples, not too deep -/
def HapD (d : Dt) : Prop := (∃ es, d = .tup es) ∧ numy (nkOf d) = true ∧ (nkOf d).depth ≤ 8
section
variable {X : Cx} {pins : List (Addr × Obj)} {σ : L2.St} {H : Hp} {s : Shared}
mutual
theorem nk_is (I : Inv X pins σ H s) : ∀ (d : Dt) (v : V) (u : Value), Rp X.K H v d → RelV v u → numy (nkOf d) = true → NestedIs s.heap (nkOf d) u
  | .int i, _, u, .int _, r, _ => by obtain ⟨t, rfl⟩ := r; exact .int i t
  | .tup ds, _, u, .tup h q, r, n => by
    obtain rfl : u = Value.ref _ := r
    obtain ⟨its, rv, ⟨o, ho, hc, m, hd⟩, _⟩ := I.tuple h.t
    exact .tup ho hc hd (nks_is I ds _ _ q rv n)
  | .non, _, _, _, _, n => by simp [nkOf, numy] at n
  | .bl _, _, _, _, _, n => by simp [nkOf, numy] at n
  | .str _, _, _, _, _, n => by simp [nkOf, numy] at n
  | .lst _, _, _, _, _, n => by simp [nkOf, numy] at n
  | .dct, _, _, _, _, n => by simp [nkOf, numy] at n
theorem nks_is (I : Inv X pins σ H s) : ∀ (ds : List Dt) (vs : List V) (us : List Value), Rps X.K H vs ds → Vals vs us → numys (nksOf ds) = true → NestedAll s.heap (nksOf ds) us
  | [], _, _, .nil, .nil, _ => .nil
  | d :: ds, _, _, .cons a b, .cons r t, n => by
    rw [nksOf, numys, Bool.and_eq_true] at n
    exact .cons (nk_is I d _ _ a r n.1) (nks_is I ds _ _ b t n.2)
end
theorem keys_of (I : Inv X pins σ H s) : ∀ {ds : List Dt} {vs : List V} {us : List Value}, Rps X.K H vs ds → Vals vs us → (∀ d ∈ ds, HapD d) → ∃ ks : List (Addr × NestedKey), us = ks.map (fun p => Value.ref p.1) ∧ ks.map (·.2) = ds.map nkOf ∧ ∀ p ∈ ks, NkAt s.heap p.2 p.1
  | _, _, _, .nil, .nil, _ => ⟨[], rfl, rfl, fun p m => (by cases m)⟩
  | d :: ds, _, _, .cons a b, .cons r t, g => by
    obtain ⟨ks, e1, e2, e3⟩ := keys_of I b t fun y m => g y (List.mem_cons_of_mem _ m)
    obtain ⟨⟨es, rfl⟩, n, dp⟩ := g d List.mem_cons_self
    cases a with
    | tup h q =>
      have x := nk_is I _ _ _ (.tup h q) r n
      obtain rfl := r
      refine ⟨(_, nkOf (.tup es)) :: ks, by rw [List.map_cons, e1], by rw [List.map_cons, List.map_cons, e2], fun p m => ?_⟩
      rcases List.mem_cons.mp m with z | z
      · rw [z]; exact ⟨x, dp, n⟩
      · exact e3 p z
/-- len(set(xs)) -/
def tUnl (K : PySem.W.Frag) (ta : TE) : TE := fun σ H Q => ta σ H fun x H1 => ∃ ds : List Dt, (∃ l, x = V.ref l) ∧ Rp K H1 x (.lst ds) ∧ (∀ d ∈ ds, HapD d) ∧ ds.length < 64 ∧ Q (.int (unl (ds.map nkOf)).length) H1
theorem pe_lenSetN {a : Expr} {ta : TE} {p p2 q pos : Pos} (hc : X.calm = true) (hu : X.A.units + 64 < cLine) (hg : Gl X "len") (hm : X.mg "len" = none) (hg2 : Gl X "set") (hm2 : X.mg "set" = none) (ha : PE X a ta)
    (na : starEach [a] X.env = (false, eval a X.env) :: starEach [] X.env := by rfl) : PE X (.Call (.Name "len" p) [.Call (.Name "set" p2) [a] [] q] [] pos) (tUnl X.K ta) := by
  refine ⟨fun pins s σ H Q I h => Call_ (ld_blt I hg hm PySem.boot_len (PyProof.Rows.callWith_builtin1 (PyProof.Rows.args_cons ?_ rfl) rfl rfl))⟩
  refine Call_ (ld_blt I hg2 hm2 PyProof.Rows.boot_set (PyProof.Rows.callWith_type1 (PyProof.Rows.args_cons (thn (ha.run pins s σ H _ I h) fun v z ⟨x, H1, I1, r1, q1⟩ => PyProof.Rows.args_nil ?_) na) na rfl))
  obtain ⟨ds, ⟨l, rfl⟩, rp, g, few, q1⟩ := q1
  obtain rfl := r1
  cases rp with
  | lst hq rs =>
    obtain ⟨its, rv, pl, hz⟩ := I1.list hq
    obtain ⟨ks, e1, e2, e3⟩ := keys_of I1 rs rv g
    have kl : ks.length = ds.length := by
      have z := congrArg List.length e2
      rwa [List.length_map, List.length_map] at z
    refine make_q ks (I1.ok.hd hc) pl.isList (by simpa using e1) e3 (by omega) (by omega) fun h' tk L es ep t N M k => PyProof.Rows.args_nil ?_
    obtain ⟨o, ho, hex, hd⟩ := N.ob
    have I2 : Inv X pins σ H1 { z with heap := h', toks := tk } := I1.kept k
    have sz : es.size = (unl (ds.map nkOf)).length := by
      rw [rows_len N.rw', ← e2, ← List.length_map (f := fun p : Addr × NestedKey => p.2) (as := L)]
      refine unl_of N.one (fun y m => ?_) fun y m => ?_
      · obtain ⟨p, hp, rfl⟩ := List.mem_map.mp m
        exact List.mem_map.mpr ⟨p, List.mem_of_mem_take (M.from' p hp), rfl⟩
      · obtain ⟨p, hp, rfl⟩ := List.mem_map.mp m
        exact M.each p (by rw [List.take_length]; exact hp)
    have small := unl_le (ds.map nkOf)
    rw [List.length_map] at small
    refine call_len_set ho hex hd (fits_q N.rw' N.tb (by have := N.wide; omega)) (by omega) ⟨.int (unl (ds.map nkOf)).length, H1, I2.tok _, ⟨_, by rw [sz]⟩, q1⟩
end
theorem unlK {X : Cx} {K : PySem.W.Frag} {a : Expr} {ta : TE} {p p2 q pos : Pos} (eK : X.K = K) (hc : X.calm = true) (hu : X.A.units + 64 < cLine) (hg : Gl X "len") (hm : X.mg "len" = none) (hg2 : Gl X "set") (hm2 : X.mg "set" = none) (ha : PE X a ta)
    (na : starEach [a] X.env = (false, eval a X.env) :: starEach [] X.env := by rfl) : PE X (.Call (.Name "len" p) [.Call (.Name "set" p2) [a] [] q] [] pos) (tUnl K ta) := eK ▸ pe_lenSetN hc hu hg hm hg2 hm2 ha na
theorem ev_lenSetN {K : PySem.W.Frag} {sl : List Sl} {ta : TE} {ds : List Dt} (h : Ev K ta sl (.lst ds)) (g : ∀ d ∈ ds, HapD d) (few : ds.length < 64) : Ev K (tUnl K ta) sl (.int (unl (ds.map nkOf)).length) := fun G H σ k f Q q =>
  h G H σ k f _ fun v G1 H1 n1 r1 => ⟨ds, by cases r1; exact ⟨_, rfl⟩, r1.mono n1.k, g, few, q _ G1 H1 n1 (.int _)⟩
/-- a pair of pairs of numbers is such -/
theorem hapD_pair (a b c d : Int) : HapD (.tup [.tup [.int a, .int b], .tup [.int c, .int d]]) := ⟨⟨_, rfl⟩, by simp [nkOf, nksOf, numy, numys], by simp [nkOf, nksOf, NestedKey.depth, NestedKey.depthAll]⟩
theorem hapD_of {d : Dt} (h : isHp d = true) : HapD d := by
  unfold isHp at h
  split at h
  · rw [Bool.and_eq_true] at h
    obtain ⟨t, rfl⟩ := isFr_iff.mp h.1
    obtain ⟨p, rfl⟩ := isFr_iff.mp h.2
    exact hapD_pair _ _ _ _
  · cases h
/-- is it a list of so many unlike haps? -/
def areH (x : Dt) (m : Int) : Bool := match x with
  | .lst ds => decide (1 ≤ (ds.length : Int) ∧ (ds.length : Int) ≤ m) && (ds.all isHp && (((unl (ds.map nkOf)).length : Int) == ds.length))
  | _ => false
theorem kb_lst (x : Dt) : ∃ b, kitB (tyN x) "list" = some b ∧ (b = true ↔ ∃ ds, x = .lst ds) := by
  cases x with
  | lst ds => exact ⟨true, (by simp only [tyN]; decide +kernel), fun _ => ⟨ds, rfl⟩, fun _ => rfl⟩
  | _ => exact ⟨false, (by simp only [tyN]; decide +kernel), fun h => (by cases h), fun ⟨_, h⟩ => (by cases h)⟩
theorem areH_lst (ds : List Dt) (m : Int) : areH (.lst ds) m = (decide (1 ≤ (ds.length : Int) ∧ (ds.length : Int) ≤ m) && (ds.all isHp && (((unl (ds.map nkOf)).length : Int) == ds.length))) := rfl
theorem areH_no {x : Dt} (h : ¬ ∃ ds, x = .lst ds) (m : Int) : areH x m = false := by
  unfold areH
  split
  · exact absurd ⟨_, rfl⟩ h
  · rfl
end Z
namespace Z
open PySem PySem.Spec PyProof.Rows L2 RZ
open Evl (Ex)
/-! ### comprehensions over enumerate(list), with a test -/
theorem enumK {X : Cx} {K : PySem.W.Frag} {tg it : Expr} {ta : TA} (eK : X.K = K) (h : PI X tg it (iEnum X.K ta)) : PI X tg it (iEnum K ta) := eK ▸ h
theorem lc_enum {K : PySem.W.Frag} {a : Addr} {xs : List V} {g : TG} {tt : TT} {te : TE} {vs : List Nat} {σ : L2.St} {H1 : Hp} {D : Addr} {Qd : Hp → Prop} (Pv : Nat → Hp → Prop) (h0 : Pv 0 (upd H1 D (.lst []))) (hl : ∀ i H, i ≤ xs.length → Pv i H → SqL K H a xs)
    (hs : ∀ (i : Nat) (x : V) (T : Addr) (H : Hp), xs[i]? = some x → Pv i H → H T = none → g (.ref T) (wipe σ vs) (upd H T (.tup [.int (i : Nat), x])) fun σ2 H2 => wipe σ2 vs = wipe σ vs ∧ tt σ2 H2 fun b H3 =>
      if b = true then te σ2 H3 fun y H4 => ∃ acc, H4 D = some (.lst acc) ∧ acc.length < sizeLine ∧ Pv (i + 1) (upd H4 D (.lst (acc ++ [y]))) else Pv (i + 1) H3) (hd : ∀ H, Pv xs.length H → Qd H) :
    ∃ W : Nat → Nat → Hp → Prop, (∃ m, W 0 m (upd H1 D (.lst []))) ∧ ∀ i m H, W i m H →
      ((Ite K a).stop i H ∧ Qd H) ∨ ((Ite K a).go i H ∧ ∃ Nx : Hp → Prop, (∀ H', Nx H' → ∃ m', m' < m ∧ W (i + 1) m' H') ∧ ∀ x H', (Ite K a).yld i H x H' → g x (wipe σ vs) H' fun σ2 H2 => wipe σ2 vs = wipe σ vs ∧ tt σ2 H2 fun b H3 =>
        if b = true then te σ2 H3 fun y H4 => ∃ acc, H4 D = some (.lst acc) ∧ acc.length < sizeLine ∧ Nx (upd H4 D (.lst (acc ++ [y]))) else Nx H3) := by
  refine ⟨fun i m H => m = xs.length - i ∧ i ≤ xs.length ∧ Pv i H, ⟨xs.length, by simp, Nat.zero_le _, h0⟩, ?_⟩
  rintro i m H ⟨rfl, hi, p⟩
  have qx := hl i H hi p
  by_cases hlt : i < xs.length
  · refine .inr ⟨⟨xs, _, qx, List.getElem?_eq_getElem hlt⟩, Pv (i + 1), fun H' p' => ⟨xs.length - (i + 1), by omega, rfl, hlt, p'⟩, fun v H' y => ?_⟩
    obtain ⟨T, x', rfl, hT, rfl, f1⟩ := y
    exact hs i x' T H (f1 xs qx) p hT
  · obtain rfl : i = xs.length := by omega
    exact .inl ⟨⟨xs, qx, Nat.le_refl _⟩, hd H p⟩
/-- the numbers below n that pass, each made into something -/
def pickD (p : Nat → Bool) (f : Nat → Dt) (n : Nat) : List Dt := ((List.range n).filter p).map f
theorem pickD_succ (p : Nat → Bool) (f : Nat → Dt) (n : Nat) : pickD p f (n + 1) = pickD p f n ++ (if p n = true then [f n] else []) := by
  unfold pickD
  rw [List.range_succ, List.filter_append, List.map_append]
  cases h : p n
  · rw [List.filter_cons_of_neg (by simp [h])]; rfl
  · rw [List.filter_cons_of_pos h]; rfl
theorem pickD_le (p : Nat → Bool) (f : Nat → Dt) (n : Nat) : (pickD p f n).length ≤ n := by
  unfold pickD
  rw [List.length_map]
  exact Nat.le_trans (List.length_filter_le _ _) (by rw [List.length_range]; exact Nat.le_refl _)
/-- a list of haps, as data -/
def hapsD (ts : List (Rat × Rat)) : Dt := .lst (ts.map fun p => hapD p.1 p.2)
end Z
namespace Z
open PySem PySem.Spec PyProof.Rows L2 RZ
open Evl (Ex)
/-! ### what seats tell, wider -/
/-! ### flashes -/
def hf : Rat := ⟨1, 2, by decide, by decide⟩
theorem abs_or (x : Rat) : (0 ≤ x ∧ x.abs = x) ∨ (x < 0 ∧ x.abs = -x) := by
  rcases (by grind : 0 ≤ x ∨ x < 0) with h | h
  · exact .inl ⟨h, Rat.abs_of_nonneg h⟩
  · exact .inr ⟨h, Rat.abs_of_nonpos (by grind)⟩
/-! ### beats -/
/-! ### the stretch of two seats -/
/-! ### bounces -/
end Z
namespace Z
open PySem PySem.Spec PyProof.Rows L2 RZ
open Evl (Ex)
/-! ### zip of two lists -/
/-! ### data with lists, so deep -/
section
variable {K : PySem.W.Frag} {sl : List Sl} {ps : List Addr} {B : Bool → Prop} {tt uu : TT} {t : TS} {N : List Sl → Prop}
theorem ip_ifP (h : EpT K tt sl ps fun b => (b = true → Ip K t sl ps N) ∧ (b = false → N sl)) : Ip K (tIfS tt t tNext) sl ps N := fun G H σ e f m D q => h G H σ e f m _ fun b G1 H1 hb n1 m1 => by
  cases b with
  | true =>
    show t D σ H1
    exact hb.1 rfl G1 H1 σ n1.k (FrD.mono n1.g f) m1 D fun σ2 sl2 G2 H2 h2 n2 m2 f2 => q σ2 sl2 G2 H2 h2 (n1.trans n2) m2 f2
  | false => exact q σ sl G1 H1 (hb.2 rfl) n1 m1 (FrD.mono n1.g f)
end
/-! ### a new list is handed back -/
def Ef (K : PySem.W.Frag) (te : TE) (sl : List Sl) (es : List Dt) : Prop := ∀ (G H : Hp) (σ : L2.St), Ex G H → FrD K G σ sl → ∀ Q : VK, (∀ p ws G2 H2, H p = none → Nx G H G2 H2 → G2 p = none → H2 p = some (.lst ws) → Rps K G2 ws es → Q (.ref p) H2) → te σ H Q
/-- [te for x in tl], x in slot i, item by item -/
theorem ef_lcP {K : PySem.W.Frag} {sl : List Sl} {te tl : TE} {i : Nat} {ds es : List Dt} (hes : es.length = ds.length) (h : Ev K tl sl (.lst ds)) (hn : ds.length ≤ 90000) (he : ∀ (k : Nat) (d e : Dt), ds[k]? = some d → es[k]? = some e → Ev K te ((sl.set i .no).set i (.d d)) e) : Ef K (tLc (iList K tl) (gName i) tYes te [i]) sl es := fun G H σ k fr Q q =>
  h G H σ k fr _ fun v G1 H1 n1 r1 => by
    cases r1 with
    | lst hs rs =>
      rename_i a xs
      have hlen := rs.length
      refine ⟨a, rfl, ⟨_, Evl.ex_l n1.k hs⟩, fun Dl hD => ?_⟩
      have gD : G1 Dl = none := free_of n1.k hD
      refine lc_list (K := K) (a := a) (xs := xs) (fun j H' => ∃ G' vs, Ex G1 G' ∧ Ex H1 H' ∧ Ex G' H' ∧ (∀ c, G1 c = none → H1 c ≠ none → G' c = none) ∧ G' Dl = none ∧ H' Dl = some (.lst vs) ∧ Rps K G' vs (es.take j))
        ⟨G1, [], Ex.refl _, Ex.new hD, n1.k.trans (Ex.new hD), fun _ z _ => z, gD, upd_same, .nil⟩ (fun j H' _ ⟨G', vs, e1, e2, _⟩ => Evl.ex_l (n1.k.trans e2) hs) ?_ ?_
      · rintro j x H' hj ⟨G', vs, e1, e2, e3, e4, e5, e6, e7⟩
        have hj2 : j < xs.length := (List.getElem?_eq_some_iff.mp hj).1
        have hd : ds[j]? = some ds[j] := List.getElem?_eq_getElem (by omega)
        obtain ⟨x', hx', rx⟩ := rs.get hd
        rw [hj] at hx'
        cases hx'
        refine ⟨?_, ?_⟩
        · show ((wipe σ [i]).set i (some x)).set i none = σ.set i none
          show (((σ.set i none)).set i (some x)).set i none = σ.set i none
          rw [List.set_set, List.set_set]
        · have fr1 : FrD K G' ((σ.set i none).set i (some x)) ((sl.set i .no).set i (.d ds[j])) := frd_set (.d (rx.mono e1)) i (frd_wipe i (FrD.mono (n1.g.trans e1) fr))
          have hd2 : es[j]? = some es[j] := List.getElem?_eq_getElem (by omega)
          refine he j ds[j] es[j] hd hd2 G' H' _ e3 fr1 _ fun u G2 H2 n2 r2 => ?_
          have g2D : G2 Dl = none := n2.f Dl e5 (by rw [e6]; intro z; cases z)
          have hl := e7.length
          refine ⟨vs, n2.h Dl _ e6, Nat.lt_of_lt_of_le (m := 100000) (by rw [hl, List.length_take]; omega) (by decide), G2, vs ++ [u], e1.trans n2.g, Evl.Ex.mut (e2.trans n2.h) hD, Evl.Ex.mut n2.k g2D, fun c c1 c2 => n2.f c (e4 c c1 c2) (ne_none e2 c2), g2D, upd_same, ?_⟩
          have et : es.take (j + 1) = es.take j ++ [es[j]] := by
            rw [List.take_add_one, hd2]
            rfl
          rw [et]
          exact (e7.mono n2.g).snoc r2
      · rintro H' ⟨G', vs, e1, e2, e3, e4, e5, e6, e7⟩
        rw [hlen, show ds.length = es.length from hes.symm, List.take_length] at e7
        have hp : H Dl = none := by
          cases z : H Dl with
          | none => rfl
          | some o =>
            rw [n1.h Dl o z] at hD
            cases hD
        exact q Dl vs G' H' hp (n1.trans ⟨e1, e2, e3, e4⟩) e5 e6 e7
def spXL (K : PySem.W.Frag) (R : List Dt → List Dt → Prop) (X : List Dt → Value → Prop) : L2.Sp := fun vs H Q E => ∃ (ds : List Dt) (G : Hp), Ex G H ∧ Rps K G vs ds ∧
  ((∃ es, R ds es ∧ ∀ p ws G2 H2, H p = none → Nx G H G2 H2 → G2 p = none → H2 p = some (.lst ws) → Rps K G2 ws es → Q (.ref p) H2) ∨ (∃ cls, X ds cls ∧ ∀ G2 H2, Nx G H G2 H2 → E cls none H2))
def Rf (K : PySem.W.Frag) (t : TS) (sl : List Sl) (es : List Dt) : Prop := ∀ (G H : Hp) (σ : L2.St), Ex G H → FrD K G σ sl → ∀ D : Ends, (∀ p ws G2 H2, H p = none → Nx G H G2 H2 → G2 p = none → H2 p = some (.lst ws) → Rps K G2 ws es → D.rt (.ref p) H2) → t D σ H
theorem none_of {H H1 : Hp} {p : Addr} (e : Ex H H1) (h : H1 p = none) : H p = none := by
  cases z : H p with
  | none => rfl
  | some o =>
    rw [e p o z] at h
    cases h
section
variable {K : PySem.W.Frag} {sl sl1 : List Sl} {te : TE} {t : TS} {u : XK → TS} {ps : List Addr} {p : Addr} {ds es xs : List Dt} {d : Dt} {M : List Sl → Prop} {ta : TA} {tc : TT} {v : TS} {i : Nat} {R : List Dt → Dt → Prop} {RL : List Dt → List Dt → Prop} {XF : List Dt → Value → Prop}
theorem rf_ret (h : Ef K te sl es) : Rf K (tRet te) sl es := fun G H σ k f D q => h G H σ k f _ q
theorem rf_nt (h : Nt K t sl sl1) (g : Rf K v sl1 es) : Rf K (tSeq t v) sl es := fun G H σ k f D q => h G H σ k f _ fun σ1 G1 H1 n1 f1 => g G1 H1 σ1 n1.k f1 D fun p ws G2 H2 hp n2 => q p ws G2 H2 (none_of n1.h hp) (n1.trans n2)
end
section
variable {P : Program} {w : World} {K : PySem.W.Frag} {mg : Str → Option Value} {base : Heap} {x : Str} {st : Stmt} {N ps : List Str} {k : Nat}
theorem Dd.raisesL {R : List Dt → List Dt → Prop} {t : XK → TS} (D : Dd K mg x st ps) (S : FnScope N ps (defScope st)) (hl : ∀ ds d, R ds d → ds.length = ps.length)
    (h1 : ∀ (f : Addr) (cdv : Value) (A : Around) (outer : List Env) (s : Shared) (H : Hp) (E : XK), Room k (A.deeper (envOfC x (defScope st) s.heap.objs.size f cdv)) → PSs (cxOf (L2.CX P w) P w K mg base N x (defScope st) f cdv A outer s H E) (defBody st) (t E))
    (h2 : ∀ ds es, R ds es → ∀ E, Rf K (t E) (ds.map Sl.d ++ List.replicate (N.length - ps.length) .no) es) : Has P w K mg base (L2.CX P w) (k + 1) x ps (spXL K R fun _ _ => False) := by
  obtain ⟨f, fd, F, hm, b⟩ := D.ex
  refine ⟨f, fd, F.okX S (fun vs H Q E h => ?_) (fun cdv A outer s H vs Q E hr h => ⟨t E, h1 f cdv A outer s H E hr, ?_⟩), hm, F.kp, b⟩
  · obtain ⟨ds, G, _, r, h⟩ := h
    rw [r.length]
    rcases h with ⟨d, hR, _⟩ | ⟨c, hX, _⟩
    · exact hl ds d hR
    · exact hX.elim
  · obtain ⟨ds, G, kG, r, h⟩ := h
    rcases h with ⟨d, hR, q⟩ | ⟨c, hX, q⟩
    · exact h2 ds d hR E G H _ kG (start_ok r (hl ds d hR)) _ q
    · exact hX.elim
end
end Z
namespace Z
open PySem PySem.Spec PyProof.Rows L2 RZ
open Evl (Ex)
/-! ### in, not in; comprehensions over a list, with a test -/
theorem inK {X : Cx} {K : PySem.W.Frag} {k : Nat} (eK : X.K = K) (hr : Room k X.A) : OpR X (compareOp .In) (rInD K) := eK ▸ op_inD (by have := hr.un; omega)
theorem sh_list : ∀ {ps : List PyData}, (∀ p ∈ ps, p.canLay0 = true ∧ p.depth ≤ 8) → PyData.canLayAll0 ps = true ∧ PyData.depthAll ps ≤ 8
  | [], _ => ⟨rfl, Nat.zero_le _⟩
  | p :: ps, h => by
    obtain ⟨a, b⟩ := h p List.mem_cons_self
    obtain ⟨c, d⟩ := sh_list fun q m => h q (List.mem_cons_of_mem _ m)
    exact ⟨by rw [PyData.canLayAll0, a, c]; rfl, by rw [PyData.depthAll]; omega⟩
theorem sh_lst {ps : List PyData} (h : ∀ p ∈ ps, p.canLay0 = true ∧ p.depth ≤ 8) : SeqAt.shaped (.list ps) = true := by
  obtain ⟨a, b⟩ := sh_list h
  unfold SeqAt.shaped
  rw [Bool.and_eq_true, decide_eq_true_eq, PyData.canLay0, PyData.depth]
  exact ⟨a, by omega⟩
/-! ### lists of unlike haps, and what each can reach -/
theorem nk_inj {t p u q : Rat} (h : nkOf (hapD t p) = nkOf (hapD u q)) : t = u ∧ p = q := by
  unfold hapD fq at h
  simp only [nkOf, nksOf, NestedKey.tup.injEq, List.cons.injEq, NestedKey.num.injEq, and_true] at h
  obtain ⟨⟨a, b⟩, c, d⟩ := h
  exact ⟨Rat.ext a (by omega), Rat.ext c (by omega)⟩
theorem areH_ok {ts : List (Rat × Rat)} {m : Int} (h1 : 1 ≤ ts.length) (h2 : (ts.length : Int) ≤ m) (n : ts.Nodup) : areH (hapsD ts) m = true := by
  have l : (ts.map fun p => hapD p.1 p.2).length = ts.length := List.length_map ..
  have n2 : ((ts.map fun p => hapD p.1 p.2).map nkOf).Nodup := by
    rw [List.map_map]
    refine List.pairwise_map.mpr (n.imp fun {a b} ne e => ne ?_)
    obtain ⟨e1, e2⟩ := nk_inj e
    exact Prod.ext e1 e2
  have u := (unl_all _).mpr n2
  rw [List.length_map, l] at u
  unfold hapsD
  rw [areH_lst, l, u, decide_eq_true ⟨by omega, h2⟩, beq_self_eq_true, Bool.and_true, Bool.true_and]
  refine List.all_eq_true.mpr fun d m => ?_
  obtain ⟨p, _, rfl⟩ := List.mem_map.mp m
  exact isHp_hap _ _
def numsD (l : List Nat) : List Dt := l.map fun k => .int (k : Nat)
theorem atI_k {α : Type} (ds : List α) {k : Nat} (h : k < ds.length) : atI ds (k : Nat) = ds[k]? := by
  unfold atI ixN
  rw [if_pos (by omega), if_pos (by omega), Int.toNat_natCast, Option.bind_some]
theorem ef_is {K : PySem.W.Frag} {te : TE} {sl : List Sl} {es fs : List Dt} (h : Ef K te sl es) (e : es = fs) : Ef K te sl fs := e ▸ h
end Z
namespace Z
open PySem PySem.Spec PyProof.Rows L2 RZ
open Evl (Ex)
/-! ### new lists of new lists handed back -/
def New1 (H H2 : Hp) (v : V) : Prop := ∃ r us, v = V.ref r ∧ H r = none ∧ H2 r = some (.lst us) ∧ us.length ≤ 90000
def dlen : Dt → Nat
  | .lst ds => ds.length
  | _ => 0
def New2 (n : Nat) (H H2 : Hp) (v : V) : Prop := ∃ p ws, v = V.ref p ∧ H p = none ∧ H2 p = some (.lst ws) ∧ ws.length = n ∧ ∀ u ∈ ws, New1 H H2 u
theorem New1.back {H0 H H2 : Hp} {v : V} (e : Ex H0 H) (h : New1 H H2 v) : New1 H0 H2 v := let ⟨r, us, a, b, c⟩ := h; ⟨r, us, a, none_of e b, c⟩
theorem New2.back {H0 H H2 : Hp} {v : V} {n : Nat} (e : Ex H0 H) (h : New2 n H H2 v) : New2 n H0 H2 v := let ⟨p, ws, a, b, c, l, d⟩ := h; ⟨p, ws, a, none_of e b, c, l, fun u m => (d u m).back e⟩
/-- an expression whose value is a list made anew; a list made anew of such lists -/
def En (K : PySem.W.Frag) (te : TE) (sl : List Sl) (x : Dt) : Prop := ∀ (G H : Hp) (σ : L2.St), Ex G H → FrD K G σ sl → ∀ Q : VK, (∀ v G2 H2, Nx G H G2 H2 → Rp K G2 v x → New1 H H2 v → Q v H2) → te σ H Q
def Em (K : PySem.W.Frag) (te : TE) (sl : List Sl) (x : Dt) : Prop := ∀ (G H : Hp) (σ : L2.St), Ex G H → FrD K G σ sl → ∀ Q : VK, (∀ v G2 H2, Nx G H G2 H2 → Rp K G2 v x → New2 (dlen x) H H2 v → Q v H2) → te σ H Q
theorem En.ev {K : PySem.W.Frag} {te : TE} {sl : List Sl} {x : Dt} (h : En K te sl x) : Ev K te sl x := fun G H σ k f Q q => h G H σ k f Q fun v G2 H2 n r _ => q v G2 H2 n r
theorem Em.ev {K : PySem.W.Frag} {te : TE} {sl : List Sl} {x : Dt} (h : Em K te sl x) : Ev K te sl x := fun G H σ k f Q q => h G H σ k f Q fun v G2 H2 n r _ => q v G2 H2 n r
theorem freeze {K : PySem.W.Frag} {G H G2 H2 : Hp} {p : Addr} {ws : List V} {es : List Dt} (hp : H p = none) (n : Nx G H G2 H2) (g : G2 p = none) (h : H2 p = some (.lst ws)) (r : Rps K G2 ws es) : Nx G H (upd G2 p (.lst ws)) H2 ∧ Rp K (upd G2 p (.lst ws)) (.ref p) (.lst es) :=
  ⟨⟨n.g.trans (Ex.new g), n.h, fun b o hb => by
    by_cases z : b = p
    · subst z
      rw [upd_same] at hb
      rw [h]
      exact hb
    · exact n.k b o (by rwa [upd_ne z] at hb), fun c c1 c2 => by
    rw [upd_ne fun z => c2 (by rw [z]; exact hp)]
    exact n.f c c1 c2⟩, .lst (.inl (.inl upd_same)) (r.mono (Ex.new g))⟩
theorem en_ef {K : PySem.W.Frag} {te : TE} {sl : List Sl} {es : List Dt} (h : Ef K te sl es) (hl : es.length ≤ 90000) : En K te sl (.lst es) := fun G H σ k f Q q => h G H σ k f _ fun p ws G2 H2 hp n g h2 r =>
  have z := freeze hp n g h2 r
  q _ _ _ z.1 z.2 ⟨p, ws, rfl, hp, h2, by rw [r.length]; exact hl⟩
theorem en_is {K : PySem.W.Frag} {te : TE} {sl : List Sl} {x y : Dt} (h : En K te sl x) (e : x = y) : En K te sl y := e ▸ h
/-- [.. for i, x in enumerate(list) if test], made anew -/
theorem ef_lcEn {K : PySem.W.Frag} {sl : List Sl} {ta : TA} {tt : TT} {te : TE} {i j : Nat} {as : List Dt} (p : Nat → Bool) (f : Nat → Dt) (h : EvA K ta sl [.lst as]) (hn : as.length ≤ 90000)
    (ht : ∀ (k : Nat) (a : Dt), as[k]? = some a → EvT K tt ((((sl.set j .no).set i .no).set i (.d (.int (k : Nat)))).set j (.d a)) (p k))
    (he : ∀ (k : Nat) (a : Dt), as[k]? = some a → p k = true → Ev K te ((((sl.set j .no).set i .no).set i (.d (.int (k : Nat)))).set j (.d a)) (f k)) :
    Ef K (tLc (iEnum K ta) (gTup K 2 (gCons (gName i) (gCons (gName j) gNil))) tt te [i, j]) sl (pickD p f as.length) := fun G H σ k fr Q q =>
  h G H σ k fr _ fun vs G1 H1 n1 r1 => by
    cases r1 with
    | cons ra rb =>
      cases rb
      cases ra with
      | lst hsa rsa =>
        rename_i pa xs
        have hla := rsa.length
        refine ⟨pa, xs, rfl, Evl.ex_l n1.k hsa, fun Dl hD => ?_⟩
        have gD : G1 Dl = none := free_of n1.k hD
        refine lc_enum (K := K) (a := pa) (xs := xs) (fun m H' => ∃ G' vs, Ex G1 G' ∧ Ex H1 H' ∧ Ex G' H' ∧ (∀ c, G1 c = none → H1 c ≠ none → G' c = none) ∧ G' Dl = none ∧ H' Dl = some (.lst vs) ∧ Rps K G' vs (pickD p f m))
          ⟨G1, [], Ex.refl _, Ex.new hD, n1.k.trans (Ex.new hD), fun _ z _ => z, gD, upd_same, .nil⟩ (fun m H' _ ⟨G', vs, e1, e2, _⟩ => Evl.ex_l (n1.k.trans e2) hsa) ?_ ?_
        · rintro m x T H' hx ⟨G', vs, e1, e2, e3, e4, e5, e6, e7⟩ hT
          have hm : m < xs.length := (List.getElem?_eq_some_iff.mp hx).1
          have hda : as[m]? = some as[m] := List.getElem?_eq_getElem (by omega)
          obtain ⟨x', hx', rx⟩ := rsa.get hda
          rw [hx] at hx'
          cases hx'
          have nT : Nx G' H' (upd G' T (.tup [.int (m : Nat), x])) (upd H' T (.tup [.int (m : Nat), x])) := .new e3 hT
          refine ⟨_, _, rfl, .inl (.inl upd_same), rfl, _, [x], rfl, x, [], rfl, rfl, wipe2 σ _ x, ?_⟩
          have fr0 : FrD K (upd G' T (.tup [.int (m : Nat), x])) ((wipe σ [i, j])) ((sl.set j .no).set i .no) := frd_wipe i (frd_wipe j (FrD.mono (n1.g.trans (e1.trans nT.g)) fr))
          have fr1 := frd_set (s := .d as[m]) (.d (rx.mono (e1.trans nT.g))) j (frd_set (s := .d (.int (m : Nat))) (.d (.int _)) i fr0)
          have hl := e7.length
          have few : vs.length < sizeLine := Nat.lt_of_lt_of_le (m := 100000) (by have := pickD_le p f m; omega) (by decide)
          refine ht m _ hda _ _ _ nT.k fr1 _ fun G2 H2 n2 => ?_
          have n02 := nT.trans n2
          have g2D : G2 Dl = none := n02.f Dl e5 (by rw [e6]; intro z; cases z)
          cases hp : p m with
          | false =>
            refine ⟨G2, vs, e1.trans n02.g, e2.trans n02.h, n2.k, fun c c1 c2 => n02.f c (e4 c c1 c2) (ne_none e2 c2), g2D, n02.h Dl _ e6, ?_⟩
            rw [pickD_succ, hp]
            simpa using e7.mono n02.g
          | true =>
            refine he m _ hda hp _ _ _ n2.k (FrD.mono n2.g fr1) _ fun u G3 H3 n3 r3 => ?_
            have n03 := n02.trans n3
            have g3D : G3 Dl = none := n03.f Dl e5 (by rw [e6]; intro z; cases z)
            refine ⟨vs, n03.h Dl _ e6, few, G3, vs ++ [u], e1.trans n03.g, Evl.Ex.mut (e2.trans n03.h) hD, Evl.Ex.mut n3.k g3D, fun c c1 c2 => n03.f c (e4 c c1 c2) (ne_none e2 c2), g3D, upd_same, ?_⟩
            rw [pickD_succ, hp]
            exact (e7.mono n03.g).snoc r3
        · rintro H' ⟨G', vs, e1, e2, e3, e4, e5, e6, e7⟩
          rw [hla] at e7
          exact q Dl vs G' H' (none_of n1.h hD) (n1.trans ⟨e1, e2, e3, e4⟩) e5 e6 e7
/-- [te for x in list], te a list made anew -/
theorem em_lc {K : PySem.W.Frag} {sl : List Sl} {te tl : TE} {i : Nat} {ds es : List Dt} (hes : es.length = ds.length) (h : Ev K tl sl (.lst ds)) (hn : ds.length ≤ 90000) (he : ∀ (k : Nat) (d e : Dt), ds[k]? = some d → es[k]? = some e → En K te ((sl.set i .no).set i (.d d)) e) : Em K (tLc (iList K tl) (gName i) tYes te [i]) sl (.lst es) := fun G H σ k fr Q q =>
  h G H σ k fr _ fun v G1 H1 n1 r1 => by
    cases r1 with
    | lst hs rs =>
      rename_i a xs
      have hlen := rs.length
      refine ⟨a, rfl, ⟨_, Evl.ex_l n1.k hs⟩, fun Dl hD => ?_⟩
      have gD : G1 Dl = none := free_of n1.k hD
      refine lc_list (K := K) (a := a) (xs := xs) (fun j H' => ∃ G' vs, Ex G1 G' ∧ Ex H1 H' ∧ Ex G' H' ∧ (∀ c, G1 c = none → H1 c ≠ none → G' c = none) ∧ G' Dl = none ∧ H' Dl = some (.lst vs) ∧ Rps K G' vs (es.take j) ∧ ∀ u ∈ vs, ∃ r us, u = V.ref r ∧ r ≠ Dl ∧ H1 r = none ∧ H' r = some (.lst us) ∧ us.length ≤ 90000)
        ⟨G1, [], Ex.refl _, Ex.new hD, n1.k.trans (Ex.new hD), fun _ z _ => z, gD, upd_same, .nil, fun u m => by cases m⟩ (fun j H' _ ⟨G', vs, e1, e2, _⟩ => Evl.ex_l (n1.k.trans e2) hs) ?_ ?_
      · rintro j x H' hj ⟨G', vs, e1, e2, e3, e4, e5, e6, e7, e8⟩
        have hj2 : j < xs.length := (List.getElem?_eq_some_iff.mp hj).1
        have hd : ds[j]? = some ds[j] := List.getElem?_eq_getElem (by omega)
        obtain ⟨x', hx', rx⟩ := rs.get hd
        rw [hj] at hx'
        cases hx'
        refine ⟨?_, ?_⟩
        · show (((σ.set i none)).set i (some x)).set i none = σ.set i none
          rw [List.set_set, List.set_set]
        · have fr1 : FrD K G' ((σ.set i none).set i (some x)) ((sl.set i .no).set i (.d ds[j])) := frd_set (.d (rx.mono e1)) i (frd_wipe i (FrD.mono (n1.g.trans e1) fr))
          have hd2 : es[j]? = some es[j] := List.getElem?_eq_getElem (by omega)
          refine he j ds[j] es[j] hd hd2 G' H' _ e3 fr1 _ fun u G2 H2 n2 r2 nw => ?_
          have g2D : G2 Dl = none := n2.f Dl e5 (by rw [e6]; intro z; cases z)
          have hl := e7.length
          have H2D := n2.h Dl _ e6
          refine ⟨vs, H2D, Nat.lt_of_lt_of_le (m := 100000) (by rw [hl, List.length_take]; omega) (by decide), G2, vs ++ [u], e1.trans n2.g, Evl.Ex.mut (e2.trans n2.h) hD, Evl.Ex.mut n2.k g2D, fun c c1 c2 => n2.f c (e4 c c1 c2) (ne_none e2 c2), g2D, upd_same, ?_, ?_⟩
          · have et : es.take (j + 1) = es.take j ++ [es[j]] := by
              rw [List.take_add_one, hd2]
              rfl
            rw [et]
            exact (e7.mono n2.g).snoc r2
          · intro y my
            rcases List.mem_append.mp my with my | my
            · obtain ⟨r, us, a1, a2, a3, a4, a5⟩ := e8 y my
              exact ⟨r, us, a1, a2, a3, by rw [upd_ne a2]; exact n2.h r _ a4, a5⟩
            · obtain ⟨r, us, a1, a2, a3, a5⟩ := nw
              have ne : r ≠ Dl := fun z => by
                rw [z, e6] at a2
                cases a2
              exact ⟨r, us, (List.mem_singleton.mp my).trans a1, ne, none_of e2 a2, by rw [upd_ne ne]; exact a3, a5⟩
      · rintro H' ⟨G', vs, e1, e2, e3, e4, e5, e6, e7, e8⟩
        rw [hlen, show ds.length = es.length from hes.symm, List.take_length] at e7
        have z := freeze (none_of n1.h hD) (n1.trans ⟨e1, e2, e3, e4⟩) e5 e6 e7
        refine q _ _ _ z.1 z.2 ⟨Dl, vs, rfl, none_of n1.h hD, e6, e7.length, fun u m => ?_⟩
        obtain ⟨r, us, a1, a2, a3, a4⟩ := e8 u m
        exact ⟨r, us, a1, none_of n1.h a3, a4⟩
/-- what a def promises that hands such a list back -/
def spN (K : PySem.W.Frag) (R : List Dt → Dt → Prop) : L2.Sp := fun vs H Q _ => ∃ (ds : List Dt) (x : Dt) (G : Hp), Ex G H ∧ Rps K G vs ds ∧ R ds x ∧ ∀ v G2 H2, Nx G H G2 H2 → Rp K G2 v x → New2 (dlen x) H H2 v → Q v H2
def Rm (K : PySem.W.Frag) (t : TS) (sl : List Sl) (x : Dt) : Prop := ∀ (G H : Hp) (σ : L2.St), Ex G H → FrD K G σ sl → ∀ D : Ends, (∀ v G2 H2, Nx G H G2 H2 → Rp K G2 v x → New2 (dlen x) H H2 v → D.rt v H2) → t D σ H
theorem em_call {K : PySem.W.Frag} {sl : List Sl} {tr : TA} {xs : List Dt} {x : Dt} {R : List Dt → Dt → Prop} {E : XK} (h : EvA K tr sl xs) (hr : R xs x) : Em K (tCall (spN K R) [] E tr) sl x := fun G H σ k f Q q =>
  h G H σ k f _ fun vs G1 H1 n1 r1 => ⟨xs, x, G1, n1.k, rps_nil r1, hr, fun v G2 H2 n2 r2 nw => q v G2 H2 (n1.trans n2) r2 (nw.back n1.h)⟩
theorem rm_ret {K : PySem.W.Frag} {sl : List Sl} {te : TE} {x : Dt} (h : Em K te sl x) : Rm K (tRet te) sl x := fun G H σ k f D q => h G H σ k f _ q
theorem rm_nt {K : PySem.W.Frag} {sl sl1 : List Sl} {t v : TS} {x : Dt} (h : Nt K t sl sl1) (g : Rm K v sl1 x) : Rm K (tSeq t v) sl x := fun G H σ k f D q => h G H σ k f _ fun σ1 G1 H1 n1 f1 => g G1 H1 σ1 n1.k f1 D fun u G2 H2 n2 r nw => q u G2 H2 (n1.trans n2) r (nw.back n1.h)
section
variable {P : Program} {w : World} {K : PySem.W.Frag} {mg : Str → Option Value} {base : Heap} {x : Str} {st : Stmt} {N ps : List Str} {k : Nat}
theorem Dd.raisesN {R : List Dt → Dt → Prop} {t : XK → TS} (D : Dd K mg x st ps) (S : FnScope N ps (defScope st)) (hl : ∀ ds d, R ds d → ds.length = ps.length)
    (h1 : ∀ (f : Addr) (cdv : Value) (A : Around) (outer : List Env) (s : Shared) (H : Hp) (E : XK), Room k (A.deeper (envOfC x (defScope st) s.heap.objs.size f cdv)) → PSs (cxOf (L2.CX P w) P w K mg base N x (defScope st) f cdv A outer s H E) (defBody st) (t E))
    (h2 : ∀ ds d, R ds d → ∀ E, Rm K (t E) (ds.map Sl.d ++ List.replicate (N.length - ps.length) .no) d) : Has P w K mg base (L2.CX P w) (k + 1) x ps (spN K R) := by
  obtain ⟨f, fd, F, hm, b⟩ := D.ex
  refine ⟨f, fd, F.okX S (fun vs H Q E h => ?_) (fun cdv A outer s H vs Q E hr h => ⟨t E, h1 f cdv A outer s H E hr, ?_⟩), hm, F.kp, b⟩
  · obtain ⟨ds, d, G, _, r, hR, _⟩ := h
    rw [r.length]
    exact hl ds d hR
  · obtain ⟨ds, d, G, kG, r, hR, q⟩ := h
    exact h2 ds d hR E G H _ kG (start_ok r (hl ds d hR)) _ q
end
end Z
namespace Z
open PySem PySem.Spec PyProof.Rows L2 RZ
open Evl (Ex)
/-! ### lists that grow by draws -/
theorem Ls.np {K : PySem.W.Frag} {p : Addr} {ps : List Addr} {ds : List Dt} {G H G2 H2 : Hp} (m : Ls K p ds G H) (n : NxP ps G H G2 H2) (hp : p ∉ ps) : Ls K p ds G2 H2 := by
  obtain ⟨g, vs, h, r⟩ := m
  exact ⟨n.f p g (by rw [h]; intro z; cases z), vs, n.h p _ hp h, r.mono n.g⟩
/-! ### a hap, in or not in a list of haps -/
def hapP (p : Rat × Rat) : PyData := .tuple [.tuple [.int p.1.num, .int (p.1.den : Int)], .tuple [.int p.2.num, .int (p.2.den : Int)]]
theorem pys_haps : ∀ ts : List (Rat × Rat), pys (ts.map fun p => hapD p.1 p.2) = some (ts.map hapP)
  | [] => rfl
  | p :: ts => by
    rw [List.map_cons, pys, pys_haps ts]
    rfl
end Z
namespace Z
open PySem PySem.Spec PyProof.Rows L2 RZ
open Evl (Ex)
/-! ### a new list of new lists is looked at, and its first one is written to -/
/-! ### lists of numbers -/
theorem ev_ef {K : PySem.W.Frag} {te : TE} {sl : List Sl} {es : List Dt} (h : Ef K te sl es) : Ev K te sl (.lst es) := fun G H σ k f Q q => h G H σ k f _ fun p ws G2 H2 hp n g h2 r =>
  have z := freeze hp n g h2 r
  q _ _ _ z.1 z.2
theorem ef_call {K : PySem.W.Frag} {sl : List Sl} {ta : TA} {xs es : List Dt} {E : XK} {R : List Dt → List Dt → Prop} {XF : List Dt → Value → Prop} (h : EvA K ta sl xs) (hr : R xs es) : Ef K (tCall (spXL K R XF) [] E ta) sl es := fun G H σ k f Q q =>
  h G H σ k f _ fun us G1 H1 n1 r1 => ⟨xs, G1, n1.k, rps_nil r1, .inl ⟨es, hr, fun p ws G2 H2 hp n2 g2 h2 r2 => q p ws G2 H2 (none_of n1.h hp) (n1.trans n2) g2 h2 r2⟩⟩
theorem ev_callF {K : PySem.W.Frag} {sl : List Sl} {ta : TA} {xs es : List Dt} {E : XK} {R : List Dt → List Dt → Prop} {XF : List Dt → Value → Prop} (h : EvA K ta sl xs) (hr : R xs es) : Ev K (tCall (spXL K R XF) [] E ta) sl (.lst es) := ev_ef (ef_call h hr)
end Z
namespace Z
open PySem PySem.Spec PyProof.Rows L2 RZ
open Evl (Ex)
/-! ### several lists that a def makes and changes: os; all else is frozen -/
abbrev Os := List (Addr × List Dt)
def Ow (K : PySem.W.Frag) (os : Os) (G H : Hp) : Prop := ∀ x ∈ os, Ls K x.1 x.2 G H
def Dj (ps : List Addr) (os : Os) : Prop := (os.map Prod.fst).Nodup ∧ ∀ x ∈ os, x.1 ∉ ps
structure St0 (K : PySem.W.Frag) (ps : List Addr) (sl : List Sl) (os : Os) (G H : Hp) (σ : L2.St) : Prop where
  k : Ex G H
  f : FrD K G σ sl
  m : Pots ps G H
  o : Ow K os G H
  d : Dj ps os
structure Stp (ps : List Addr) (os : Os) (G H : Hp) (os2 : Os) (G2 H2 : Hp) : Prop where
  g : Ex G G2
  h : ∀ a o, a ∉ ps → (∀ x ∈ os, x.1 ≠ a) → H a = some o → H2 a = some o
  t : ∀ a, H a ≠ none → H2 a ≠ none
  f : ∀ a, a ∉ ps → (∀ x ∈ os, x.1 ≠ a) → G a = none → H a ≠ none → G2 a = none
  n : ∀ x ∈ os2, (∃ y ∈ os, y.1 = x.1) ∨ H x.1 = none
theorem some_ne {α : Type} {o : Option α} {x : α} (h : o = some x) : o ≠ none := by
  rw [h]
  intro z
  cases z
theorem Stp.trans {ps : List Addr} {os os1 os2 : Os} {G H G1 H1 G2 H2 : Hp} (a : Stp ps os G H os1 G1 H1) (b : Stp ps os1 G1 H1 os2 G2 H2) : Stp ps os G H os2 G2 H2 := by
  have ne : ∀ c, (∀ x ∈ os, x.1 ≠ c) → H c ≠ none → ∀ x ∈ os1, x.1 ≠ c := fun c hc hh x hx e => by
    rcases a.n x hx with ⟨y, hy, ey⟩ | hn
    · exact hc y hy (ey.trans e)
    · exact hh (e ▸ hn)
  refine ⟨a.g.trans b.g, fun c o h1 h2 e => b.h c o h1 (ne c h2 (some_ne e)) (a.h c o h1 h2 e), fun c h => b.t c (a.t c h), fun c h1 h2 h3 h4 => b.f c h1 (ne c h2 h4) (a.f c h1 h2 h3 h4) (a.t c h4), fun x hx => ?_⟩
  rcases b.n x hx with ⟨y, hy, ey⟩ | hn
  · rw [← ey]
    exact a.n y hy
  · refine .inr ?_
    cases z : H x.1 with
    | none => rfl
    | some o => exact absurd hn (a.t _ (some_ne z))
theorem Stp.refl {ps : List Addr} {os : Os} {G H : Hp} : Stp ps os G H os G H := ⟨Ex.refl _, fun _ _ _ _ e => e, fun _ h => h, fun _ _ _ h _ => h, fun x hx => .inl ⟨x, hx, rfl⟩⟩
theorem Nx.stp {ps : List Addr} {os : Os} {G H G2 H2 : Hp} (n : Nx G H G2 H2) : Stp ps os G H os G2 H2 := ⟨n.g, fun a o _ _ e => n.h a o e, fun _ h => ne_none n.h h, fun a _ _ h1 h2 => n.f a h1 h2, fun x hx => .inl ⟨x, hx, rfl⟩⟩
theorem NxP.stp {ps : List Addr} {os : Os} {G H G2 H2 : Hp} (n : NxP ps G H G2 H2) : Stp ps os G H os G2 H2 := ⟨n.g, fun a o h _ e => n.h a o h e, n.t, fun a _ _ h1 h2 => n.f a h1 h2, fun x hx => .inl ⟨x, hx, rfl⟩⟩
theorem Ow.nx {K : PySem.W.Frag} {os : Os} {G H G2 H2 : Hp} (m : Ow K os G H) (n : Nx G H G2 H2) : Ow K os G2 H2 := fun x hx => (m x hx).nx n
theorem Ow.np {K : PySem.W.Frag} {ps : List Addr} {os : Os} {G H G2 H2 : Hp} (m : Ow K os G H) (n : NxP ps G H G2 H2) (d : Dj ps os) : Ow K os G2 H2 := fun x hx => (m x hx).np n (d.2 x hx)
def Jn (K : PySem.W.Frag) (t : TS) (sl : List Sl) (ps : List Addr) (os : Os) (N : List Sl → Os → Prop) : Prop := ∀ (G H : Hp) (σ : L2.St), St0 K ps sl os G H σ → ∀ D : Ends, (∀ σ2 sl2 os2 G2 H2, N sl2 os2 → Stp ps os G H os2 G2 H2 → St0 K ps sl2 os2 G2 H2 σ2 → D.nx σ2 H2) → t D σ H
/-! what the slots show while nothing is changed -/
def view : List (Nat × Addr × List Dt) → List Sl → List Sl
  | [], sl => sl
  | (i, _, ds) :: r, sl => view r (sl.set i (.d (.lst ds)))
section
variable {K : PySem.W.Frag} {sl sl1 : List Sl} {s t u : TS} {ps : List Addr} {os : Os} {p : Addr} {ds es xs : List Dt} {d x : Dt} {N N1 : List Sl → Os → Prop} {M : List Sl → Prop} {R : Dt → Prop} {ta : TA} {te tl : TE} {tc : TT} {i j k : Nat} {vs : List (Nat × Addr × List Dt)} {G H : Hp} {σ : L2.St}
def isTu : HO → Bool
  | .tup _ => true
  | .frz _ (.tup _) => true
  | _ => false
def tups (G2 G : Hp) : Hp := fun a => match G2 a with
  | some o => if isTu o then some o else G a
  | none => G a
/-! the rules -/
theorem jn_imp (h : Jn K s sl ps os N1) (k : ∀ s1 o1, N1 s1 o1 → N s1 o1) : Jn K s sl ps os N := fun G H σ a D q =>
  h G H σ a D fun σ1 s1 o1 G1 H1 h1 => q σ1 s1 o1 G1 H1 (k _ _ h1)
theorem St0.nx (a : St0 K ps sl os G H σ) {G1 H1 : Hp} {σ1 : L2.St} (n : Nx G H G1 H1) (f : FrD K G1 σ1 sl1) : St0 K ps sl1 os G1 H1 σ1 := ⟨n.k, f, a.m.nx n, a.o.nx n, a.d⟩
theorem jn_end (h : Nt K s sl sl1) (k : N sl1 os) : Jn K s sl ps os N := fun G H σ a D q =>
  h G H σ a.k a.f _ fun σ1 G1 H1 n1 f1 => q σ1 sl1 os G1 H1 k n1.stp (a.nx n1 f1)
/-! a list is written to -/
variable {rm : V → List V → Hp → VK → Prop} {as ds' : List Dt}
theorem Rps.set {K : PySem.W.Frag} {G : Hp} {v : V} {d : Dt} (h : Rp K G v d) : ∀ {ws : List V} {es : List Dt} (m : Nat), Rps K G ws es → Rps K G (ws.set m v) (es.set m d)
  | _, _, 0, .cons _ r => .cons h r
  | _, _, m + 1, .cons a r => .cons a (Rps.set h m r)
  | _, _, 0, .nil => .nil
  | _, _, m + 1, .nil => .nil
/-! loops -/
/-- a list that is there, and no own one: it stays -/
theorem stay {a : Addr} {xs : List V} {G1 H1 G2 H2 : Hp} {os1 os2 : Os} (hs : SqL K G1 a xs) (g : Ex G1 G2) (k : Ex G2 H2) : SqL K H2 a xs := Evl.ex_l k (Evl.ex_l g hs)
/-- for x in a list of data -/
theorem jn_forL (I : Nat → List Sl → Os → Prop) (h : Ev K tl sl (.lst ds)) (h0 : I 0 sl os) (hs : ∀ (k : Nat) d s o, ds[k]? = some d → I k s o → Jn K t (s.set j (.d d)) ps o (I (k + 1))) : Jn K (tFor (iList K tl) (gName j) t) sl ps os (I ds.length) := fun G H σ a D q => h G H σ a.k a.f _ fun v G1 H1 n1 r1 => by
  cases r1 with
  | lst hl rs =>
    rename_i b ws
    have hlen := rs.length
    refine ⟨b, rfl, ⟨_, Evl.ex_l n1.k hl⟩, for_list (K := K) (a := b) (xs := ws) (fun i σ' H' => ∃ G' s' o', I i s' o' ∧ Ex G1 G' ∧ Stp ps os G H o' G' H' ∧ St0 K ps s' o' G' H' σ') ⟨G1, sl, os, h0, Ex.refl _, n1.stp, a.nx n1 (FrD.mono n1.g a.f)⟩ (fun i σ' H' _ ⟨G', s', o', _, e, _, a'⟩ => Evl.ex_l a'.k (Evl.ex_l e hl)) ?_ ?_⟩
    · rintro i x σ2 H2 hi ⟨G2, s2, o2, i2, e2, n2, a2⟩
      have hi2 : i < ws.length := (List.getElem?_eq_some_iff.mp hi).1
      have hd : ds[i]? = some ds[i] := List.getElem?_eq_getElem (by omega)
      obtain ⟨v, hv, rv⟩ := rs.get hd
      rw [hi] at hv
      cases hv
      exact hs i _ s2 o2 hd i2 G2 H2 _ ⟨a2.k, frd_set (.d (rv.mono e2)) j a2.f, a2.m, a2.o, a2.d⟩ _ fun σ3 s3 o3 G3 H3 i3 n3 a3 => ⟨G3, s3, o3, i3, e2.trans n3.g, n2.trans n3, a3⟩
    · rintro σ2 H2 ⟨G2, s2, o2, i2, _, n2, a2⟩
      rw [hlen] at i2
      exact q σ2 s2 o2 G2 H2 i2 n2 a2
/-! out of it -/
end
end Z
namespace Z
open PySem PySem.Spec PyProof.Rows L2 RZ
open Evl (Ex)
/-! ### lists of ints -/
/-! ### how many steps: the height of a hap -/
def rch (ts : List (Rat × Rat)) (i j : Nat) : Bool := wordS ((ts.getD j (0, 0)).1 - (ts.getD i (0, 0)).1) ((ts.getD j (0, 0)).2 - (ts.getD i (0, 0)).2) == "later"
def preds (ts : List (Rat × Rat)) (j : Nat) : List Nat := (List.range ts.length).filter fun i => rch ts i j
def mx (l : List Nat) : Nat := l.foldr max 0
def hS (ts : List (Rat × Rat)) : Nat → Nat → Nat
  | 0, _ => 0
  | k + 1, j => 1 + mx ((preds ts j).map (hS ts k))
end Z
namespace Z
open PySem PySem.Spec PyProof.Rows L2 RZ
open Evl (Ex)
section
variable {P : Program} {w : World} {A : Around} {E : Value → Shared → Prop} {s : Shared}
/-- set(xs): a new set of the ints of a list -/
theorem make_i {l : Addr} {items : Array Value} (ns : List Int) {Q : Value → Shared → Prop} (hh : A.handled = none) (hl : s.heap.IsList l items) (hit : IntsAre items.toList ns) (hfew : ns.length + 1 < scanBound)
    (q : ∀ (h' : Heap) (tk c : Nat), SetR w h' s.heap.objs.size (fun j => decide (j ∈ ns)) c → c ≤ ns.length → (∀ b o, s.heap.get? b = some o → h'.get? b = some o) → Q (.ref s.heap.objs.size) { s with heap := h', toks := tk }) :
    wpAny (model P w) A (call (.type "set") [.ref l]) Q E s := by
  have many : items.size = ns.length := by
    have z := IntsAre.length hit
    rwa [Array.length_toList] at z
  obtain ⟨c, tl, hmro⟩ := F.called_set.mro
  have hmade := F.called_set.made
  have hsub := F.called_set.sub
  refine wpAny_call (codeAny_of_tree ?_)
  show wpAny _ _ (callAny (Value.type "set") _) _ _ _
  refine wpAny_pure ⟨Code.quiet_builtin _ (by decide +kernel), codeAny_builtin F.entry_type_call ?_⟩
  rw [Around.under_plain (weight_type_call_type "set" [Value.ref l] []) rfl]
  have h1 := F.called_set.notType
  have h2 := F.called_set.canCreate
  have hct := F.typeCall_set_1 (Value.ref l)
  repeat any_goals first | assumption | wp_step
  refine codeAny_mono (code_set_led1 (.ref l) (E := E) (Q₁ := fun v z => v = .ref s.heap.objs.size ∧ z = { s with heap := s.heap.push ({ cls := .type "set", dict := none, data := .set #[] 0 (SetTable.fresh 0 0 (!(World.params w).followText "set-order")) } : Obj) }) ⟨rfl, rfl⟩) fun r z hr => ?_
  cases r with
  | error e => exact hr
  | ok fl =>
    cases fl with
    | ret v =>
      obtain ⟨rfl, rfl⟩ := hr
      have at0 : (s.heap.push ({ cls := .type "set", dict := none, data := .set #[] 0 (SetTable.fresh 0 0 (!(World.params w).followText "set-order")) } : Obj)).get? s.heap.objs.size = some ({ cls := .type "set", dict := none, data := .set #[] 0 (SetTable.fresh 0 0 (!(World.params w).followText "set-order")) } : Obj) := Heap.get?_push_size _ rfl
      have hT : Shared.TypeIs { s with heap := s.heap.push ({ cls := .type "set", dict := none, data := .set #[] 0 (SetTable.fresh 0 0 (!(World.params w).followText "set-order")) } : Obj) } (.ref s.heap.objs.size) "set" := ⟨_, at0, rfl⟩
      have hli := F.called_set.init.lookup
      have hbi := F.called_set.init.bind (Value.ref s.heap.objs.size)
      repeat any_goals first | assumption | wp_step
      refine codeAny_mono (codeAny_call_builtin (R := wants (fun r z => r = .none ∧ ∃ h' tk c, z = { s with heap := h', toks := tk } ∧ SetR w h' s.heap.objs.size (fun j => decide (j ∈ ns)) c ∧ c ≤ ns.length ∧ ∀ b o, s.heap.get? b = some o → h'.get? b = some o) E)
        F.called_set.init.plain F.entry_set_init (check_set_init_1 hT ?_)) fun r z hr => ?_
      · obtain ⟨ol, hol, hcl, nl, hdl⟩ := hl
        obtain ⟨oc, od, oda, osl⟩ := ol
        dsimp only at hcl hdl
        subst hcl hdl
        have hlS : l < s.heap.objs.size := Heap.lt_size hol
        have at1 := Heap.get?_push_of_some ({ cls := .type "set", dict := none, data := .set #[] 0 (SetTable.fresh 0 0 (!(World.params w).followText "set-order")) } : Obj) hol
        have hl1 : (s.heap.push ({ cls := .type "set", dict := none, data := .set #[] 0 (SetTable.fresh 0 0 (!(World.params w).followText "set-order")) } : Obj)).IsList l items := ⟨_, at1, rfl, nl, rfl⟩
        have hsls := F.sub_list_set
        have hslf := F.sub_list_frozenset
        have hne : (Value.type "list" == Value.type "dict") = false := by decide
        unfold Builtin.«set.__init__» noKeywords Builtin.Frozenset.updateFrom
        generalize hPI : pyIter = PI
        wp_walk
        subst hPI
        refine wpAny_pyIter_list hl1 (wpAny_bind (wpAny_runValue ?_))
        have zz : (s.heap.push ({ cls := .type "set", dict := none, data := .set #[] 0 (SetTable.fresh 0 0 (!(World.params w).followText "set-order")) } : Obj)).objs.size = s.heap.objs.size + 1 := Heap.size_push ..
        have hne2 : s.heap.objs.size ∉ [(s.heap.push ({ cls := .type "set", dict := none, data := .set #[] 0 (SetTable.fresh 0 0 (!(World.params w).followText "set-order")) } : Obj)).objs.size, l] := by
          rw [zz]
          simp only [List.mem_cons, List.not_mem_nil, or_false, not_or]
          exact ⟨Nat.ne_of_lt (Nat.lt_succ_self _), (Nat.ne_of_lt hlS).symm⟩
        refine set_update_ints ((Walks.list (A := A.in1.in1.in1) (by simp [hh]) _ l (by rw [zz]; exact Nat.ne_of_lt (Nat.lt_succ_of_lt hlS)) items).toS) s.heap.objs.size hne2 ns many hfew (fun i v hv => ?_) (items.size - 0) 0 _ (by omega) (Nat.zero_le _)
          ⟨⟨_, Heap.get?_push_size _ rfl, rfl, rfl⟩, hl1.push _⟩ ⟨0, Nat.le_refl 0, setR_new_at (Heap.get?_push_of_some _ at0)⟩ ?_
        · have hi : i < ns.length := by rw [← many]; exact (Array.getElem?_eq_some_iff.mp hv).1
          obtain ⟨t, e⟩ := IntsAre.int_at hit i v (by rw [Array.getElem?_toList]; exact hv)
          refine ⟨ns[i], t, List.getElem?_eq_getElem hi, ?_⟩
          rw [e, List.getD_eq_getElem?_getD, List.getElem?_eq_getElem hi]
          rfl
        · intro z c' mv hc hR
          obtain ⟨h', g2, d2, tk', o2⟩ := z
          obtain rfl : g2 = s.gens := mv.gens
          obtain rfl : d2 = s.drawn := mv.drawn
          obtain rfl : o2 = s.os := mv.os
          rw [many] at hc
          show wpAny _ _ _ _ _ _
          refine wpAny_pure ?_
          show wpAny _ _ (ret Value.none) _ _ _
          refine wpAny_pure ⟨rfl, h', tk', c', rfl, hR, hc, fun b o e => ?_⟩
          have hb0 : b < s.heap.objs.size := Heap.lt_size e
          exact mv.heap b o (by
            rw [zz]
            simp only [List.mem_cons, List.not_mem_nil, or_false, not_or]
            exact ⟨Nat.ne_of_lt hb0, Nat.ne_of_lt (Nat.lt_succ_of_lt hb0)⟩) (Heap.get?_push_of_some _ (Heap.get?_push_of_some _ e))
      · cases r with
        | error e => exact hr
        | ok f =>
          cases f with
          | ret v =>
            obtain ⟨rfl, h', tk, c, rfl, hR, hc, g⟩ := hr
            repeat any_goals first | assumption | wp_step
            exact q _ _ _ hR hc g
          | _ => exact hr.elim
    | _ => exact hr.elim
end
end Z
namespace Z
open PySem PySem.Spec PyProof.Rows L2 RZ
open Evl (Ex)
/-! ### sorted(set([..])), math.lcm -/
def rSetI (K : PySem.W.Frag) (w : World) : List V → Hp → VK → Prop := fun xs H Q => ∃ (l : Addr) (ns : List Int), xs = [V.ref l] ∧ SqL K H l (ns.map V.int) ∧ ns.length + 1 < scanBound ∧
  ∀ (p : Addr) (c : Nat), H p = none → c ≤ ns.length → Q (.ref p) (upd H p (SetO w p (fun j => decide (j ∈ ns)) c))
theorem setIK {X : Cx} {K : PySem.W.Frag} {w : World} (eK : X.K = K) (ew : X.w = w) (hc : X.calm = true) : CallR X (.type "set") (rSetI K w) := by
  subst eK ew
  intro pins s σ H xs us Q I r h
  obtain ⟨l, ns, rfl, hs, hf, q⟩ := h
  obtain ⟨its, rv, hl, _⟩ := I.list hs
  rw [Vals.ref1 r]
  exact make_i ns (I.ok.hd hc) hl.isList rv.ints hf fun h' tk c hR hc' g => ⟨.ref _, upd H s.heap.objs.size (SetO X.w s.heap.objs.size (fun j => decide (j ∈ ns)) c), I.laid (t' := tk) g (Nat.le_refl _) (setO_new hR), rfl, q _ _ (I.hok.fresh (Nat.le_refl _)) hc'⟩
theorem srtK {X : Cx} {w : World} (ew : X.w = w) (hc : X.calm = true) : CallR X (.builtin "sorted") (rSortedSet w) := ew ▸ cr_sortedSet hc
/-- what math.lcm tells of two numbers above nought -/
def rLcm : List V → Hp → VK → Prop := fun xs H Q => ∃ a b : Nat, xs = [.int (a : Int), .int (b : Int)] ∧ a < 2 ^ 8800 ∧ b < 2 ^ 8800 ∧ a.lcm b < 2 ^ 8800 ∧ Q (.int ((a.lcm b : Nat) : Int)) H
theorem cr_lcm {X : Cx} : CallR X (.builtin "math.lcm") rLcm := by
  intro pins s σ H vs us Q I r h
  obtain ⟨a, b, rfl, ha, hb, hz, q⟩ := h
  obtain ⟨t, u, rfl⟩ := Vals.int2 r
  have lg : ∀ {n : Nat}, n < 2 ^ 8800 → n.log2 < 8800 := fun {n} h => PySem.Flt.log2_lt_of (by decide) h
  have e : ((Nat.lcm 1 (a : Int).natAbs).lcm (b : Int).natAbs : Nat) = a.lcm b := by
    have : Nat.lcm 1 a = a := by simp [Nat.lcm]
    show (Nat.lcm 1 a).lcm b = _
    rw [this]
  have h1 : (max 1 (a : Int).natAbs).log2 < 8800 := lg (by
    show max 1 a < _
    have : 1 < 2 ^ 8800 := Nat.one_lt_two_pow (by decide)
    omega)
  have h2 : (max (a : Int).natAbs (b : Int).natAbs).log2 < 8800 := lg (by show max a b < _; omega)
  refine call_function_meets PySem.W.MGF.kind_lcm PySem.W.MGF.plain_lcm PySem.W.MGF.entry_lcm (PySem.W.MGF.args_lcm _ _) (PySem.W.mg_run_lcm _ t _ u (by omega) (by omega) ?_).meets ?_
  · rw [e]
    exact Nat.lt_of_lt_of_le (lg hz) (by decide)
  · rw [e]
    exact ⟨.int _, H, I.tok _, ⟨_, rfl⟩, q⟩
theorem rc_lcm {K : PySem.W.Frag} {a b : Nat} (ha : a < 2 ^ 8800) (hb : b < 2 ^ 8800) (h : a.lcm b < 2 ^ 8800) : RcD K rLcm [.int (a : Nat), .int (b : Nat)] (.int ((a.lcm b : Nat) : Int)) := fun G H k vs r Q q => by
  cases r with
  | cons r1 r2 =>
    cases r2 with
    | cons r2 r3 =>
      cases r3
      cases r1
      cases r2
      exact ⟨a, b, rfl, ha, hb, h, q _ G H (.refl k) (.int _)⟩
/-! ### lists that rise -/
section
variable {α : Type} [DecidableEq α] (lt : α → α → Prop) [DecidableRel lt]
def insR (a : α) : List α → List α
  | [] => [a]
  | b :: l => if lt a b then a :: b :: l else if a = b then b :: l else b :: insR a l
def srtR (l : List α) : List α := l.foldr (insR lt) []
variable {lt}
theorem mem_insR {a x : α} : ∀ {l : List α}, x ∈ insR lt a l ↔ x = a ∨ x ∈ l
  | [] => by simp [insR]
  | b :: l => by
    unfold insR
    split
    · simp
    · split
      · rename_i h
        subst h
        simp
      · rw [List.mem_cons, mem_insR, List.mem_cons]
        constructor
        · rintro (h | h | h) <;> simp [h]
        · rintro (h | h | h) <;> simp [h]
theorem mem_srtR {x : α} : ∀ {l : List α}, x ∈ srtR lt l ↔ x ∈ l
  | [] => by simp [srtR]
  | a :: l => by
    show x ∈ insR lt a (srtR lt l) ↔ _
    rw [mem_insR, mem_srtR, List.mem_cons]
theorem srt_insR (tri : ∀ a b, lt a b ∨ a = b ∨ lt b a) (tr : ∀ {a b c}, lt a b → lt b c → lt a c) {a : α} : ∀ {l : List α}, l.Pairwise lt → (insR lt a l).Pairwise lt
  | [], _ => by simp [insR]
  | b :: l, h => by
    obtain ⟨h1, h2⟩ := List.pairwise_cons.mp h
    unfold insR
    split
    · rename_i g
      refine List.pairwise_cons.mpr ⟨fun x hx => ?_, h⟩
      rcases List.mem_cons.mp hx with rfl | hx
      · exact g
      · exact tr g (h1 x hx)
    · split
      · exact h
      · rename_i g1 g2
        refine List.pairwise_cons.mpr ⟨fun x hx => ?_, srt_insR tri tr h2⟩
        rcases mem_insR.mp hx with rfl | hx
        · rcases tri x b with h | h | h
          · exact absurd h g1
          · exact absurd h g2
          · exact h
        · exact h1 x hx
theorem srt_srtR (tri : ∀ a b, lt a b ∨ a = b ∨ lt b a) (tr : ∀ {a b c}, lt a b → lt b c → lt a c) : ∀ l : List α, (srtR lt l).Pairwise lt
  | [] => .nil
  | a :: l => srt_insR tri tr (srt_srtR tri tr l)
theorem rise_one (irr : ∀ a, ¬ lt a a) (tr : ∀ {a b c}, lt a b → lt b c → lt a c) : ∀ {l m : List α}, l.Pairwise lt → m.Pairwise lt → (∀ x, x ∈ l ↔ x ∈ m) → l = m
  | [], [], _, _, _ => rfl
  | [], b :: m, _, _, h => by
    have := (h b).mpr List.mem_cons_self
    cases this
  | a :: l, [], _, _, h => by
    have := (h a).mp List.mem_cons_self
    cases this
  | a :: l, b :: m, h1, h2, h => by
    obtain ⟨a1, a2⟩ := List.pairwise_cons.mp h1
    obtain ⟨b1, b2⟩ := List.pairwise_cons.mp h2
    have e : a = b := by
      rcases List.mem_cons.mp ((h a).mp List.mem_cons_self) with e | e
      · exact e
      · rcases List.mem_cons.mp ((h b).mpr List.mem_cons_self) with e2 | e2
        · exact e2.symm
        · exact absurd (tr (b1 a e) (a1 b e2)) (irr b)
    subst e
    congr 1
    refine rise_one irr tr a2 b2 fun x => ⟨fun hx => ?_, fun hx => ?_⟩
    · rcases List.mem_cons.mp ((h x).mp (List.mem_cons_of_mem _ hx)) with rfl | e
      · exact absurd (a1 _ hx) (irr _)
      · exact e
    · rcases List.mem_cons.mp ((h x).mpr (List.mem_cons_of_mem _ hx)) with rfl | e
      · exact absurd (b1 _ hx) (irr _)
      · exact e
end
theorem int_tri (a b : Int) : a < b ∨ a = b ∨ b < a := by omega
theorem rat_tri (a b : Rat) : a < b ∨ a = b ∨ b < a := by grind
/-- sorted, each once -/
def srtI (l : List Int) : List Int := srtR (· < ·) l
def rsg (l : List Rat) : List Rat := srtR (· < ·) l
theorem srtI_one {l m : List Int} (h : m.Pairwise (· < ·)) (e : ∀ x, x ∈ m ↔ x ∈ l) : m = srtI l := rise_one (lt := fun a b : Int => a < b) (by omega) (fun h g => Int.lt_trans h g) h (srt_srtR int_tri (fun h g => Int.lt_trans h g) l) fun x => (e x).trans mem_srtR.symm
theorem rsg_one {l m : List Rat} (h : m.Pairwise (· < ·)) (e : ∀ x, x ∈ m ↔ x ∈ l) : m = rsg l := rise_one (lt := fun a b : Rat => a < b) (by grind) (fun h g => by grind) h (srt_srtR rat_tri (fun h g => by grind) l) fun x => (e x).trans mem_srtR.symm
theorem rsg_up (l : List Rat) : (rsg l).Pairwise (· < ·) := srt_srtR rat_tri (fun h g => by grind) l
theorem rsg_mem {l : List Rat} {x : Rat} : x ∈ rsg l ↔ x ∈ l := mem_srtR
theorem srtI_up (l : List Int) : (srtI l).Pairwise (· < ·) := srt_srtR int_tri (fun h g => Int.lt_trans h g) l
theorem srtI_mem {l : List Int} {x : Int} : x ∈ srtI l ↔ x ∈ l := mem_srtR
theorem rps_intsI {K : PySem.W.Frag} {G : Hp} : ∀ {l : List Int} {ws : List V}, Rps K G ws (l.map Dt.int) → ws = l.map V.int
  | [], _, r => by
    cases r
    rfl
  | k :: l, _, r => by
    cases r with
    | cons a b =>
      cases a
      rw [rps_intsI b]
      rfl
theorem ef_srt {K : PySem.W.Frag} {w : World} {sl : List Sl} {te : TE} {ns : List Int} (h : Ev K te sl (.lst (ns.map Dt.int))) (hn : ns.length < 64) : Ef K (tCB (rSortedSet w) (tCons (tCB (rSetI K w) (tCons te tNil)) tNil)) sl ((srtI ns).map Dt.int) := fun G H σ k f Q q =>
  h G H σ k f _ fun v G1 H1 n1 r1 => by
    cases r1 with
    | lst hs rs =>
      rw [rps_intsI rs] at hs
      refine ⟨_, ns, rfl, Evl.ex_l n1.k hs, Nat.lt_of_lt_of_le (by omega : ns.length + 1 < 65) (by decide), fun p c hp hc => ?_⟩
      refine ⟨p, _, c, rfl, upd_same, by omega, fun ms p2 up mem len hp2 => ?_⟩
      have e : ms = srtI ns := srtI_one up fun x => (mem x).trans decide_eq_true_iff
      have p12 : p2 ≠ p := fun z => by
        rw [z, upd_same] at hp2
        cases hp2
      rw [upd_ne p12] at hp2
      have hp0 := none_of n1.h hp2
      have g1 : G1 p2 = none := free_of n1.k hp2
      have g0 : G1 p = none := free_of n1.k hp
      have h0 := none_of n1.h hp
      rw [e]
      refine q p2 _ G1 _ hp0 ⟨n1.g, fun b o eb => ?_, fun b o eb => ?_, n1.f⟩ g1 upd_same (rps_ints _)
      · have nb1 : b ≠ p2 := fun z => by
          rw [z, hp0] at eb
          cases eb
        have nb2 : b ≠ p := fun z => by
          rw [z, h0] at eb
          cases eb
        rw [upd_ne nb1, upd_ne nb2]
        exact n1.h b o eb
      · have nb1 : b ≠ p2 := fun z => by
          rw [z, g1] at eb
          cases eb
        have nb2 : b ≠ p := fun z => by
          rw [z, g0] at eb
          cases eb
        rw [upd_ne nb1, upd_ne nb2]
        exact n1.k b o eb
/-! ### rising: fractions over one bottom -/
def bot (qs : List Rat) : Nat := qs.foldl (fun b q => b.lcm q.den) 1
theorem bot_snoc (qs : List Rat) (q : Rat) : bot (qs ++ [q]) = (bot qs).lcm q.den := by
  unfold bot
  rw [List.foldl_append]
  rfl
theorem bot_take {qs : List Rat} {k : Nat} {q : Rat} (h : qs[k]? = some q) : bot (qs.take (k + 1)) = (bot (qs.take k)).lcm q.den := by
  rw [List.take_add_one, h]
  exact bot_snoc _ _
theorem lcm_le (m n : Nat) : m.lcm n ≤ m * n := by
  unfold Nat.lcm
  exact Nat.div_le_self _ _
theorem bot_le {m : Nat} {qs : List Rat} (h : ∀ q ∈ qs, q.den < 2 ^ m) : ∀ k, bot (qs.take k) ≤ 2 ^ (m * k)
  | 0 => by
    rw [Nat.mul_zero]
    exact Nat.le_refl 1
  | k + 1 => by
    have ih := bot_le h k
    cases hq : qs[k]? with
    | none =>
      have e : qs.take (k + 1) = qs.take k := by rw [List.take_add_one, hq]; simp
      rw [e]
      exact Nat.le_trans ih (Nat.pow_le_pow_right (by decide) (Nat.mul_le_mul_left m (Nat.le_succ k)))
    | some q =>
      rw [bot_take hq, Nat.mul_succ, Nat.pow_add]
      exact Nat.le_trans (lcm_le _ _) (Nat.mul_le_mul ih (Nat.le_of_lt (h q (List.mem_of_getElem? hq))))
theorem bot_pos : ∀ qs : List Rat, 0 < bot qs := by
  intro qs
  unfold bot
  have : ∀ (qs : List Rat) (b : Nat), 0 < b → 0 < qs.foldl (fun b q => b.lcm q.den) b := by
    intro qs
    induction qs with
    | nil => exact fun b h => h
    | cons q qs ih => exact fun b h => ih _ (Nat.lcm_pos h q.den_pos)
  exact this qs 1 (by decide)
theorem bot_dvd {qs : List Rat} {q : Rat} (h : q ∈ qs) : q.den ∣ bot qs := by
  have mono : ∀ (qs : List Rat) (b d : Nat), d ∣ b → d ∣ qs.foldl (fun b q => b.lcm q.den) b := by
    intro qs
    induction qs with
    | nil => exact fun b d h => h
    | cons q qs ih => exact fun b d h => ih _ d (Nat.dvd_trans h (Nat.dvd_lcm_left _ _))
  have go : ∀ (qs : List Rat) (b : Nat), q ∈ qs → q.den ∣ qs.foldl (fun b q => b.lcm q.den) b := by
    intro qs
    induction qs with
    | nil =>
      intro b hb
      cases hb
    | cons r qs ih =>
      intro b hb
      rcases List.mem_cons.mp hb with rfl | hb
      · exact mono qs _ _ (Nat.dvd_lcm_right _ _)
      · exact ih _ hb
  exact go qs 1 h
def topB (B : Nat) (q : Rat) : Int := q.num * ((B / q.den : Nat) : Int)
theorem topB_div {B : Nat} {q : Rat} (h : q.den ∣ B) (h0 : 0 < B) : ((topB B q : Int) : Rat) / ((B : Int) : Rat) = q := by
  obtain ⟨c, rfl⟩ := h
  have c0 : 0 < c := Nat.pos_of_mul_pos_left h0
  have e : q.den * c / q.den = c := Nat.mul_div_cancel_left c q.den_pos
  unfold topB
  rw [e, Rat.intCast_mul, Int.natCast_mul, Rat.intCast_mul]
  have h1 : ((c : Int) : Rat) ≠ 0 := by
    intro z
    have := Rat.intCast_eq_zero_iff.mp z
    omega
  have h2 : ((q.den : Int) : Rat) ≠ 0 := by
    intro z
    have := Rat.intCast_eq_zero_iff.mp z
    have := q.den_pos
    omega
  have h3 : (q.num : Rat) / ((q.den : Int) : Rat) = q := by rw [← Rat.divInt_eq_div, Rat.num_divInt_den]
  grind
theorem rising_is (qs : List Rat) : (srtI (qs.map (topB (bot qs)))).map (fun t : Int => (t : Rat) / (((bot qs : Nat) : Int) : Rat)) = rsg qs := by
  have hb := bot_pos qs
  have hb2 : (0 : Rat) < (((bot qs : Nat) : Int) : Rat) := by
    have := Rat.intCast_lt_intCast.mpr (show (0 : Int) < (bot qs : Int) by omega)
    exact this
  refine rsg_one ?_ fun x => ?_
  · refine List.pairwise_map.mpr ((srtI_up _).imp fun {a b} h => ?_)
    have h2 : (a : Rat) < (b : Rat) := Rat.intCast_lt_intCast.mpr h
    generalize (((bot qs : Nat) : Int) : Rat) = B at *
    have e : (b : Rat) / B * B = b := by grind
    rw [Rat.div_lt_iff hb2, e]
    exact h2
  · constructor
    · intro h
      obtain ⟨t, ht, rfl⟩ := List.mem_map.mp h
      obtain ⟨q, hq, rfl⟩ := List.mem_map.mp (srtI_mem.mp ht)
      rw [topB_div (bot_dvd hq) hb]
      exact hq
    · intro h
      exact List.mem_map.mpr ⟨topB (bot qs) x, srtI_mem.mpr (List.mem_map.mpr ⟨x, h, rfl⟩), topB_div (bot_dvd h) hb⟩
end Z
namespace Z
open PySem PySem.Spec PyProof.Rows L2 RZ
open Evl (Ex)
/-- [te for x, y in list of pairs], made anew -/
theorem ef_lc2 {K : PySem.W.Frag} {sl : List Sl} {te tl : TE} {i j : Nat} {as bs es : List Dt} (hb : bs.length = as.length) (hes : es.length = as.length) (h : Ev K tl sl (.lst (List.zipWith (fun a b => .tup [a, b]) as bs))) (hn : as.length ≤ 90000)
    (he : ∀ (k : Nat) (a b e : Dt), as[k]? = some a → bs[k]? = some b → es[k]? = some e → Ev K te ((((sl.set j .no).set i .no).set i (.d a)).set j (.d b)) e) : Ef K (tLc (iList K tl) (gTup K 2 (gCons (gName i) (gCons (gName j) gNil))) tYes te [i, j]) sl es := fun G H σ k fr Q q =>
  h G H σ k fr _ fun v G1 H1 n1 r1 => by
    cases r1 with
    | lst hs rs =>
      rename_i a xs
      have hlen : xs.length = as.length := by
        have := rs.length
        rw [List.length_zipWith] at this
        omega
      refine ⟨a, rfl, ⟨_, Evl.ex_l n1.k hs⟩, fun Dl hD => ?_⟩
      have gD : G1 Dl = none := free_of n1.k hD
      refine lc_list (K := K) (a := a) (xs := xs) (fun m H' => ∃ G' vs, Ex G1 G' ∧ Ex H1 H' ∧ Ex G' H' ∧ (∀ c, G1 c = none → H1 c ≠ none → G' c = none) ∧ G' Dl = none ∧ H' Dl = some (.lst vs) ∧ Rps K G' vs (es.take m))
        ⟨G1, [], Ex.refl _, Ex.new hD, n1.k.trans (Ex.new hD), fun _ z _ => z, gD, upd_same, .nil⟩ (fun m H' _ ⟨G', vs, e1, e2, _⟩ => Evl.ex_l (n1.k.trans e2) hs) ?_ ?_
      · rintro m x H' hm ⟨G', vs, e1, e2, e3, e4, e5, e6, e7⟩
        have hm2 : m < xs.length := (List.getElem?_eq_some_iff.mp hm).1
        have hda : as[m]? = some as[m] := List.getElem?_eq_getElem (by omega)
        have hdb : bs[m]? = some bs[m] := List.getElem?_eq_getElem (by omega)
        have hde : es[m]? = some es[m] := List.getElem?_eq_getElem (by omega)
        obtain ⟨x', hx', rx⟩ := rs.get (i := m) (d := .tup [as[m], bs[m]]) (by rw [List.getElem?_zipWith, hda, hdb])
        rw [hm] at hx'
        cases hx'
        cases rx with
        | tup ht rt =>
          obtain ⟨u, w, rfl, ra, rb⟩ := rps2 rt
          refine ⟨_, _, rfl, exT (n1.k.trans e2) ht, rfl, u, [w], rfl, w, [], rfl, rfl, wipe2 σ u w, ?_⟩
          have fr0 : FrD K G' ((wipe σ [i, j])) ((sl.set j .no).set i .no) := frd_wipe i (frd_wipe j (FrD.mono (n1.g.trans e1) fr))
          have fr1 := frd_set (s := .d bs[m]) (.d (rb.mono e1)) j (frd_set (s := .d as[m]) (.d (ra.mono e1)) i fr0)
          refine he m _ _ _ hda hdb hde _ _ _ e3 fr1 _ fun u2 G3 H3 n3 r3 => ?_
          have g3D : G3 Dl = none := n3.f Dl e5 (by rw [e6]; intro z; cases z)
          have hl := e7.length
          refine ⟨vs, n3.h Dl _ e6, Nat.lt_of_lt_of_le (m := 100000) (by rw [hl, List.length_take]; omega) (by decide), G3, vs ++ [u2], e1.trans n3.g, Evl.Ex.mut (e2.trans n3.h) hD, Evl.Ex.mut n3.k g3D, fun c c1 c2 => n3.f c (e4 c c1 c2) (ne_none e2 c2), g3D, upd_same, ?_⟩
          have et : es.take (m + 1) = es.take m ++ [es[m]] := by
            rw [List.take_add_one, hde]
            rfl
          rw [et]
          exact (e7.mono n3.g).snoc r3
      · rintro H' ⟨G', vs, e1, e2, e3, e4, e5, e6, e7⟩
        rw [hlen, ← hes, List.take_length] at e7
        exact q Dl vs G' H' (none_of n1.h hD) (n1.trans ⟨e1, e2, e3, e4⟩) e5 e6 e7
theorem haps_zip : ∀ ts : List (Rat × Rat), (ts.map fun p => hapD p.1 p.2) = List.zipWith (fun a b => Dt.tup [a, b]) (ts.map fun p => fq p.1) (ts.map fun p => fq p.2)
  | [] => rfl
  | p :: ts => by
    rw [List.map_cons, haps_zip ts]
    rfl
/-! ### how haps stand by their times from a speed -/
def stQ (ts : List (Rat × Rat)) (v : Rat) : List Rat := ts.map fun p => p.1 - v * p.2
def atQ (ts : List (Rat × Rat)) (v q : Rat) : List Nat := (List.range ts.length).filter fun k => decide ((stQ ts v).getD k 0 = q)
def standD (ts : List (Rat × Rat)) (v : Rat) : Dt := .lst ((rsg (stQ ts v)).map fun q => .lst (numsD (atQ ts v q)))
theorem nt_wkS {K : PySem.W.Frag} {sl sl2 : List Sl} {t : TS} {s1 : List Sl → Prop} (h : Jn K t sl [] [] fun s _ => s1 s) (k : ∀ s, s1 s → Paired Wk s sl2) : Nt K t sl sl2 := fun G H σ e f D q =>
  h G H σ ⟨e, f, Pots.nil, (fun x hx => by cases hx), ⟨List.nodup_nil, fun x hx => by cases hx⟩⟩ D fun σ1 s1 o1 G1 H1 h1 n1 a1 =>
    q σ1 G1 H1 ⟨n1.g, fun a o e => n1.h a o (by simp) (fun x hx => by cases hx) e, a1.k, fun a h1 h2 => n1.f a (by simp) (fun x hx => by cases hx) h1 h2⟩ (frd_wk a1.f (k _ h1))
/-- as many as there were, or fewer -/
theorem insR_len {α : Type} [DecidableEq α] {lt : α → α → Prop} [DecidableRel lt] (a : α) : ∀ l : List α, (insR lt a l).length ≤ l.length + 1
  | [] => Nat.le_refl _
  | b :: l => by
    unfold insR
    split
    · exact Nat.le_refl _
    · split
      · exact Nat.le_succ _
      · exact Nat.succ_le_succ (insR_len a l)
theorem srtR_len {α : Type} [DecidableEq α] {lt : α → α → Prop} [DecidableRel lt] : ∀ l : List α, (srtR lt l).length ≤ l.length
  | [] => Nat.le_refl _
  | a :: l => Nat.le_trans (insR_len a _) (Nat.succ_le_succ (srtR_len l))
theorem srtI_len (l : List Int) : (srtI l).length ≤ l.length := srtR_len l
theorem rsg_len (l : List Rat) : (rsg l).length ≤ l.length := srtR_len l
end Z
namespace Z
open PySem PySem.Spec PyProof.Rows L2 RZ
open Evl (Ex)
/-! ### what is new in a value that is handed back -/
abbrev Wt := PySem.W.Frag → Dt → Hp → Hp → Hp → V → Prop
structure Wok (W : Wt) : Prop where
  back : ∀ {K : PySem.W.Frag} {x : Dt} {H0 H G2 H2 : Hp} {v : V}, Ex H0 H → W K x H G2 H2 v → W K x H0 G2 H2 v
  mono : ∀ {K : PySem.W.Frag} {x : Dt} {H G2 H2 G3 H3 : Hp} {v : V}, Ex G2 G3 → Ex H2 H3 → W K x H G2 H2 v → W K x H G3 H3 v
def W2 : Wt := fun _ x H _ H2 v => New2 (dlen x) H H2 v
theorem w2_ok : Wok W2 := ⟨fun e h => New2.back e h, fun _ e ⟨p, ws, a, b, c, l, d⟩ => ⟨p, ws, a, b, e p _ c, l, fun u m => let ⟨r, us, a, b, c, l⟩ := d u m; ⟨r, us, a, b, e r _ c, l⟩⟩⟩
def EmW (K : PySem.W.Frag) (W : Wt) (te : TE) (sl : List Sl) (x : Dt) : Prop := ∀ (G H : Hp) (σ : L2.St), Ex G H → FrD K G σ sl → ∀ Q : VK, (∀ v G2 H2, Nx G H G2 H2 → Rp K G2 v x → W K x H G2 H2 v → Q v H2) → te σ H Q
def RmW (K : PySem.W.Frag) (W : Wt) (t : TS) (sl : List Sl) (x : Dt) : Prop := ∀ (G H : Hp) (σ : L2.St), Ex G H → FrD K G σ sl → ∀ D : Ends, (∀ v G2 H2, Nx G H G2 H2 → Rp K G2 v x → W K x H G2 H2 v → D.rt v H2) → t D σ H
/-- a def that hands back something new, or something, or raises -/
def spT (K : PySem.W.Frag) (W : Wt) (R B : List Dt → Dt → Prop) (X : List Dt → Value → Prop) : L2.Sp := fun vs H Q E => ∃ (ds : List Dt) (G : Hp), Ex G H ∧ Rps K G vs ds ∧
  ((∃ x, R ds x ∧ ∀ v G2 H2, Nx G H G2 H2 → Rp K G2 v x → W K x H G2 H2 v → Q v H2) ∨ (∃ x, B ds x ∧ ∀ v G2 H2, Nx G H G2 H2 → Rp K G2 v x → Q v H2) ∨ (∃ cls, X ds cls ∧ ∀ G2 H2, Nx G H G2 H2 → E cls none H2))
section
variable {K : PySem.W.Frag} {W : Wt} {sl : List Sl} {tr : TA} {xs es : List Dt} {x : Dt} {c : Value} {R B : List Dt → Dt → Prop} {X : List Dt → Value → Prop} {te : TE} {t v : TS}
theorem EmW.ev (h : EmW K W te sl x) : Ev K te sl x := fun G H σ k f Q q => h G H σ k f Q fun v G2 H2 n r _ => q v G2 H2 n r
theorem rmw_ret (h : EmW K W te sl x) : RmW K W (tRet te) sl x := fun G H σ k f D q => h G H σ k f _ q
theorem rmw_nt (w : Wok W) {sl1 : List Sl} (h : Nt K t sl sl1) (g : RmW K W v sl1 x) : RmW K W (tSeq t v) sl x := fun G H σ k f D q => h G H σ k f _ fun σ1 G1 H1 n1 f1 => g G1 H1 σ1 n1.k f1 D fun u G2 H2 n2 r nw => q u G2 H2 (n1.trans n2) r (w.back n1.h nw)
theorem rmw_drop (w : Wok W) {ta : TA} {d : Dt} {RF : List Dt → Dt → Prop} {XF : List Dt → Value → Prop} {E : XK} (h : EvA K ta sl xs) (hr : RF xs d) (g : RmW K W v sl x) : RmW K W (tSeq (tDrop (tCall (spX K RF XF) [] E ta)) v) sl x := rmw_nt w (nt_drop (ev_callX h hr)) g
end
section
variable {P : Program} {w : World} {K : PySem.W.Frag} {mg : Str → Option Value} {base : Heap} {x : Str} {st : Stmt} {N ps : List Str} {k : Nat} {W : Wt}
theorem Dd.raisesT {R : List Dt → Dt → Prop} {X : List Dt → Value → Prop} {t : XK → TS} (D : Dd K mg x st ps) (S : FnScope N ps (defScope st)) (hl : ∀ ds d, R ds d → ds.length = ps.length) (hl2 : ∀ ds c, X ds c → ds.length = ps.length)
    (h1 : ∀ (f : Addr) (cdv : Value) (A : Around) (outer : List Env) (s : Shared) (H : Hp) (E : XK), Room k (A.deeper (envOfC x (defScope st) s.heap.objs.size f cdv)) → PSs (cxOf (L2.CX P w) P w K mg base N x (defScope st) f cdv A outer s H E) (defBody st) (t E))
    (h2 : ∀ ds d, R ds d → ∀ E, RmW K W (t E) (ds.map Sl.d ++ List.replicate (N.length - ps.length) .no) d) (h3 : ∀ ds c, X ds c → Rx K t (ds.map Sl.d ++ List.replicate (N.length - ps.length) .no) none c) : Has P w K mg base (L2.CX P w) (k + 1) x ps (spT K W R (fun _ _ => False) X) := by
  obtain ⟨f, fd, F, hm, b⟩ := D.ex
  refine ⟨f, fd, F.okX S (fun vs H Q E h => ?_) (fun cdv A outer s H vs Q E hr h => ⟨t E, h1 f cdv A outer s H E hr, ?_⟩), hm, F.kp, b⟩
  · obtain ⟨ds, G, _, r, h⟩ := h
    rw [r.length]
    rcases h with ⟨d, hR, _⟩ | ⟨d, hB, _⟩ | ⟨c, hX, _⟩
    · exact hl ds d hR
    · exact hB.elim
    · exact hl2 ds c hX
  · obtain ⟨ds, G, kG, r, h⟩ := h
    rcases h with ⟨d, hR, q⟩ | ⟨d, hB, q⟩ | ⟨c, hX, q⟩
    · exact h2 ds d hR E G H _ kG (start_ok r (hl ds d hR)) _ q
    · exact hB.elim
    · exact h3 ds c hX G H _ kG (start_ok r (hl2 ds c hX)) _ E (fun d' e => by cases e) (fun e => by cases e) fun _ => q
end
/-! ### looks: tests, and loops of tests -/
/-! ### something new in slot i: looked at, then written to -/
end Z
namespace Z
open PySem PySem.Spec PyProof.Rows L2 RZ
open Evl (Ex)
theorem slLK {X : Cx} {K : PySem.W.Frag} (e : X.K = K) : SlR X (rSlL K) := e ▸ sl_list
/-! ### fractions, in or not in a list -/
/-! ### the speeds from which two haps beside one another are at one time -/
/-! ### compared with itself: lists of lists of numbers, lists of haps -/
theorem sh_rows {α : Type} (f : α → List Nat) (l : List α) : SeqAt.shaped (.list (l.map fun a => PyData.list ((f a).map fun k : Nat => PyData.int (k : Int)))) = true := sh_lst fun d m => by
  obtain ⟨a, _, rfl⟩ := List.mem_map.mp m
  obtain ⟨h1, h2⟩ := sh_list (ps := (f a).map fun k : Nat => PyData.int (k : Int)) (fun d m => by
    obtain ⟨k, _, rfl⟩ := List.mem_map.mp m
    exact ⟨rfl, by simp [PyData.depth]⟩)
  have h3 : PyData.depthAll ((f a).map fun k : Nat => PyData.int (k : Int)) ≤ 1 := by
    generalize f a = l
    induction l with
    | nil => exact Nat.zero_le _
    | cons k l ih =>
      rw [List.map_cons, PyData.depthAll, PyData.depth]
      omega
  exact ⟨by rw [PyData.canLay0]; exact h1, by rw [PyData.depth]; omega⟩
end Z
namespace Z
open PySem PySem.Spec PyProof.Rows L2 RZ
open Evl (Ex)
theorem py_hapsD (ts : List (Rat × Rat)) : ∃ p, py (hapsD ts) = some p ∧ SeqAt.shaped p = true := ⟨_, by unfold hapsD; rw [py, pys_haps], sh_lst fun d m => by
  obtain ⟨o, _, rfl⟩ := List.mem_map.mp m
  exact ⟨rfl, by simp [hapP, PyData.depth, PyData.depthAll]⟩⟩
/-! ### what are no haps -/
end Z
namespace Z
open PySem PySem.Spec PyProof.Rows L2 RZ
open Evl (Ex)
/-- each two places, the lesser first -/
def prs (n : Nat) : List (Nat × Nat) := ((List.range n).map fun i => ((List.range n).filter fun j => decide (i < j)).map fun j => (i, j)).flatten
/-! ### turns: the even speeds of all pairs -/
end Z
namespace Z
open PySem PySem.Spec PyProof.Rows L2 RZ
open Evl (Ex)
def ordN (ts : List (Rat × Rat)) (v : Rat) : List Nat := (rsg (stQ ts v)).map fun q => (atQ ts v q).headD 0
end Z
namespace Z
open PySem PySem.Spec PyProof.Rows L2 RZ
/-! ### the paper of an order -/
def HapsB (ts : List (Rat × Rat)) : Prop := ts.length ≤ 8 ∧ ∀ p ∈ ts, Bq 90 p.1 ∧ Bq 12 p.2
end Z
namespace Z
open PySem PySem.Spec PyProof.Rows L2 RZ
/-! ### sizes of bounds: times are far off but halves -/
def HapsH (ts : List (Rat × Rat)) : Prop := ts.length ≤ 8 ∧ ∀ p ∈ ts, Bq 90 p.1 ∧ Bq 4 p.2 ∧ p.1.den ≤ 2
theorem HapsH.b {ts : List (Rat × Rat)} (h : HapsH ts) : HapsB ts := ⟨h.1, fun p m => ⟨(h.2 p m).1, (h.2 p m).2.1.mono (by decide)⟩⟩
/-! ### the lowest and the highest speed -/
end Z
namespace Z
open PySem PySem.Spec PyProof.Rows L2 RZ
theorem den_le {t b : Int} (h : b ≠ 0) : ((t : Rat) / (b : Rat)).den ≤ b.natAbs := by
  rw [← Rat.divInt_eq_div, Rat.den_divInt, if_neg h]
  exact Nat.div_le_self _ _
end Z
namespace Z
open PySem PySem.Spec PyProof.Rows L2 RZ
open Evl (Ex)
/-! ### comprehensions whose items are drawn -/
theorem atI_end {α : Type} {l : List α} (h : 0 < l.length) : atI l (-1) = l[l.length - 1]? := by
  unfold atI ixN
  rw [if_neg (by decide), if_pos (by omega)]
  show l[(-1 + (l.length : Int)).toNat]? = _
  rw [show (-1 + (l.length : Int)).toNat = l.length - 1 by omega]
end Z
namespace Z
open PySem PySem.Spec PyProof.Rows L2 RZ
open Evl (Ex)
/-! ### xs.extend(a new list), xs owned -/
/-! ### {k: v} -/
/-! ### slices of texts -/
/-! ### lists of texts compared -/
theorem pys_strs : ∀ l : List Str, pys (l.map Dt.str) = some (l.map PyData.str)
  | [] => rfl
  | a :: l => by rw [List.map_cons, pys, pys_strs l]; rfl
theorem sh_strs {l : List Str} (h : ∀ s ∈ l, SeqAt.shaped (.str s) = true) : SeqAt.shaped (.list (l.map PyData.str)) = true := sh_lst fun d m => by
  obtain ⟨s, hs, rfl⟩ := List.mem_map.mp m
  have := h s hs
  unfold SeqAt.shaped at this
  rw [Bool.and_eq_true] at this
  exact ⟨this.1, by simp [PyData.depth]⟩
/-! ### all rows of so many numbers, from -1 to m -/
def grown (m : Nat) (rows : List (List Int)) (j : Nat) : List (List Int) := ((rows.take j).map fun r => (List.range (m + 2)).map fun j : Nat => r ++ [-1 + (j : Int)]).flatten
end Z
namespace Z
open PySem PySem.Spec PyProof.Rows L2 RZ HandSPX
open Evl (Ex)
/-! ### a call's exception out of a comprehension -/
/-- the block's context where calls may let an exception out -/
abbrev blkE (X : Cx) (s : Shared) (H : Hp) (scope : Scope) (cenv : Env) (fp : List Addr) (E : XK) : Cx :=
  { X.blk s H scope cenv fp with xe := fun u s' => ∃ (pins : List (Addr × Obj)) (σ : L2.St) (H' : Hp) (sB : Shared), Inv (X.blk s H scope cenv fp) pins σ H' sB ∧ L2.CX X.prog X.w X.stack H' sB E u s' }
theorem inv_xe {Y : Cx} {xe : Value → Shared → Prop} {pins : List (Addr × Obj)} {σ : L2.St} {H : Hp} {s : Shared} (I : Inv Y pins σ H s) : Inv { Y with xe := xe } pins σ H s :=
  ⟨Cx.Ok.toTry I.ok Y.pn xe, I.os, I.bare, I.base, I.loc, I.cell, I.free, I.freeC, I.pin, I.hok, I.len⟩
theorem inv_ex {Y : Cx} {xe : Value → Shared → Prop} {pins : List (Addr × Obj)} {σ : L2.St} {H : Hp} {s : Shared} (I : Inv { Y with xe := xe } pins σ H s) : Inv Y pins σ H s :=
  ⟨Cx.Ok.ofTry (X := Y) (pn := Y.pn) (xe := xe) I.ok, I.os, I.bare, I.base, I.loc, I.cell, I.free, I.freeC, I.pin, I.hok, I.len⟩
theorem passB {X : Cx} {s : Shared} {H : Hp} {scope : Scope} {cenv : Env} {fp : List Addr} {E : XK} : Passes (L2.CX X.prog X.w) (blkE X s H scope cenv fp E) E := fun pins σ H' sB _ _ I c => ⟨pins, σ, H', sB, inv_ex I, c⟩
section
variable {X : Cx} {pins : List (Addr × Obj)} {σ : L2.St} {s : Shared} {H : Hp} {E : XK}
/-- what the def owes when such an exception leaves the block -/
theorem comp_err {fp : List Addr} {scope : Scope} {ce : Env} {H5 : Hp} {s5 s' : Shared} {σ' : L2.St} {pins' : List (Addr × Obj)} {u : Value} (tk : Takes X fun cls d _ H => E cls d H) (hs0 : X.stack = X.env :: X.outer) (hf : X.env.frame = some X.env.locals)
    (I3 : Inv X pins σ H s) (cL : ce.locals = s.heap.objs.size) (cF : ce.frame = X.env.frame) (f3 : ∀ b ∈ fp, FpOk X pins H b ∧ b < s.heap.objs.size) (I5 : Inv (X.blk s H scope ce fp) pins' σ' H5 s5) (c : L2.CX X.prog X.w X.stack H5 s5 E u s') :
    notedBy (model X.prog X.w) X.A ce (CompFails (model X.prog X.w) X.A X.xe ce) u s' := by
  have I7 : Inv X pins σ H5 s5 := I3.call' (ch := fp) I5.os I5.base I5.hok I5.bare fun b hb =>
    let z := (f3 b hb).1.2
    ⟨z.2.2.1, z.1, z.2.2.2.1, z.2.2.2.2⟩
  have nC : H5 ce.locals = none := I5.free
  obtain ⟨m, hn, _⟩ := I5.loc
  have hn : s5.heap.Ns ce.locals m := hn
  have fC : FpOk X pins H5 ce.locals := I3.fpOk (by rw [cL]; exact Nat.le_refl _) nC
  obtain ⟨_, fC1, fC2, fC3, fC4, fC5⟩ := fC
  obtain ⟨oC, es, ep, goC, dC, nsr⟩ := id hn
  have Cnf : ∀ vs, oC.data ≠ .fields vs := fun vs q => by
    rw [dC] at q
    cases q
  generalize hC : ce.locals = C at *
  obtain ⟨a, B, H', cls, d, rfl, fl, hok, ub, na, os, ag, hE⟩ := c
  have Cst : C ∉ frs X.stack := fun hm => by
    rcases List.mem_cons.mp (I7.stkSub C hm) with z | z
    · exact fC1 z
    · exact fC2 z
  have cB : B.get? C = some oC := ub.keep C oC goC nC Cst
  have nC' : H' C = none := ub.free C oC goC nC
  have cS : s'.heap.get? C = some oC := fl.1 _ _ cB
  have hfr : X.A.frames = some (X.env :: X.outer) := by rw [I7.ok.frames, hs0]
  have fl' : FlyingZ B (X.env :: X.outer) a (Zc cls d) s'.heap := hs0 ▸ fl
  show wpAny _ _ (noteFrame (.ref a) ce) _ _ s'
  rw [noteFrame_env _ cF]
  refine looks_onZ Zc.steady hfr hf fl' fun h1 hh up1 => ?_
  obtain ⟨b1, bn, fr1, oe, vs, T, oT, ts, he, hz, hd, hv1, hnT, hTe, hT, hdT, hv3⟩ := hh
  obtain ⟨sl1, c1⟩ := up1 C oC cS Cnf
  show CompFails _ _ _ ce (.ref a) { s' with heap := h1 }
  unfold CompFails
  rw [hC]
  refine ⟨m, ⟨_, es, ep, c1, dC, nsr⟩, fun h2 m2 hn2 sb => ?_⟩
  -- the ground without the block's names
  obtain ⟨B', g1, g2⟩ := restrict B fun b => decide (b ≠ C)
  have bB : ∀ b o, B'.get? b = some o → b ≠ C ∧ B.get? b = some o := fun b o e => by
    by_cases z : b = C
    · rw [g2 b (by simp [z])] at e
      cases e
    · exact ⟨z, by rw [← g1 b (by simp [z])]; exact e⟩
  have bN : ∀ {b}, B.get? b = none → B'.get? b = none := fun {b} e => by
    cases q : B'.get? b with
    | none => rfl
    | some o =>
      have := (bB b o q).2
      rw [e] at this
      cases this
  have bK : ∀ b o, b ≠ C → B.get? b = some o → B'.get? b = some o := fun b o z e => by
    rw [g1 b (by simp [z])]
    exact e
  have ne : ∀ {b : Addr} {o : Obj} {ws : Array Value}, h1.get? b = some o → o.data = .fields ws → b ≠ C := fun {b o ws} e q z => by
    rw [z, c1] at e
    cases e
    exact Cnf ws q
  have st2 : B'.StaysIn h2 := fun b o e => (sb.2 b (bB b o e).1).trans (b1 b o (bB b o e).2)
  have fr2 : h2.FunFrames B' (X.env :: X.outer) := funFrames_none (Heap.FunFrames.sameBut sb hn2 fr1) fun L hL => bN (fr1.mem hL).1
  have he2 := (sb.2 a (ne he hd)).trans he
  have hT2 := (sb.2 T (ne hT hdT)).trans hT
  have hh2 : HeldZ B' (X.env :: X.outer) a (Zc cls d) X.env.locals h2 := ⟨st2, bN bn, fr2, oe, vs, T, oT, ts, he2, hz, hd, hv1, bN hnT, hTe, hT2, hdT, hv3⟩
  unfold PySem.passOn
  refine wpAny_bind (wpAny_field he2 hd hv1 ?_)
  rw [if_neg (show ¬ ((Value.ref T == Value.none) = true) from by simp), cF, hf]
  refine wpAny_bind (setFlight_onZ hh2 fun h3 hh3 up3 => wpAny_throw ?_)
  -- it is in the def's air
  obtain ⟨G, k1, k2⟩ := restrict s'.heap fun b => (B'.get? b).isSome || decide (b ∈ frs X.stack)
  have gB : ∀ b o, B'.get? b = some o → G.get? b = some o := fun b o e => by
    rw [k1 b (by simp [e])]
    exact fl.1 b o (bB b o e).2
  have gF : ∀ b, b ∈ frs X.stack → G.get? b = s'.heap.get? b := fun b hb => k1 b (by simp [hb])
  have og : ∀ b o, G.get? b = some o → s'.heap.get? b = some o ∧ ((B'.get? b).isSome = true ∨ b ∈ frs X.stack) := fun b o e => by
    cases q : ((B'.get? b).isSome || decide (b ∈ frs X.stack)) with
    | false => rw [k2 b q] at e; cases e
    | true =>
      rw [k1 b q] at e
      exact ⟨e, by simpa [Bool.or_eq_true] using q⟩
  have nit : ∀ {b}, b ∉ [C] → b ≠ C := fun h z => h (by simp [z])
  have hok' : HOk X.prog X.w H' G := fun b o q => (hok b o q).stay (fun c w hc r => gB c w (bK c w (fun z => by
    rcases hc with hc | hc
    · rw [← hc, z, nC'] at q; cases q
    · rw [z, nC'] at hc; cases hc) r)) (fun _ z => z) fun _ _ z => z
  refine tk _ _ ⟨a, B', { s5 with heap := G, gens := s'.gens, drawn := s'.drawn, toks := s'.toks }, pins, σ, H', cls, d, rfl, ?_, fun b o e hb => ?_, fun b o e hnf => ?_, .inr (.inr (hs0 ▸ hh3)), na, os, ag, hE⟩
  · refine I7.call (ch := [C]) ⟨fun b o e n hb hc => gB b o (bK b o (nit hc) (ub.keep b o e n hb)), fun b o e n hb _ => ?_, fun b o e n _ => ub.free b o e n, fun b o e hc => ?_, ub.tups, ub.frzs, ub.tbls⟩ hok' ag fun b hb => ?_
    · obtain ⟨sl, q⟩ := ub.slot b o e hb
      exact ⟨sl, by rw [gF b hb]; exact q⟩
    · by_cases hb : b ∈ frs X.stack
      · obtain ⟨sl, q⟩ := ub.slot b o e hb
        exact ⟨_, by rw [gF b hb]; exact q⟩
      · obtain ⟨o', q⟩ := ub.there b o e hb
        exact ⟨o', gB b o' (bK b o' (nit hc) q)⟩
    · rw [List.mem_singleton.mp hb]
      exact ⟨fC3, fC1, fC4, fC5⟩
  · obtain ⟨e', h⟩ := og b o e
    rcases h with h | h
    · obtain ⟨o', q⟩ := Option.isSome_iff_exists.mp h
      have z := fl.1 b o' (bB b o' q).2
      rw [e'] at z
      cases z
      exact q
    · exact absurd h hb
  · obtain ⟨e', h⟩ := og b o e
    have bC : b ≠ C := by
      rcases h with h | h
      · obtain ⟨o', q⟩ := Option.isSome_iff_exists.mp h
        exact (bB b o' q).1
      · exact fun z => Cst (z ▸ h)
    obtain ⟨sl, q1⟩ := up1 b o e' hnf
    obtain ⟨sl2, q2⟩ := up3 b _ ((sb.2 b bC).trans q1) hnf
    exact ⟨sl2, q2⟩
theorem thnE {α : Type} {t : Sem α} {Q Q' : α → Shared → Prop} {M : Model} {A : Around} {E E' : Value → Shared → Prop} {s : Shared} (hE : ∀ u s', E u s' → E' u s') (h : wpAny M A t Q E s) (hQ : ∀ a s, Q a s → Q' a s) : wpAny M A t Q' E' s := wpAny_mono h hQ hE
/-- a list comprehension whose calls may let an exception out -/
theorem lc_raise {Q : VK} {elt tg iter : Expr} {ifs : List Expr} {scope : Scope} {own : List (Str × Nat)} {pos pos' : Pos} {wi : TI} {g : TG} {tt : TT} {te : TE} {use : Option (Value → Sem Unit)} {Qf : Value → Shared → Prop}
    (hc : X.calm = true) (hN : X.N.Nodup) (hs0 : X.stack = X.env :: X.outer) (hf : X.env.frame = some X.env.locals) (tk : Takes X fun cls d _ H => E cls d H) (I : Inv X pins σ H s) (hi : PI X tg iter wi) (ok : BlkOk X.N X.env.scope scope own)
    (hg : ∀ (s : Shared) (H : Hp) (C : Addr) (cl : List (Str × Addr)) (fp : List Addr), PG (blkE X s H scope (compEnvC scope cl C X.env) fp E) tg g) (ht : ∀ (s : Shared) (H : Hp) (C : Addr) (cl : List (Str × Addr)) (fp : List Addr), PTs (blkE X s H scope (compEnvC scope cl C X.env) fp E) ifs tt)
    (he : ∀ (s : Shared) (H : Hp) (C : Addr) (cl : List (Str × Addr)) (fp : List Addr), PE (blkE X s H scope (compEnvC scope cl C X.env) fp E) elt te) (hs : ∀ x, foldedSetIterable iter X.env x = pure x) (h : tLc wi g tt te (own.map (·.2)) σ H Q)
    (hR : ∀ D s' m H' (ce : Env), Inv X pins σ H' s' → Q (.ref D) H' → s'.heap.Ns ce.locals m → FpOk X pins H' ce.locals → compEnds (model X.prog X.w) X.A X.xe use Qf (.ref D) ce (.ok .next) s') :
    wpAny (model X.prog X.w) X.A (comprehension (.ListComp elt [⟨tg, iter, ifs, 0⟩] scope pos) scope X.env pos' (newList []) false (eval iter X.env) use) Qf X.xe s := by
  refine comprehension_at (use := use) rfl hs (closure_ok fun y hy e => (ok.free y hy e).elim (fun k => I.ok.has _ (.inl k)) fun k => I.ok.has _ (.inr k)) ok.kind (fun y hy e => (ok.uniq y hy).trans (congrArg some e)) (thn (hi.run pins s σ H _ I h) fun xv s1 hx => thn hx fun itv s2 h2 => ?_)
  obtain ⟨it, fp, tn, J, H2, e, I2, T, st2, f2, q⟩ := h2
  subst e
  refine wpAny_newObj_type (newEnv_comp ?_) (by show 0 ≤ sizeLine; decide)
  obtain ⟨D, hD⟩ : ∃ D, D = s2.heap.objs.size := ⟨_, rfl⟩
  rw [← hD]
  obtain ⟨W, ⟨m0, w0⟩, turn⟩ := q D (I2.hok.fresh (Nat.le_of_eq hD.symm))
  obtain ⟨s3, hs3⟩ : ∃ s3 : Shared, s3 = { s2 with heap := s2.heap.push { cls := .type "list", data := .seq ([] : List Value).toArray } } := ⟨_, rfl⟩
  have k3 : ∀ b o, s2.heap.get? b = some o → s3.heap.get? b = some o := fun b o e => by rw [hs3]; exact Heap.get?_push_of_some _ e
  have z3 : s3.heap.objs.size = s2.heap.objs.size + 1 := by rw [hs3]; exact Heap.size_push ..
  have I3 : Inv X pins σ (upd H2 D (.lst [])) s3 := by
    rw [hs3]
    refine I2.laid (t' := s2.toks) (fun b o e => Heap.get?_push_of_some _ e) (Nat.le_of_eq hD.symm) ⟨Nat.zero_le _, [], 0, .nil, ?_⟩
    rw [hD]
    exact Heap.get?_push_size _ rfl
  have below : ∀ b ∈ fp, b < s2.heap.objs.size := fun b hb => by
    obtain ⟨o, e, _⟩ := T.obj _ _ st2 b hb
    exact Heap.lt_size e
  have f3 : ∀ b ∈ fp, FpOk X pins (upd H2 D (.lst [])) b ∧ b < s3.heap.objs.size := fun b hb => by
    have lt := below b hb
    exact ⟨⟨by rw [upd_ne (show b ≠ D by rw [hD]; exact Nat.ne_of_lt lt)]; exact (f2 b hb).1, (f2 b hb).2⟩, by rw [z3]; exact Nat.lt_succ_of_lt lt⟩
  have st3 : tn 0 s3.heap := T.keep _ _ _ st2 fun b _ o e => k3 b o e
  have I4 := block_start I3 ok hN f3
  obtain ⟨ce, hce⟩ : ∃ ce, ce = compEnvC scope (cellsFrom (s3.heap.objs.size + 1) scope.names (cloFrom X.env.cells scope.names [])) s3.heap.objs.size X.env := ⟨_, rfl⟩
  have pg := hg s3 (upd H2 D (.lst [])) s3.heap.objs.size (cellsFrom (s3.heap.objs.size + 1) scope.names (cloFrom X.env.cells scope.names [])) fp
  have pt := ht s3 (upd H2 D (.lst [])) s3.heap.objs.size (cellsFrom (s3.heap.objs.size + 1) scope.names (cloFrom X.env.cells scope.names [])) fp
  have pe := he s3 (upd H2 D (.lst [])) s3.heap.objs.size (cellsFrom (s3.heap.objs.size + 1) scope.names (cloFrom X.env.cells scope.names [])) fp
  rw [← hce] at I4 pg pt pe
  obtain ⟨s4, hs4⟩ : ∃ s4 : Shared, s4 = { s3 with heap := pushCells (s3.heap.push { cls := .type "dict", data := .dict #[] }) scope.names } := ⟨_, rfl⟩
  rw [← hs4] at I4
  suffices sf : codeAny (model X.prog X.w) X.A (.compStart (.ListComp elt [⟨tg, iter, ifs, 0⟩] scope pos) 0 (.ref it) (.ref D) ce) (compEnds (model X.prog X.w) X.A X.xe use Qf (.ref D) ce) s4 by
    rw [hce, hs4, hs3] at sf
    exact sf
  have cL : ce.locals = s3.heap.objs.size := by rw [hce]; rfl
  have cF : ce.frame = X.env.frame := by rw [hce]; rfl
  obtain ⟨H3, hH3⟩ : ∃ H3, H3 = upd H2 D (.lst []) := ⟨_, rfl⟩
  rw [← hH3] at I3 I4 pg pt pe w0 f3
  have n3 : ∀ b ∈ fp, H3 b = none := fun b hb => (f3 b hb).1.1
  have st4 : tn 0 s4.heap := T.keep _ _ _ st3 fun b _ o e => by rw [hs4]; exact pushCells_keeps _ _ _ _ (Heap.get?_push_of_some _ e)
  have noteE : ∀ u s', (blkE X s3 H3 scope ce fp E).xe u s' → notedBy (model X.prog X.w) X.A ce (fun e s'' => compEnds (model X.prog X.w) X.A X.xe use Qf (.ref D) ce (.error e) s'') u s' := fun u s' ⟨p', σ', H5, sB, I5, c⟩ => comp_err tk hs0 hf I3 cL cF f3 I5 c
  have stat : ∀ {σ' : L2.St} {H' : Hp} {s' : Shared}, Inv (X.blk s3 H3 scope ce fp) [] σ' H' s' → (∀ b ∈ fp, H' b = none) → ∀ b ∈ fp, FpOk (X.blk s3 H3 scope ce fp) [] H' b := fun {σ' H' s'} I' hn b hb =>
    ⟨hn b hb, (I'.ok.exf b hb).1, I'.ok.exfs b hb, .inl hb, (I'.ok.exf b hb).2, fun p hp => absurd (show p ∈ ([] : List (Addr × Obj)) ++ [] from hp) (by simp)⟩
  have lp : codeAny (model X.prog X.w) X.A (.compLoop (.ListComp elt [⟨tg, iter, ifs, 0⟩] scope pos) 0 (.ref it) (.ref D) ce) (compEnds (model X.prog X.w) X.A X.xe use Qf (.ref D) ce) s4 := by
    refine compLoop_any (fun n s' => ∃ i H', Inv (X.blk s3 H3 scope ce fp) [] (wipe σ (own.map (·.2))) H' s' ∧ tn i s'.heap ∧ (∀ b ∈ fp, H' b = none) ∧ W i n H') ?_ m0 ⟨0, H3, I4, st4, n3, w0⟩
    rintro n s5 ⟨i, H5, I5, st5, n5, w5⟩
    rcases turn i n H5 w5 with ⟨stop, qq⟩ | ⟨go, Nx, hNx, step⟩
    · refine thnF (T.done (X.blk s3 H3 scope ce fp) rfl rfl rfl hc i [] s5 _ H5 (fun _ _ => False) I5 (stat I5 n5) st5 stop) fun r s6 hr => ?_
      obtain ⟨rfl, I6⟩ := hr
      obtain ⟨m, hn, _⟩ := I6.loc
      have nC : H5 ce.locals = none := I6.free
      exact hR D s6 m H5 ce (I3.call' (ch := fp) I6.os I6.base I6.hok I6.bare fun b hb => let z := (f3 b hb).1.2; ⟨z.2.2.1, z.1, z.2.2.2.1, z.2.2.2.2⟩) qq hn (I3.fpOk (by rw [cL]; exact Nat.le_refl _) nC)
    · refine thnF (T.item (X.blk s3 H3 scope ce fp) rfl rfl rfl hc i [] s5 _ H5 (fun _ _ => False) I5 (stat I5 n5) st5 go) fun r s6 hr => ?_
      obtain ⟨u, rfl, h6⟩ := hr
      refine thnF h6 fun _ s7 h7 => ?_
      obtain ⟨x, H7, I7, r7, y7, st7, n7⟩ := h7
      have J7 := inv_xe (xe := (blkE X s3 H3 scope ce fp E).xe) (I7.pinned (stat I7 n7) (T.obj _ _ st7))
      refine thnE noteE (pg.run _ s7 _ H7 x u _ J7 r7 (step x H7 y7)) fun _ s8 ⟨σ8, H8, I8, hw8, q8⟩ => ?_
      refine thnE noteE (pt.run _ s8 σ8 H8 _ I8 q8) fun b s9 ⟨H9, I9, q9⟩ => ?_
      have fin : ∀ {s' : Shared} {H' : Hp}, Inv (X.blk s3 H3 scope ce fp) ([] ++ pinsAt fp s7.heap) σ8 H' s' → Nx H' → ∃ m, m < n ∧ ∃ i H', Inv (X.blk s3 H3 scope ce fp) [] (wipe σ (own.map (·.2))) H' s' ∧ tn i s'.heap ∧ (∀ b ∈ fp, H' b = none) ∧ W i m H' := fun {s' H'} I' nx => by
        obtain ⟨m', hm, w'⟩ := hNx H' nx
        have held : ∀ b ∈ fp, ∀ o, s7.heap.get? b = some o → s'.heap.get? b = some o ∧ H' b = none := fun b hb o e => by
          have z := I'.pin (b, o) (List.mem_append_right _ (List.mem_append_right _ (mem_pinsAt hb e)))
          exact ⟨z.1, z.2.1⟩
        refine ⟨m', hm, i + 1, H', (I'.unpinned (pins := [])).weak (by rw [← hw8, wipe_length]) (fun j v e => (wipe_some (hw8 ▸ e)).1), T.keep _ _ _ st7 fun b hb o e => (held b hb o e).1, fun b hb => ?_, w'⟩
        obtain ⟨o, e, _⟩ := T.obj _ _ st7 b hb
        exact (held b hb o e).2
      cases b with
      | false =>
        simp only [Bool.false_eq_true, if_false] at q9 ⊢
        exact fin (inv_ex I9) q9
      | true =>
        simp only [if_true] at q9 ⊢
        refine thnE noteE (pe.run _ s9 σ8 H9 _ I9 q9) fun z s10 ⟨yv, H10, I10, r10, acc, hD10, hz10, nx⟩ => ?_
        exact app_ok (X := X.blk s3 H3 scope ce fp) (inv_ex I10) hD10 hz10 r10 fun s11 I11 => fin I11 nx
  exact codeAny_compStart_list lp (T.self X.A 0 _ _ _ st4 lp)
/-- as a value -/
theorem pe_lcX {elt tg iter : Expr} {ifs : List Expr} {scope : Scope} {own : List (Str × Nat)} {pos : Pos} {wi : TI} {g : TG} {tt : TT} {te : TE} (hc : X.calm = true) (hs0 : X.stack = X.env :: X.outer) (hf : X.env.frame = some X.env.locals) (tk : Takes X fun cls d _ H => E cls d H) (hN : X.N.Nodup) (hi : PI X tg iter wi) (ok : BlkOk X.N X.env.scope scope own)
    (hg : ∀ (s : Shared) (H : Hp) (C : Addr) (cl : List (Str × Addr)) (fp : List Addr), PG (blkE X s H scope (compEnvC scope cl C X.env) fp E) tg g) (ht : ∀ (s : Shared) (H : Hp) (C : Addr) (cl : List (Str × Addr)) (fp : List Addr), PTs (blkE X s H scope (compEnvC scope cl C X.env) fp E) ifs tt)
    (he : ∀ (s : Shared) (H : Hp) (C : Addr) (cl : List (Str × Addr)) (fp : List Addr), PE (blkE X s H scope (compEnvC scope cl C X.env) fp E) elt te) (hs : ∀ x, foldedSetIterable iter X.env x = pure x := by intro _; rfl) :
    PE X (.ListComp elt [⟨tg, iter, ifs, 0⟩] scope pos) (tLc wi g tt te (own.map (·.2))) := ⟨fun pins s σ H Q I h => by
  rw [eval_ListComp]
  refine lc_raise hc hN hs0 hf tk I hi ok hg ht he hs h fun D s' m H' ce I' q hn f => ⟨m, hn, fun h'' sb => ?_⟩
  obtain ⟨f0, f1, f2, f3, f4, f5⟩ := f
  exact ⟨.ref D, H', I'.turned (t' := s'.toks) (fun b o hb e => (sb.2 b hb).trans e) f0 f1 f3 f4 f5, rfl, q⟩⟩
end
end Z
namespace Z
open PySem PySem.Spec PyProof.Rows L2 RZ
open Evl (Ex)
/-! ### own times along ways -/
def sqS (l g : Rat) : Rat := l * l - g * g
def ownS (a b : Rat × Rat) : Rat := sqS (b.1 - a.1) (b.2 - a.2)
def lat (a b : Rat × Rat) : Bool := wordS (b.1 - a.1) (b.2 - a.2) == "later"
def hpD (a : Rat × Rat) : Dt := hapD a.1 a.2
def B4 (p : Rat × Rat) : Prop := Bq 400 p.1 ∧ Bq 400 p.2
def pt (ts : List (Rat × Rat)) (k : Nat) : Rat × Rat := ts.getD k (0, 0)
structure WayOk (ts : List (Rat × Rat)) : Prop where
  lo : 2 ≤ ts.length
  hi : ts.length ≤ 12
  b : ∀ q ∈ ts, B4 q
theorem pt_get {ts : List (Rat × Rat)} {k : Nat} (h : k < ts.length) : ts[k]? = some (pt ts k) := by
  unfold pt
  rw [List.getD_eq_getElem?_getD, List.getElem?_eq_getElem h]
  rfl
theorem WayOk.at {ts : List (Rat × Rat)} (h : WayOk ts) {k : Nat} (hk : k < ts.length) : B4 (pt ts k) := h.b _ (List.mem_of_getElem? (pt_get hk))
def sm (f : Nat → Rat) : Nat → Rat
  | 0 => 0
  | k + 1 => sm f k + f k
/-! halves -/
def Hf (m : Nat) (t : Rat) : Prop := ∃ a : Int, t = (a : Rat) / ((2 : Int) : Rat) ∧ a.natAbs ≤ m
theorem Hf.mono {m n : Nat} {t : Rat} (h : Hf m t) (e : m ≤ n) : Hf n t := by
  obtain ⟨a, h1, h2⟩ := h
  exact ⟨a, h1, Nat.le_trans h2 e⟩
theorem Hf.bq {t : Rat} (h : Hf (2 ^ 92) t) : Bq 93 t := by
  obtain ⟨a, rfl, h2⟩ := h
  refine bq_div (by decide) ?_ (by show Int.natAbs 2 < 2 ^ 93; decide)
  show a.natAbs < 2 ^ 93
  omega
theorem Hf.sub {m n : Nat} {t u : Rat} (h : Hf m t) (g : Hf n u) : Hf (m + n) (t - u) := by
  obtain ⟨a, rfl, h2⟩ := h
  obtain ⟨b, rfl, g2⟩ := g
  refine ⟨a - b, ?_, by omega⟩
  rw [Rat.intCast_sub]
  grind
/-! the sum of a way's own times, as far as it is told -/
end Z
namespace Z
open PySem PySem.Spec PyProof.Rows L2 RZ
open Evl (Ex)
/-! ### dicts whose keys are tuples -/
abbrev K2 (x y : Int) : List L2.Key := [.inl x, .inl y]
/-- an own dict at p -/
def Dk (K : PySem.W.Frag) (p : Addr) (ks : List (List L2.Key)) (ds : List Dt) (G H : Hp) : Prop := G p = none ∧ ∃ vs, H p = some (.dT (ks.zip vs)) ∧ ks.length = vs.length ∧ Rps K G vs ds
theorem Dk.nx {K : PySem.W.Frag} {p : Addr} {ks : List (List L2.Key)} {ds : List Dt} {G H G2 H2 : Hp} (m : Dk K p ks ds G H) (n : Nx G H G2 H2) : Dk K p ks ds G2 H2 := by
  obtain ⟨g, vs, h, l, r⟩ := m
  exact ⟨n.f p g (by rw [h]; intro z; cases z), vs, n.h p _ h, l, r.mono n.g⟩
/-! what is known of others does not rest on a dict -/
end Z
namespace Z
open PySem PySem.Spec PyProof.Rows L2 RZ
open Evl (Ex)
abbrev kk (prs : List (Int × Int)) : List (List L2.Key) := prs.map fun q => K2 q.1 q.2
end Z
namespace Z
open PySem PySem.Spec PyProof.Rows L2 RZ
open Evl (Ex)
/-! ### a list's truth, the last one taken off it -/
/-! ### ways: the mathematics -/
section
variable (D : List Nat) (R : Nat → Nat → Bool)
def upN (x : Nat) : Nat := (D.filter (R x)).length
variable {D R}
end
end Z
namespace Z
open PySem PySem.Spec PyProof.Rows L2 RZ
open Evl (Ex)
theorem lt64 {a n : Nat} (h : a + 64 < n) : a + 1 < n := by omega
theorem bm0K {X : Cx} {K : PySem.W.Frag} {c : Expr} {to : TE} {T : String} {r : V → List V → Hp → VK → Prop} (eK : X.K = K) (h : PE X c (tBM0 X.K T r to)) : PE X c (tBM0 K T r to) := eK ▸ h
/-! ### plain steps -/
section
variable (ts : List (Rat × Rat))
def ownN (i j : Nat) : Rat := ownS (pt ts i) (pt ts j)
def stepB (i j : Nat) : Bool := !isNon (rootD (ownN ts i j)) && lat (pt ts i) (pt ts j)
def cellsN (i j : Nat) : List (Nat × Nat) := ((List.range j).filter (stepB ts i)).map fun k => (i, k)
def rowsW (i : Nat) : List (Nat × Nat) := (List.range i).flatMap fun k => cellsN ts k ts.length
def prsN : List (Nat × Nat) := rowsW ts ts.length
end
end Z
namespace Z
open PySem PySem.Spec PyProof.Rows L2 RZ
open Evl (Ex)
/-! ### all ways -/
abbrev Wy := Rat × List Nat
def lastN (l : List Nat) : Nat := l.getD (l.length - 1) 0
noncomputable def rt (s : Rat) : Rat := @dite _ (∃ y : Rat, 0 ≤ y ∧ y * y = s) (Classical.propDecidable _) (fun h => h.choose) (fun _ => 0)
section
variable (ts : List (Rat × Rat))
def latN (i j : Nat) : Bool := lat (pt ts i) (pt ts j)
noncomputable def rtN (q : Nat × Nat) : Rat := rt (ownN ts q.1 q.2)
def up (x : Nat) : Nat := upN (List.range ts.length) (latN ts) x
structure WOk (w : Wy) : Prop where
  ne : w.2 ≠ []
  lt : ∀ k ∈ w.2, k < ts.length
  len : w.2.length + up ts (lastN w.2) ≤ ts.length
  hf : Hf (2 ^ 91 * w.2.length) w.1
end
section
variable {ts : List (Rat × Rat)} {e : Nat}
theorem WOk.len8 {w : Wy} (h : WOk ts w) : w.2.length ≤ ts.length := by
  have := h.len
  omega
theorem WOk.bq {w : Wy} (h : WOk ts w) (hn : ts.length ≤ 8) : Bq 96 w.1 := by
  obtain ⟨a, e, h2⟩ := h.hf
  rw [e]
  refine bq_div (by decide) ?_ (by show Int.natAbs 2 < 2 ^ 96; decide)
  show a.natAbs < 2 ^ 96
  have := h.len8
  have : 2 ^ 91 * w.2.length ≤ 2 ^ 91 * 8 := Nat.mul_le_mul_left _ (by omega)
  omega
end
end Z
/-! sorted(set(ints)), any number of them -/
namespace L2
open PySem PySem.Spec PyProof.Rows
end L2
/-! min of a list of data, data compared by < -/
namespace L2
open PySem PySem.Spec PyProof.Rows PySem.W
end L2
/-! list(d.values()), d's keys tuples -/
namespace L2
open PySem PySem.Spec PyProof.Rows
end L2
namespace Z
open PySem PySem.Spec PyProof.Rows L2 RZ
open Evl (Ex)
/-! ### marks -/
section
variable (ts : List (Rat × Rat))
noncomputable def totQ : Nat → Rat := sm fun k => rtN ts ((prsN ts).getD k (0, 0))
end
end Z
namespace Z
/-! ### the marks found: what paths add up to -/
inductive Pth (ts : List (Rat × Rat)) : Nat → Nat → Nat → Rat → Prop
  | one (x : Nat) : Pth ts x x 0 0
  | snoc {a x y j : Nat} {v : Rat} : Pth ts a x j v → x < ts.length → y < ts.length → stepB ts x y = true → Pth ts a y (j + 1) (v + rtN ts (x, y))
noncomputable def initQ (ts : List (Rat × Rat)) (s a : Nat) : Rat := if a = s then 0 else 0 - totQ ts (prsN ts).length
section
variable {ts : List (Rat × Rat)} {s : Nat}
/-- each mark is the value of a path that ends there -/
def Att (ts : List (Rat × Rat)) (s : Nat) (M : List Rat) : Prop := M.length = ts.length ∧ ∀ x, x < ts.length → ∃ a j v, a < ts.length ∧ Pth ts a x j v ∧ M.getD x 0 = initQ ts s a + v
end
end Z
namespace Z
open PySem PySem.Spec PyProof.Rows L2 RZ
/-! ### haps as told from a seat -/
def mvP (v b : Rat) (o q : Rat × Rat) : Rat × Rat := (tlT v b o.1 o.2 q.1 q.2, tlP v b o.1 o.2 q.1 q.2)
theorem q_pos {a b : Rat} (ha : 0 < a) (hb : 0 < b) : 0 < a / b := by
  have h : a / b * b = a := by grind
  rcases Rat.nonneg_total (a / b) with z | z
  · rcases Rat.le_iff_lt_or_eq.mp z with z | z
    · exact z
    · rw [← z] at h
      grind
  · have := Rat.mul_nonneg z (Rat.le_of_lt hb)
    grind
/-- the signs of two numbers alike -/
def Sg (x y : Rat) : Prop := (x < 0 ↔ y < 0) ∧ (0 < x ↔ 0 < y)
theorem sg_mul {x c : Rat} (h : 0 < c) : Sg (x * c) x := by
  refine ⟨⟨fun z => ?_, fun z => ?_⟩, ⟨fun z => ?_, fun z => ?_⟩⟩
  · rcases Rat.nonneg_total x with y | y
    · have := Rat.mul_nonneg y (Rat.le_of_lt h)
      grind
    · rcases Rat.le_iff_lt_or_eq.mp y with y | y
      · grind
      · have e : x = 0 := by grind
        rw [e] at z
        grind
  · have := Rat.mul_pos (show 0 < -x by grind) h
    grind
  · rcases Rat.nonneg_total x with y | y
    · rcases Rat.le_iff_lt_or_eq.mp y with y | y
      · exact y
      · rw [← y] at z
        grind
    · have := Rat.mul_nonneg y (Rat.le_of_lt h)
      grind
  · exact Rat.mul_pos z h
theorem lt_abs (l g : Rat) : l < g.abs ↔ (l - g < 0 ∨ l + g < 0) := by
  rcases abs_or g with ⟨a, b⟩ | ⟨a, b⟩ <;> rw [b] <;> constructor
  · intro h
    exact .inl (by grind)
  · rintro (h | h) <;> grind
  · intro h
    exact .inr (by grind)
  · rintro (h | h) <;> grind
theorem word_sg {l g l2 g2 : Rat} (h1 : Sg (l2 - g2) (l - g)) (h2 : Sg (l2 + g2) (l + g)) : wordS l2 g2 = wordS l g := by
  have c0 : (l2 = 0 ∧ g2 = 0) ↔ (l = 0 ∧ g = 0) := by
    have k : ∀ x y : Rat, (x = 0 ∧ y = 0) ↔ (¬ x - y < 0 ∧ ¬ 0 < x - y ∧ ¬ x + y < 0 ∧ ¬ 0 < x + y) := fun x y => ⟨fun ⟨a, b⟩ => by rw [a, b]; refine ⟨?_, ?_, ?_, ?_⟩ <;> grind, fun ⟨a, b, c, d⟩ => ⟨by grind, by grind⟩⟩
    rw [k l2 g2, k l g, h1.1, h1.2, h2.1, h2.2]
  have c1 : l2 < g2.abs ↔ l < g.abs := by rw [lt_abs, lt_abs, h1.1, h2.1]
  have c2 : -l2 < g2.abs ↔ -l < g.abs := by
    have k : ∀ x y : Rat, -x < y.abs ↔ (0 < x + y ∨ 0 < x - y) := fun x y => by
      rw [lt_abs]
      exact ⟨fun h => by rcases h with h | h; exact .inl (by grind); exact .inr (by grind), fun h => by rcases h with h | h; exact .inl (by grind); exact .inr (by grind)⟩
    rw [k, k, h1.2, h2.2]
  unfold wordS
  simp only [c0, c1, c2]
section
variable {v b : Rat} {o : Rat × Rat}
theorem mv_dt (hb : b ≠ 0) (p q : Rat × Rat) : (mvP v b o q).1 - (mvP v b o p).1 = ((q.1 - p.1) - v * (q.2 - p.2)) / b := by
  show tlT _ _ _ _ _ _ - tlT _ _ _ _ _ _ = _
  unfold tlT
  generalize q.1 = a1
  generalize q.2 = a2
  generalize p.1 = a3
  generalize p.2 = a4
  generalize o.1 = a5
  generalize o.2 = a6
  grind
theorem mv_dp (hb : b ≠ 0) (p q : Rat × Rat) : (mvP v b o q).2 - (mvP v b o p).2 = ((q.2 - p.2) - v * (q.1 - p.1)) / b := by
  show tlP _ _ _ _ _ _ - tlP _ _ _ _ _ _ = _
  unfold tlP
  generalize q.1 = a1
  generalize q.2 = a2
  generalize p.1 = a3
  generalize p.2 = a4
  generalize o.1 = a5
  generalize o.2 = a6
  grind
theorem mv_sg (h : Pl v b) (l g : Rat) : Sg ((l - v * g) / b - (g - v * l) / b) (l - g) ∧ Sg ((l - v * g) / b + (g - v * l) / b) (l + g) := by
  have hb := h.ne
  have c1 : 0 < (1 + v) / b := q_pos (by have := h.s.1; grind) h.p
  have c2 : 0 < (1 - v) / b := q_pos (by have := h.s.2; grind) h.p
  have e1 : (l - v * g) / b - (g - v * l) / b = (l - g) * ((1 + v) / b) := by grind
  have e2 : (l - v * g) / b + (g - v * l) / b = (l + g) * ((1 - v) / b) := by grind
  rw [e1, e2]
  exact ⟨sg_mul c1, sg_mul c2⟩
theorem mv_word (h : Pl v b) (p q : Rat × Rat) : wordS ((mvP v b o q).1 - (mvP v b o p).1) ((mvP v b o q).2 - (mvP v b o p).2) = wordS (q.1 - p.1) (q.2 - p.2) := by
  rw [mv_dt h.ne, mv_dp h.ne]
  obtain ⟨s1, s2⟩ := mv_sg h (q.1 - p.1) (q.2 - p.2)
  exact word_sg s1 s2
end
/-- haps that hang together as others do -/
structure Mv (ts ms : List (Rat × Rat)) : Prop where
  len : ms.length = ts.length
  b4 : ∀ q ∈ ms, B4 q
  nd : ms.Nodup
  own : ∀ i j, i < ts.length → j < ts.length → ownN ms i j = ownN ts i j
  lat : ∀ i j, i < ts.length → j < ts.length → latN ms i j = latN ts i j
section
variable {ts ms : List (Rat × Rat)}
theorem Mv.step (h : Mv ts ms) {i j : Nat} (hi : i < ts.length) (hj : j < ts.length) : stepB ms i j = stepB ts i j := by
  have h1 := h.own i j hi hj
  have h2 := h.lat i j hi hj
  unfold latN at h2
  unfold stepB
  rw [h1, h2]
theorem Mv.cells (h : Mv ts ms) {i : Nat} (hi : i < ts.length) : ∀ {j : Nat}, j ≤ ts.length → cellsN ms i j = cellsN ts i j := fun {j} hj => by
  unfold cellsN
  congr 1
  exact List.filter_congr fun k hk => h.step hi (Nat.lt_of_lt_of_le (List.mem_range.mp hk) hj)
end
/-! ### own time along a way is no more than the straight one -/
/-! ### the ways found, step by step -/
end Z
namespace L2
open PySem PySem.Spec PyProof.Rows
/-- a dict's copy -/
def rCopyD : V → List V → Hp → VK → Prop := fun x xs H Q => ∃ a kvs, x = .ref a ∧ xs = [] ∧ H a = some (.dK kvs) ∧ ∀ p, H p = none → Q (.ref p) (upd H p (.dK kvs))
theorem mt_copyD {X : Cx} : MtR X "dict.copy" rCopyD := by
  rintro pins s σ H x xs v us Q I rx rv ⟨a, kvs, rfl, rfl, hH, q⟩
  cases rx
  cases rv
  obtain ⟨z, hd, vs, rel, dd⟩ := dk_rd I.hok (.inl hH)
  refine call_meetsIn F.slot_dict_copy dd.typeIs F.entry_dict_copy (F.args_dict_copy_1 _) (meets_dict_copy (mixKind X.prog X.w) a hd) ⟨vs, dd, by rw [← rel.length]; exact z, fun h' dd' _ hs => ?_⟩
  exact ⟨.ref s.heap.objs.size, _, I.laid (t' := s.toks) (o := .dK kvs) hs (Nat.le_refl _) (dk_new z (beq_eq_false_iff_ne.mpr (Ne.symm (Nat.ne_of_lt I.big))) rel dd'), rfl, q _ (I.hok.fresh (Nat.le_refl _))⟩
/-- len of a dict, locked or not -/
def rLenR : List V → Hp → VK → Prop := fun xs H Q => ∃ (a : Addr) (kvs : List (Key × V)), xs = [V.ref a] ∧ Rd H a (.dK kvs) ∧ Q (.int kvs.length) H
theorem call_lenR {X : Cx} : CallR X (.builtin "len") rLenR := by
  intro pins s σ H xs us Q I r h
  obtain ⟨a, kvs, rfl, ha, q⟩ := h
  obtain ⟨u, rfl, ru⟩ := vals1 r
  cases ru
  exact d_len I ha fun t s' I' => ⟨.int kvs.length, H, I', ⟨t, rfl⟩, q⟩
theorem rd_mono {G H : Hp} {a : Addr} {u : HO} (e : Evl.Ex G H) (h : Rd G a u) : Rd H a u := by
  rcases h with h | ⟨o, h⟩
  · exact .inl (e _ _ h)
  · exact .inr ⟨o, e _ _ h⟩
theorem DGet.r {H : Hp} {a : Addr} {kvs : List (Key × V)} {k : Key} (e : Rd H a (.dK kvs)) : DGet H a (kV k) (valV kvs k) := .inl ⟨kvs, k, e, rfl, rfl⟩
end L2
namespace Z
open PySem PySem.Spec PyProof.Rows L2 RZ
open Evl (Ex)
/-! ### texts, sign by sign -/
def sgD (s : Str) (k : Nat) : Dt := .str ⟨#[s.cps.getD k 0]⟩
theorem ev_lcS {K : PySem.W.Frag} {sl : List Sl} {te tl : TE} {i : Nat} {s : Str} {es : List Dt} (hes : es.length = s.cps.size) (h : Ev K tl sl (.str s)) (hn : s.cps.size ≤ 90000) (he : ∀ (k : Nat) (e : Dt), k < s.cps.size → es[k]? = some e → Ev K te ((sl.set i .no).set i (.d (sgD s k))) e) : Ev K (tLc (iStr tl) (gName i) tYes te [i]) sl (.lst es) := fun G H σ k fr Q q =>
  h G H σ k fr _ fun v G1 H1 n1 r1 => by
    cases r1
    refine ⟨s, rfl, fun Dl hD => ?_⟩
    have gD : G1 Dl = none := free_of n1.k hD
    refine lc_it (walk_str (z := s)) (fun j H' => ∃ G' vs, Ex G1 G' ∧ Ex H1 H' ∧ Ex G' H' ∧ (∀ c, G1 c = none → H1 c ≠ none → G' c = none) ∧ G' Dl = none ∧ H' Dl = some (.lst vs) ∧ Rps K G' vs (es.take j))
      ⟨G1, [], Ex.refl _, Ex.new hD, n1.k.trans (Ex.new hD), fun _ z _ => z, gD, upd_same, .nil⟩ (fun j H' _ _ => trivial) ?_ ?_
    · rintro j x H' H'' hj ⟨G', vs, e1, e2, e3, e4, e5, e6, e7⟩ ⟨rfl, c, hc, rfl⟩
      have ec : s.cps.getD j 0 = c := by
        rw [Array.getD_eq_getD_getElem?, hc]
        rfl
      refine ⟨?_, ?_⟩
      · show (((σ.set i none)).set i (some _)).set i none = σ.set i none
        rw [List.set_set, List.set_set]
      · have fr1 : FrD K G' ((σ.set i none).set i (some (.str ⟨#[c]⟩))) ((sl.set i .no).set i (.d (sgD s j))) := by
          unfold sgD
          rw [ec]
          exact frd_set (.d (.str _)) i (frd_wipe i (FrD.mono (n1.g.trans e1) fr))
        have hd2 : es[j]? = some es[j] := List.getElem?_eq_getElem (by omega)
        refine he j es[j] hj hd2 G' H'' _ e3 fr1 _ fun u G2 H2 n2 r2 => ?_
        have g2D : G2 Dl = none := n2.f Dl e5 (by rw [e6]; intro z; cases z)
        have hl := e7.length
        refine ⟨vs, n2.h Dl _ e6, Nat.lt_of_lt_of_le (m := 100000) (by rw [hl, List.length_take]; omega) (by decide), G2, vs ++ [u], e1.trans n2.g, Evl.Ex.mut (e2.trans n2.h) hD, Evl.Ex.mut n2.k g2D, fun c c1 c2 => n2.f c (e4 c c1 c2) (ne_none e2 c2), g2D, upd_same, ?_⟩
        have et : es.take (j + 1) = es.take j ++ [es[j]] := by
          rw [List.take_add_one, hd2]
          rfl
        rw [et]
        exact (e7.mono n2.g).snoc r2
    · rintro H' ⟨G', vs, e1, e2, e3, e4, e5, e6, e7⟩
      rw [← hes, List.take_length] at e7
      refine q _ (upd G' Dl (.lst vs)) H' (n1.trans ⟨e1.trans (Ex.new e5), e2, fun b o hb => ?_, fun c c1 c2 => ?_⟩) (.lst (.inl (.inl upd_same)) (e7.mono (Ex.new e5)))
      · by_cases z : b = Dl
        · subst z
          rw [upd_same] at hb
          rw [e6]
          exact hb
        · rw [upd_ne z] at hb
          exact e3 _ _ hb
      · by_cases z : c = Dl
        · subst z
          exact absurd hD c2
        · rw [upd_ne z]
          exact e4 c c1 c2
theorem r2_sgIn {K : PySem.W.Frag} {c : Nat} {z : Str} : R2D K (fun x y H Q => ∃ (c : Nat) (z : Str), x = .str ⟨#[c]⟩ ∧ y = .str z ∧ Q (.bl (decide (c ∈ z.cps.toList))) H) (.str ⟨#[c]⟩) (.str z) (.bl (decide (c ∈ z.cps.toList))) := fun G H k v w r1 r2 Q q => by
  cases r1
  cases r2
  exact ⟨c, z, rfl, rfl, q _ G H (.refl k) (.bl _)⟩
theorem rc_lenS {K : PySem.W.Frag} {z : Str} (h : z.length ≤ 100000) : RcD K (fun xs H Q => ∃ z, xs = [.str z] ∧ z.length ≤ sizeLine ∧ Q (.int z.length) H) [.str z] (.int (z.length : Nat)) := fun G H k vs r Q q => by
  obtain ⟨v, rfl, h1⟩ := rps1 r
  cases h1
  exact ⟨z, rfl, sz_ok h, q _ G H (.refl k) (.int _)⟩
theorem kb_strT (x : Dt) : ∃ b, kitB (tyN x) "str" = some b ∧ (b = true ↔ ∃ s, x = .str s) := by
  cases x with
  | str s => exact ⟨true, (by simp only [tyN]; decide +kernel), by simp⟩
  | _ => exact ⟨false, (by simp only [tyN]; decide +kernel), by simp⟩
abbrev abcS : Str := "abcdefghijklmnopqrstuvwxyz"
def isNm : Dt → Bool
  | .str s => (decide (1 ≤ s.length) && decide (s.length ≤ 8)) && s.cps.toList.all fun c => decide (c ∈ abcS.cps.toList)
  | _ => false
/-! ### classes and their methods -/
theorem fldK {X : Cx} {K : PySem.W.Frag} {e : Expr} {f : Str} {pos : Pos} {ta : TE} (eK : X.K = K) (he : PE X e ta) (hb : attributeBase e f X.env (eval e X.env) = eval e X.env) : PE X (.Attribute e f pos) (tFld K ta f) := eK ▸ pe_fld he hb
theorem sfldK {X : Cx} {K : PySem.W.Frag} {o value : Expr} {f : Str} {pos pos' : Pos} {ta tv : TE} (eK : X.K = K) (ha : PE X o ta) (hv : PE X value tv) (hs : swapsWith value (some (.Attribute o f pos')) pos.line X.env = pure false) : PS X (.Assign [.Attribute o f pos'] value pos) (sFld K ta tv f) := eK ▸ ps_fld ha hv hs
structure DdM (K : PySem.W.Frag) (C : Addr) (m q : Str) (st : Stmt) (ps : List Str) : Prop where
  ex : ∃ (f : Addr) (fd : FuncData), Fun K m q st f fd ∧ Meth K C m f ∧ Binds K fd ps []
structure DdI (K : PySem.W.Frag) (C : Addr) (q : Str) (st : Stmt) (ps : List Str) : Prop where
  ex : ∃ (f : Addr) (fd : FuncData), Fun K "__init__" q st f fd ∧ Mk K C f ∧ Binds K fd ps []
structure HasM (P : Program) (w : World) (K : PySem.W.Frag) (mg : Str → Option Value) (base : Heap) (CX : CXT) (k : Nat) (C : Addr) (m : Str) (ps : List Str) (sp : L2.Sp) : Prop where
  ex : ∃ (f : Addr) (fd : FuncData), FnOk P w K mg base CX k f fd ps sp ∧ Meth K C m f ∧ Binds K fd ps []
structure HasI (P : Program) (w : World) (K : PySem.W.Frag) (mg : Str → Option Value) (base : Heap) (CX : CXT) (k : Nat) (C : Addr) (ps : List Str) (sp : L2.Sp) : Prop where
  ex : ∃ (f : Addr) (fd : FuncData), FnOk P w K mg base CX k f fd ps sp ∧ Mk K C f ∧ Binds K fd ps []
section
variable {P : Program} {w : World} {K : PySem.W.Frag} {mg : Str → Option Value} {base : Heap} {m q : Str} {st : Stmt} {N ps : List Str} {k : Nat} {C : Addr}
theorem DdM.any {sp : L2.Sp} {t : TS} (D : DdM K C m q st ps) (S : FnScope N ps (defScope st)) (hl : ∀ vs H Q E, sp vs H Q E → vs.length = ps.length)
    (h1 : ∀ (f : Addr) (cdv : Value) (A : Around) (outer : List Env) (s : Shared) (H : Hp) (E : XK), Room k (A.deeper (envOfC q (defScope st) s.heap.objs.size f cdv)) → PSs (cxOf CX0 P w K mg base N q (defScope st) f cdv A outer s H E).nox (defBody st) t)
    (h2 : ∀ vs H Q E, sp vs H Q E → t { nx := fun _ H' => Q .non H', rt := Q } (L2.start N vs) H) : HasM P w K mg base CX0 (k + 1) C m ps sp := by
  obtain ⟨f, fd, F, hm, b⟩ := D.ex
  exact ⟨f, fd, F.ok S hl (fun cdv A outer s H vs Q E hr h => ⟨t, h1 f cdv A outer s H E hr, h2 vs H Q E h⟩), hm, b⟩
theorem DdM.anyX {sp : L2.Sp} {t : XK → TS} (D : DdM K C m q st ps) (S : FnScope N ps (defScope st)) (hl : ∀ vs H Q E, sp vs H Q E → vs.length = ps.length)
    (h1 : ∀ (f : Addr) (cdv : Value) (A : Around) (outer : List Env) (s : Shared) (H : Hp) (E : XK), Room k (A.deeper (envOfC q (defScope st) s.heap.objs.size f cdv)) → PSs (cxOf (L2.CX P w) P w K mg base N q (defScope st) f cdv A outer s H E) (defBody st) (t E))
    (h2 : ∀ vs H Q E, sp vs H Q E → t E { nx := fun _ H' => Q .non H', rt := Q } (L2.start N vs) H) : HasM P w K mg base (L2.CX P w) (k + 1) C m ps sp := by
  obtain ⟨f, fd, F, hm, b⟩ := D.ex
  exact ⟨f, fd, F.okX S hl (fun cdv A outer s H vs Q E hr h => ⟨t E, h1 f cdv A outer s H E hr, h2 vs H Q E h⟩), hm, b⟩
theorem DdI.any {sp : L2.Sp} {t : TS} (D : DdI K C q st ps) (S : FnScope N ps (defScope st)) (hl : ∀ vs H Q E, sp vs H Q E → vs.length = ps.length)
    (h1 : ∀ (f : Addr) (cdv : Value) (A : Around) (outer : List Env) (s : Shared) (H : Hp) (E : XK), Room k (A.deeper (envOfC q (defScope st) s.heap.objs.size f cdv)) → PSs (cxOf CX0 P w K mg base N q (defScope st) f cdv A outer s H E).nox (defBody st) t)
    (h2 : ∀ vs H Q E, sp vs H Q E → t { nx := fun _ H' => Q .non H', rt := Q } (L2.start N vs) H) : HasI P w K mg base CX0 (k + 1) C ps sp := by
  obtain ⟨f, fd, F, hm, b⟩ := D.ex
  exact ⟨f, fd, F.ok S hl (fun cdv A outer s H vs Q E hr h => ⟨t, h1 f cdv A outer s H E hr, h2 vs H Q E h⟩), hm, b⟩
end
section
variable {X : Cx} {CX : CXT} {k j : Nat} {x m : Str} {ps : List Str} {sp : L2.Sp} {p pos apos : Pos} {o e : Expr} {es : List Expr} {ta : TE} {t : TA} {E : XK} {C : Addr}
theorem pe_mh {pl : Sem Bool} (c : HasM X.prog X.w X.K X.mg X.base CX k C m ps sp) (cl : Cls X.K C) (hr : Room j X.A) (hk : k ≤ j) (hx : Passes CX X E) (ho : PE X o ta) (ha : PA X (e :: es) t)
    (hst : starEach (e :: es) X.env = (false, eval e X.env) :: starEach es X.env := by rfl) (hpl : (backTo pos (starEach es X.env)).any (·.1) = false := by rfl)
    (ht : eval (.Call (.Attribute o m apos) (e :: es) [] pos) X.env = (do
      let ov ← eval o X.env
      standAt apos.atName
      let (f, first) ← holding [ov] (getMethod ov m pl)
      callWith pos f first (backTo pos (starEach (e :: es) X.env)) (backToKw pos (keywordEach [] X.env))) := by rfl) :
    PE X (.Call (.Attribute o m apos) (e :: es) [] pos) (tMeth C m sp [] E ta t) := by
  obtain ⟨f, fd, F, hm, b⟩ := c.ex
  exact pe_meth ho cl hm F (hr.mono hk) b .nil hx ha hst hpl ht
theorem pe_mh0 {pl : Sem Bool} (c : HasM X.prog X.w X.K X.mg X.base CX k C m ps sp) (cl : Cls X.K C) (hr : Room j X.A) (hk : k ≤ j) (hx : Passes CX X E) (ho : PE X o ta)
    (ht : eval (.Call (.Attribute o m apos) [] [] pos) X.env = (do
      let ov ← eval o X.env
      standAt apos.atName
      let (f, first) ← holding [ov] (getMethod ov m pl)
      callWith pos f first (backTo pos (starEach [] X.env)) (backToKw pos (keywordEach [] X.env))) := by rfl) :
    PE X (.Call (.Attribute o m apos) [] [] pos) (tMeth C m sp [] E ta tNil) := by
  obtain ⟨f, fd, F, hm, b⟩ := c.ex
  exact pe_meth0 ho cl hm F (hr.mono hk) b .nil hx ht
theorem pe_mkB (c : HasI X.prog X.w X.K X.mg X.base CX0 k C ps sp) (hm : X.mg x = some (.ref C)) (hr : Room j X.A) (hk : k + 1 ≤ j) (hg : Gl X x := by rfl)
    (hdb : (x == ("__debug__" : Str)) = false := by decide) : PE X (.Call (.Name x p) [] [] pos) (tMake C sp [] E0 tNil) := by
  obtain ⟨f, fd, F, hM, b⟩ := c.ex
  exact pe_make0 hM F (hr.mono hk) hg hm b .nil pass0 hdb
end
/-! ### what a bench holds -/
abbrev Hps := List (Str × (Rat × Rat))
structure Bst where
  haps : Hps
  speed : Rat
  past : List (Hps × Rat)
section
variable (K : PySem.W.Frag)
def KvR (G : Hp) (q : Str × (Rat × Rat)) (p : Key × V) : Prop := p.1 = .inr q.1 ∧ Rp K G p.2 (hpD q.2)
def DicAt (G : Hp) (a : Addr) (hs : Hps) : Prop := ∃ kvs : List (Key × V), G a = some (.dK kvs) ∧ Paired (KvR K G) hs kvs
def PstR (G : Hp) (e : Hps × Rat) (v : V) : Prop := ∃ q a s, v = .ref q ∧ SqX K G q [.ref a, s] ∧ DicAt K G a e.1 ∧ Rp K G s (fq e.2)
def flds (a : Addr) (s : V) (p : Addr) : List (Str × V) := putF "_past" (.ref p) (putF "_speed" s (putF "_haps" (.ref a) []))
structure BnAt (C x p : Addr) (G H : Hp) (b : Bst) : Prop where
  ex : ∃ dx a s pv, H x = some (.ins C dx (flds a s p)) ∧ DicAt K G a b.haps ∧ Rp K G s (fq b.speed) ∧ H p = some (.lst pv) ∧ Paired (PstR K G) b.past pv
  gx : G x = none
  gp : G p = none
end
theorem kf1 : ¬ (("_haps" : Str) = "_speed") := by decide +kernel
theorem kf2 : ¬ (("_haps" : Str) = "_past") := by decide +kernel
theorem kf3 : ¬ (("_speed" : Str) = "_past") := by decide +kernel
theorem flds_eq (a : Addr) (s : V) (p : Addr) : flds a s p = ([("_haps", V.ref a), ("_speed", s), ("_past", .ref p)] : List (Str × V)) := by
  unfold flds
  simp only [putF, if_neg kf1, if_neg kf2, if_neg kf3]
theorem flds_haps (a : Addr) (s : V) (p : Addr) : (flds a s p).lookup ("_haps" : Str) = some (.ref a) := by
  unfold flds
  rw [lookup_putF, if_neg kf2, lookup_putF, if_neg kf1, lookup_putF, if_pos rfl]
theorem flds_speed (a : Addr) (s : V) (p : Addr) : (flds a s p).lookup ("_speed" : Str) = some s := by
  unfold flds
  rw [lookup_putF, if_neg kf3, lookup_putF, if_pos rfl]
theorem flds_past (a : Addr) (s : V) (p : Addr) : (flds a s p).lookup ("_past" : Str) = some (.ref p) := by
  unfold flds
  rw [lookup_putF, if_pos rfl]
theorem flds_no (a : Addr) (s : V) (p : Addr) {m : Str} (h1 : ¬ m = "_past") (h2 : ¬ m = "_speed") (h3 : ¬ m = "_haps") : (flds a s p).lookup m = none := by
  unfold flds
  rw [lookup_putF, if_neg h1, lookup_putF, if_neg h2, lookup_putF, if_neg h3]
  rfl
theorem flds_put1 (a a2 : Addr) (s : V) (p : Addr) : putF "_haps" (.ref a2) (flds a s p) = flds a2 s p := by
  rw [flds_eq, flds_eq]
  simp only [putF, if_true]
theorem flds_put2 (a : Addr) (s s2 : V) (p : Addr) : putF "_speed" s2 (flds a s p) = flds a s2 p := by
  rw [flds_eq, flds_eq]
  simp only [putF, if_neg kf1, if_true]
section
variable {K : PySem.W.Frag} {C x p : Addr} {G H G2 H2 : Hp} {b : Bst}
theorem DicAt.mono {a : Addr} {hs : Hps} (e : Ex G G2) (h : DicAt K G a hs) : DicAt K G2 a hs := by
  obtain ⟨kvs, h1, h2⟩ := h
  exact ⟨kvs, e _ _ h1, L2.Paired.mapP h2 fun _ _ ⟨r1, r2⟩ => ⟨r1, r2.mono e⟩⟩
theorem PstR.mono {q : Hps × Rat} {v : V} (e : Ex G G2) (h : PstR K G q v) : PstR K G2 q v := by
  obtain ⟨q, a, s, h1, h2, h3, h4⟩ := h
  exact ⟨q, a, s, h1, h2.mono e, h3.mono e, h4.mono e⟩
theorem BnAt.ne (h : BnAt K C x p G H b) : x ≠ p := by
  obtain ⟨dx, a, s, pv, h1, _, _, h2, _⟩ := h.ex
  exact ne_of h1 h2 (by intro z; cases z)
/-- what does not touch it leaves it as it was -/
theorem BnAt.nxP {us : List Addr} (h : BnAt K C x p G H b) (n : NxP us G H G2 H2) (hx : x ∉ us) (hp : p ∉ us) : BnAt K C x p G2 H2 b := by
  obtain ⟨dx, a, s, pv, h1, h2, h3, h4, h5⟩ := h.ex
  refine ⟨⟨dx, a, s, pv, n.h _ _ hx h1, h2.mono n.g, h3.mono n.g, n.h _ _ hp h4, L2.Paired.mapP h5 fun _ _ r => PstR.mono n.g r⟩, n.f _ h.gx (by rw [h1]; intro z; cases z), n.f _ h.gp (by rw [h4]; intro z; cases z)⟩
theorem BnAt.nx (h : BnAt K C x p G H b) (n : Nx G H G2 H2) : BnAt K C x p G2 H2 b := h.nxP (us := []) n.p (by simp) (by simp)
end
/-! ### a bench that is asked: its dict may be locked -/
def DicR (K : PySem.W.Frag) (G : Hp) (a : Addr) (hs : Hps) : Prop := ∃ kvs : List (Key × V), Rd G a (.dK kvs) ∧ Paired (KvR K G) hs kvs
structure BnR (K : PySem.W.Frag) (C x : Addr) (G H : Hp) (b : Bst) : Prop where
  ex : ∃ dx a s p, H x = some (.ins C dx (flds a s p)) ∧ DicR K G a b.haps ∧ Rp K G s (fq b.speed)
  gx : G x = none
section
variable {K : PySem.W.Frag} {C x p : Addr} {G H G2 H2 : Hp} {b : Bst}
theorem DicAt.r {a : Addr} {hs : Hps} (h : DicAt K G a hs) : DicR K G a hs := by
  obtain ⟨kvs, h1, h2⟩ := h
  exact ⟨kvs, .inl h1, h2⟩
theorem DicR.mono {a : Addr} {hs : Hps} (e : Ex G G2) (h : DicR K G a hs) : DicR K G2 a hs := by
  obtain ⟨kvs, h1, h2⟩ := h
  exact ⟨kvs, rd_mono e h1, L2.Paired.mapP h2 fun _ _ ⟨r1, r2⟩ => ⟨r1, r2.mono e⟩⟩
theorem BnAt.r (h : BnAt K C x p G H b) : BnR K C x G H b := by
  obtain ⟨dx, a, s, pv, h1, h2, h3, _⟩ := h.ex
  exact ⟨⟨dx, a, s, p, h1, h2.r, h3⟩, h.gx⟩
theorem BnR.nxP {us : List Addr} (h : BnR K C x G H b) (n : NxP us G H G2 H2) (hx : x ∉ us) : BnR K C x G2 H2 b := by
  obtain ⟨dx, a, s, p, h1, h2, h3⟩ := h.ex
  exact ⟨⟨dx, a, s, p, n.h _ _ hx h1, h2.mono n.g, h3.mono n.g⟩, n.f _ h.gx (by rw [h1]; intro z; cases z)⟩
theorem BnR.nx (h : BnR K C x G H b) (n : Nx G H G2 H2) : BnR K C x G2 H2 b := h.nxP (us := []) n.p (by simp)
end
theorem stb_br {K : PySem.W.Frag} {C x : Addr} {b : Bst} : ∀ G H G2 H2, BnR K C x G H b → Nx G H G2 H2 → BnR K C x G2 H2 b := fun _ _ _ _ h n => h.nx n
/-! ### expressions, where a world S of things that may change stands -/
def Stb (S : Hp → Hp → Prop) : Prop := ∀ G H G2 H2, S G H → Nx G H G2 H2 → S G2 H2
theorem stb_bn {K : PySem.W.Frag} {C x p : Addr} {b : Bst} : Stb fun G H => BnAt K C x p G H b := fun _ _ _ _ h n => h.nx n
def Eb (K : PySem.W.Frag) (S : Hp → Hp → Prop) (te : TE) (sl : List Sl) (x : Dt) : Prop := ∀ (G H : Hp) (σ : L2.St), Ex G H → FrD K G σ sl → S G H → ∀ Q : VK, (∀ v G2 H2, Nx G H G2 H2 → Rp K G2 v x → Q v H2) → te σ H Q
def EbT (K : PySem.W.Frag) (S : Hp → Hp → Prop) (tt : TT) (sl : List Sl) (b : Bool) : Prop := ∀ (G H : Hp) (σ : L2.St), Ex G H → FrD K G σ sl → S G H → ∀ Q : Bool → Hp → Prop, (∀ G2 H2, Nx G H G2 H2 → Q b H2) → tt σ H Q
def EbA (K : PySem.W.Frag) (S : Hp → Hp → Prop) (ta : TA) (sl : List Sl) (xs : List Dt) : Prop := ∀ (G H : Hp) (σ : L2.St), Ex G H → FrD K G σ sl → S G H → ∀ Q : List V → Hp → Prop, (∀ vs G2 H2, Nx G H G2 H2 → Rps K G2 vs xs → Q vs H2) → ta σ H Q
section
variable {K : PySem.W.Frag} {S : Hp → Hp → Prop} {sl : List Sl} {ta tb te tc : TE} {tt uu : TT} {x y z : Dt} {r : R2} {tr : TA} {xs : List Dt} {E : XK} {b a : Bool}
theorem eb_ev (h : Ev K te sl x) : Eb K S te sl x := fun G H σ k f _ Q q => h G H σ k f Q q
theorem eb_is (h : Eb K S te sl x) (e : x = y) : Eb K S te sl y := e ▸ h
theorem eba_ev (h : EvA K tr sl xs) : EbA K S tr sl xs := fun G H σ k f _ Q q => h G H σ k f Q q
theorem eb_op (hS : Stb S) (ha : Eb K S ta sl x) (hb : Eb K S tb sl y) (hr : R2D K r x y z) : Eb K S (tOp r ta tb) sl z := fun G H σ k f s Q q =>
  ha G H σ k f s _ fun v G1 H1 n1 r1 => hb G1 H1 σ n1.k (FrD.mono n1.g f) (hS _ _ _ _ s n1) _ fun w G2 H2 n2 r2 => hr G2 H2 n2.k v w (r1.mono n2.g) r2 Q fun u G3 H3 n3 r3 => q u G3 H3 ((n1.trans n2).trans n3) r3
theorem eba_cons (hS : Stb S) (ha : Eb K S ta sl x) (hr : EbA K S tr sl xs) : EbA K S (tCons ta tr) sl (x :: xs) := fun G H σ k f s Q q =>
  ha G H σ k f s _ fun v G1 H1 n1 r1 => hr G1 H1 σ n1.k (FrD.mono n1.g f) (hS _ _ _ _ s n1) _ fun vs G2 H2 n2 r2 => q _ G2 H2 (n1.trans n2) (.cons (r1.mono n2.g) r2)
theorem eb_tup (h : EbA K S tr sl xs) (hn : xs.length ≤ 100000 := by exact Nat.le_of_ble_eq_true rfl) : Eb K S (tTup tr) sl (.tup xs) := fun G H σ k f s Q q =>
  h G H σ k f s _ fun vs G1 H1 n1 r1 => ⟨by rw [r1.length]; exact sz_ok hn, fun p o hp ho => q _ _ _ (n1.trans (.new n1.k hp)) (.tup (sqx_new ho) (r1.mono (Ex.new (free_of n1.k hp))))⟩
theorem eb_call {R : List Dt → Dt → Prop} (h : EbA K S tr sl xs) (hr : R xs x) : Eb K S (tCall (spP K R) [] E tr) sl x := fun G H σ k f s Q q =>
  h G H σ k f s _ fun vs G1 H1 n1 r1 => ⟨xs, x, G1, n1.k, rps_nil r1, hr, fun v G2 H2 n2 r2 => q v G2 H2 (n1.trans n2) r2⟩
theorem eb_callX {R : List Dt → Dt → Prop} {XF : List Dt → Value → Prop} (h : EbA K S tr sl xs) (hr : R xs x) : Eb K S (tCall (spX K R XF) [] E tr) sl x := fun G H σ k f s Q q =>
  h G H σ k f s _ fun vs G1 H1 n1 r1 => ⟨xs, G1, n1.k, rps_nil r1, .inl ⟨x, hr, fun v G2 H2 n2 r2 => q v G2 H2 (n1.trans n2) r2⟩⟩
theorem eb_cb {rc : List V → Hp → VK → Prop} (h : EbA K S tr sl xs) (hr : RcD K rc xs x) : Eb K S (tCB rc tr) sl x := fun G H σ k f s Q q =>
  h G H σ k f s _ fun vs G1 H1 n1 r1 => hr G1 H1 n1.k vs r1 Q fun u G2 H2 n2 r2 => q u G2 H2 (n1.trans n2) r2
theorem ebt_ev (h : EvT K tt sl b) : EbT K S tt sl b := fun G H σ k f _ Q q => h G H σ k f Q q
theorem ebt_is (h : EbT K S tt sl a) (e : a = b) : EbT K S tt sl b := e ▸ h
theorem ebt_test (h : Eb K S te sl (.bl b)) : EbT K S (tTest te) sl b := fun G H σ k f s Q q => h G H σ k f s _ fun v G2 H2 n r => by
  cases r
  exact ⟨b, rfl, q G2 H2 n⟩
theorem ebt_B (h : Eb K S te sl (.bl b)) : EbT K S (tB te) sl b := fun G H σ k f s Q q => h G H σ k f s _ fun v G2 H2 n r => by
  cases r
  exact ⟨b, rfl, q G2 H2 n⟩
theorem ebt_not (h : EbT K S tt sl b) : EbT K S (tNot tt) sl (!b) := fun G H σ k f s Q q => h G H σ k f s _ fun G2 H2 n => q G2 H2 n
end
/-! ### promises of methods -/
section
variable (K : PySem.W.Frag) (C : Addr)
def spMkB : L2.Sp := fun vs H Q _ => ∃ x dx G, vs = [.ref x] ∧ H x = some (.ins C dx []) ∧ Ex G H ∧ G x = none ∧
  ∀ p G2 H2, H p = none → NxP [x] G H G2 H2 → BnAt K C x p G2 H2 ⟨[], 0, []⟩ → Q .non H2
/-- a deed -/
def spBd (R : Bst → List Dt → Bst → Prop) (X : Bst → List Dt → Value → Prop) : L2.Sp := fun vs H Q E => ∃ x p ws ds b G, vs = .ref x :: ws ∧ Ex G H ∧ Rps K G ws ds ∧ BnAt K C x p G H b ∧
  ((∃ b', R b ds b' ∧ ∀ G2 H2, NxP [x, p] G H G2 H2 → BnAt K C x p G2 H2 b' → Q .non H2) ∨ (∃ c, X b ds c ∧ ∀ G2 H2, Nx G H G2 H2 → E c none H2))
/-- a question -/
def spBq (R : Bst → List Dt → Dt → Prop) (X : Bst → List Dt → Value → Prop) : L2.Sp := fun vs H Q E => ∃ x ws ds b G, vs = .ref x :: ws ∧ Ex G H ∧ Rps K G ws ds ∧ BnR K C x G H b ∧
  ((∃ d, R b ds d ∧ ∀ v G2 H2, Nx G H G2 H2 → Rp K G2 v d → Q v H2) ∨ (∃ c, X b ds c ∧ ∀ G2 H2, Nx G H G2 H2 → E c none H2))
def spDo : L2.Sp := fun vs H Q _ => ∃ x p a s b hs q G, vs = [.ref x, .ref a, s] ∧ Ex G H ∧ BnAt K C x p G H b ∧ DicAt K G a hs ∧ Rp K G s (fq q) ∧ b.past.length ≤ 90000 ∧
  ∀ G2 H2, NxP [x, p] G H G2 H2 → BnAt K C x p G2 H2 ⟨hs, q, b.past ++ [(b.haps, b.speed)]⟩ → Q .non H2
end
section
variable {K : PySem.W.Frag} {C x p : Addr} {G H G2 H2 : Hp} {b b' : Bst} {S : Hp → Hp → Prop} {sl : List Sl} {te : TE} {tr : TA} {xs : List Dt} {d : Dt} {E : XK} {i : Nat} {m : Str}
theorem paired_snoc {α β : Type} {F : α → β → Prop} : ∀ {l : List α} {r : List β} {a : α} {c : β}, Paired F l r → F a c → Paired F (l ++ [a]) (r ++ [c])
  | _, _, _, _, .nil, h => .cons h .nil
  | _, _, _, _, .cons h t, g => .cons h (paired_snoc t g)
/-- one deed more: the past grown, other haps, another speed -/
theorem BnAt.step (h : BnAt K C x p G H b) (k : Ex G H) {a : Addr} {hs : Hps} {s : V} {q : Rat} {dx a0 : Addr} {s0 : V} {pv : List V} (h1 : H x = some (.ins C dx (flds a0 s0 p))) (h2 : DicAt K G a0 b.haps) (h3 : Rp K G s0 (fq b.speed)) (h4 : H p = some (.lst pv)) (h5 : Paired (PstR K G) b.past pv)
    (ha : DicAt K G a hs) (hs' : Rp K G s (fq q)) {t : Addr} {o : Obj} (ht : H t = none) (ho : o.dict = none) :
    NxP [x, p] G H (upd G t (.frz o (.tup [.ref a0, s0]))) (upd (upd (upd H t (.frz o (.tup [.ref a0, s0]))) p (.lst (pv ++ [.ref t]))) x (.ins C dx (flds a s p))) ∧
    BnAt K C x p (upd G t (.frz o (.tup [.ref a0, s0]))) (upd (upd (upd H t (.frz o (.tup [.ref a0, s0]))) p (.lst (pv ++ [.ref t]))) x (.ins C dx (flds a s p))) ⟨hs, q, b.past ++ [(b.haps, b.speed)]⟩ := by
  have nxp := h.ne
  have ntx : x ≠ t := ne_of_none h1 ht
  have ntp : p ≠ t := ne_of_none h4 ht
  have gt : G t = none := free_of k ht
  have eg : Ex G (upd G t (.frz o (.tup [.ref a0, s0]))) := Ex.new gt
  refine ⟨⟨eg, fun c u e => ?_, fun c u hc e => ?_, fun c hc => ?_, fun c h1' h2' => ?_⟩, ⟨⟨dx, a, s, pv ++ [.ref t], upd_same, ha.mono eg, hs'.mono eg, by rw [upd_ne nxp.symm, upd_same], ?_⟩, ?_, ?_⟩⟩
  · by_cases z : c = t
    · subst z
      rw [upd_same] at e
      rw [upd_ne (Ne.symm ntx), upd_ne (Ne.symm ntp), upd_same]
      exact e
    · rw [upd_ne z] at e
      have cx : c ≠ x := fun y => by rw [y, h.gx] at e; cases e
      have cp : c ≠ p := fun y => by rw [y, h.gp] at e; cases e
      rw [upd_ne cx, upd_ne cp, upd_ne z]
      exact k _ _ e
  · have hc1 : c ≠ x := fun y => hc (by simp [y])
    have hc2 : c ≠ p := fun y => hc (by simp [y])
    rw [upd_ne hc1, upd_ne hc2, upd_ne (ne_of_none e ht)]
    exact e
  · by_cases z1 : c = x
    · rw [z1, upd_same]; intro z; cases z
    · rw [upd_ne z1]
      by_cases z2 : c = p
      · rw [z2, upd_same]; intro z; cases z
      · rw [upd_ne z2]
        by_cases z3 : c = t
        · rw [z3, upd_same]; intro z; cases z
        · rw [upd_ne z3]
          exact hc
  · by_cases z : c = t
    · rw [z] at h2'
      exact absurd ht h2'
    · rw [upd_ne z]
      exact h1'
  · refine paired_snoc (L2.Paired.mapP h5 fun _ _ r => PstR.mono eg r) ⟨t, a0, s0, rfl, sqx_new ho, h2.mono eg, h3.mono eg⟩
  · rw [upd_ne ntx]
    exact h.gx
  · rw [upd_ne ntp]
    exact h.gp
/-- a question within an expression -/
theorem eb_mq {R : Bst → List Dt → Dt → Prop} {XF : Bst → List Dt → Value → Prop} (hS : Stb S) (hB : ∀ G H, S G H → BnR K C x G H b) (hi : sl[i]? = some (.raw (.ref x))) (hm1 : ¬ m = "_past") (hm2 : ¬ m = "_speed") (hm3 : ¬ m = "_haps") (h : EbA K S tr sl xs) (hr : R b xs d) :
    Eb K S (tMeth C m (spBq K C R XF) [] E (tVar i) tr) sl d := fun G H σ k f s Q q => by
  obtain ⟨dx, a, sp, pq, h1, _⟩ := (hB G H s).ex
  refine ⟨.ref x, frd_raw f hi, x, dx, _, rfl, h1, flds_no _ _ _ hm1 hm2 hm3, ?_⟩
  exact h G H σ k f s _ fun vs G1 H1 n1 r1 => ⟨x, vs ++ [], xs, b, G1, rfl, n1.k, rps_nil r1, hB G1 H1 (hS _ _ _ _ s n1), .inl ⟨d, hr, fun v G2 H2 n2 r2 => q v G2 H2 (n1.trans n2) r2⟩⟩
/-- the speed, read -/
theorem eb_speed (hB : ∀ G H, S G H → BnR K C x G H b) (hc : Cls K C) (hn : NoAttr K C "_speed") (hi : sl[i]? = some (.raw (.ref x))) : Eb K S (tFld K (tVar i) "_speed") sl (fq b.speed) := fun G H σ k f s Q q => by
  obtain ⟨dx, a, sp, pq, h1, h2, h3⟩ := (hB G H s).ex
  exact ⟨.ref x, frd_raw f hi, x, C, dx, _, _, rfl, h1, hc, hn, flds_speed _ _ _, q _ G H (.refl k) h3⟩
end
/-! ### statements, where a world stands: from S to S2, what is at us may be written -/
def Bn (K : PySem.W.Frag) (us : List Addr) (S S2 : Hp → Hp → Prop) (ts : TS) (sl : List Sl) (N : List Sl → Prop) : Prop := ∀ (G H : Hp) (σ : L2.St), Ex G H → FrD K G σ sl → S G H → ∀ D : Ends, (∀ σ2 sl2 G2 H2, N sl2 → NxP us G H G2 H2 → S2 G2 H2 → FrD K G2 σ2 sl2 → D.nx σ2 H2) → ts D σ H
section
variable {K : PySem.W.Frag} {us : List Addr} {S S1 S2 : Hp → Hp → Prop} {t u : TS} {sl sl1 sl2 : List Sl} {N M : List Sl → Prop} {tc : TT} {te : TE} {C : Addr} {b b' : Bst} {tr : TA} {xs : List Dt} {E : XK} {i : Nat} {m : Str}
theorem bn_seq (h : Bn K us S S1 t sl M) (g : ∀ s, M s → Bn K us S1 S2 u s N) : Bn K us S S2 (tSeq t u) sl N := fun G H σ k f s D q =>
  h G H σ k f s _ fun σ1 sl1 G1 H1 m1 n1 s1 f1 => g sl1 m1 G1 H1 σ1 n1.k f1 s1 D fun σ2 sl2 G2 H2 m2 n2 s2 f2 => q σ2 sl2 G2 H2 m2 (n1.trans n2) s2 f2
theorem bn_nt (hS : Stb S) (h : Nt K t sl sl1) (g : N sl1) : Bn K us S S t sl N := fun G H σ k f s D q =>
  h G H σ k f _ fun σ1 G1 H1 n1 f1 => q σ1 sl1 G1 H1 g n1.p (hS _ _ _ _ s n1) f1
theorem bn_imp {N2 : List Sl → Prop} (h : Bn K us S S2 t sl N) (w : ∀ s, N s → N2 s) : Bn K us S S2 t sl N2 := fun G H σ k f s D q => h G H σ k f s D fun σ2 sl2 G2 H2 h2 => q σ2 sl2 G2 H2 (w sl2 h2)
/-- a test that is never true -/
theorem bn_no (hS : Stb S) (h : EbT K S tc sl false) (g : N sl) : Bn K us S S (tIfS tc t tNext) sl N := fun G H σ k f s D q =>
  h G H σ k f s _ fun G1 H1 n1 => q σ sl G1 H1 g n1.p (hS _ _ _ _ s n1) (FrD.mono n1.g f)
theorem bn_asg (hS : Stb S) (h : Eb K S te sl x) (g : N (sl.set i (.d x))) : Bn K us S S (tAsg te (gName i)) sl N := fun G H σ k f s D q =>
  h G H σ k f s _ fun v G1 H1 n1 r1 => q _ _ G1 H1 g n1.p (hS _ _ _ _ s n1) (frd_set (.d r1) i (FrD.mono n1.g f))
/-- a deed as a statement -/
theorem bn_deed {x p : Addr} {R : Bst → List Dt → Bst → Prop} {XF : Bst → List Dt → Value → Prop} (hS : Stb S) (hB : ∀ G H, S G H → BnAt K C x p G H b) (hi : sl[i]? = some (.raw (.ref x))) (hm1 : ¬ m = "_past") (hm2 : ¬ m = "_speed") (hm3 : ¬ m = "_haps") (h : EbA K S tr sl xs) (hr : R b xs b')
    (hu : x ∈ us ∧ p ∈ us) (hS2 : ∀ G H G2 H2, S G H → NxP [x, p] G H G2 H2 → BnAt K C x p G2 H2 b' → S2 G2 H2) (g : N sl) : Bn K us S S2 (tDrop (tMeth C m (spBd K C R XF) [] E (tVar i) tr)) sl N := fun G H σ k f s D q => by
  obtain ⟨dx, a, sp, pv, h1, _⟩ := (hB G H s).ex
  refine ⟨.ref x, frd_raw f hi, x, dx, _, rfl, h1, flds_no _ _ _ hm1 hm2 hm3, ?_⟩
  refine h G H σ k f s _ fun vs G1 H1 n1 r1 => ⟨x, p, vs ++ [], xs, b, G1, rfl, n1.k, rps_nil r1, hB G1 H1 (hS _ _ _ _ s n1), .inl ⟨b', hr, fun G2 H2 n2 b2 => ?_⟩⟩
  have n2' : NxP us G1 H1 G2 H2 := ⟨n2.g, n2.k, fun c o hc e => n2.h c o (fun z => hc (by
    simp only [List.mem_cons, List.not_mem_nil, or_false] at z
    rcases z with rfl | rfl
    · exact hu.1
    · exact hu.2)) e, n2.t, n2.f⟩
  exact q σ sl G2 H2 g (n1.p.trans n2') (hS2 _ _ _ _ (hS _ _ _ _ s n1) n2 b2) (FrD.mono (n1.g.trans n2.g) f)
end
/-! ### a dict of haps -/
def getH (hs : Hps) (n : Str) : Option (Rat × Rat) := (hs.find? fun q => decide (q.1 = n)).map (·.2)
def putH (hs : Hps) (n : Str) (q : Rat × Rat) : Hps := if (hs.any fun e => decide (e.1 = n)) = true then hs.map (fun e => if e.1 = n then (e.1, q) else e) else hs ++ [(n, q)]
def dropH (hs : Hps) (n : Str) : Hps := hs.filter fun e => decide (e.1 ≠ n)
section
variable {K : PySem.W.Frag} {G H : Hp}
theorem kv_dec {q : Str × (Rat × Rat)} {p : Key × V} {n : Str} (h : KvR K G q p) : decide (p.1 = .inr n) = decide (q.1 = n) := by
  rw [h.1]
  exact decide_eq_decide.mpr ⟨fun e => by cases e; rfl, fun e => by rw [e]⟩
theorem pair_get : ∀ {hs : Hps} {kvs : List (Key × V)} (n : Str), Paired (KvR K G) hs kvs → (getH hs n = none ∧ valV kvs (.inr n : Key) = none) ∨ ∃ q v, getH hs n = some q ∧ valV kvs (.inr n : Key) = some v ∧ Rp K G v (hpD q)
  | _, _, n, .nil => .inl ⟨rfl, rfl⟩
  | q :: hs, p :: kvs, n, .cons h t => by
    have e := kv_dec (n := n) h
    unfold getH valV
    rw [List.find?_cons, List.find?_cons, e]
    cases d : decide (q.1 = n) with
    | true => exact .inr ⟨q.2, p.2, rfl, rfl, h.2⟩
    | false => exact pair_get n t
theorem pair_any : ∀ {hs : Hps} {kvs : List (Key × V)} (n : Str), Paired (KvR K G) hs kvs → (kvs.any fun kv => decide (kv.1 = (.inr n : Key))) = hs.any fun e => decide (e.1 = n)
  | _, _, n, .nil => rfl
  | q :: hs, p :: kvs, n, .cons h t => by
    rw [List.any_cons, List.any_cons, kv_dec h, pair_any n t]
theorem pair_set : ∀ {hs : Hps} {kvs : List (Key × V)} (n : Str) {q : Rat × Rat} {v : V}, Paired (KvR K G) hs kvs → Rp K G v (hpD q) → Paired (KvR K G) (hs.map fun e => if e.1 = n then (e.1, q) else e) (kvs.map fun kv => if kv.1 = (.inr n : Key) then (kv.1, v) else kv)
  | _, _, n, _, _, .nil, _ => .nil
  | q :: hs, p :: kvs, n, _, _, .cons h t, r => by
    rw [List.map_cons, List.map_cons]
    refine .cons ?_ (pair_set n t r)
    have e := kv_dec (n := n) h
    by_cases z : q.1 = n
    · rw [decide_eq_true z] at e
      rw [if_pos z, if_pos (of_decide_eq_true e)]
      exact ⟨h.1, r⟩
    · rw [decide_eq_false z] at e
      rw [if_neg z, if_neg (of_decide_eq_false e)]
      exact h
theorem pair_put {hs : Hps} {kvs : List (Key × V)} (n : Str) {q : Rat × Rat} {v : V} (h : Paired (KvR K G) hs kvs) (r : Rp K G v (hpD q)) : Paired (KvR K G) (putH hs n q) (putK kvs (.inr n : Key) v) := by
  unfold putH putK
  rw [pair_any n h]
  split
  · exact pair_set n h r
  · exact paired_snoc h ⟨rfl, r⟩
theorem pair_drop : ∀ {hs : Hps} {kvs : List (Key × V)} (n : Str), Paired (KvR K G) hs kvs → Paired (KvR K G) (dropH hs n) (dropK kvs (.inr n : Key))
  | _, _, n, .nil => .nil
  | q :: hs, p :: kvs, n, .cons h t => by
    have e := kv_dec (n := n) h
    have ih := pair_drop n t
    unfold dropH dropK at *
    by_cases z : q.1 = n
    · rw [decide_eq_true z] at e
      rw [List.filter_cons_of_neg (by simp [z]), List.filter_cons_of_neg (by simp [of_decide_eq_true e])]
      exact ih
    · rw [decide_eq_false z] at e
      rw [List.filter_cons_of_pos (by simp [z]), List.filter_cons_of_pos (by simp [of_decide_eq_false e])]
      exact .cons h ih
end
/-! ### defs that may raise, where a world stands -/
def By (K : PySem.W.Frag) (us : List Addr) (S S2 : Hp → Hp → Prop) (ts : XK → TS) (sl : List Sl) (x : Option Dt) (cls : Value) : Prop := ∀ (G H : Hp) (σ : L2.St), Ex G H → FrD K G σ sl → S G H → ∀ (D : Ends) (E : XK), (∀ d, x = some d → ∀ v G2 H2, NxP us G H G2 H2 → S2 G2 H2 → Rp K G2 v d → D.rt v H2) → (x = some .non → ∀ σ2 G2 H2, NxP us G H G2 H2 → S2 G2 H2 → D.nx σ2 H2) → (x = none → ∀ G2 H2, Nx G H G2 H2 → E cls none H2) → ts E D σ H
section
variable {K : PySem.W.Frag} {us : List Addr} {S S1 S2 : Hp → Hp → Prop} {t : TS} {u r : XK → TS} {sl sl1 sl2 : List Sl} {N M : List Sl → Prop} {tc : TT} {te : TE} {C : Addr} {tr : TA} {xs : List Dt} {i : Nat} {x : Option Dt} {d : Dt} {c : Value}
theorem by_no (hS : Stb S) (h : EbT K S tc sl false) (g : By K us S S2 u sl x c) : By K us S S2 (fun E => tSeq (tIfS tc (r E) tNext) (u E)) sl x c := fun G H σ k f s D E q1 q2 q3 =>
  h G H σ k f s _ fun G1 H1 n1 => g G1 H1 σ n1.k (FrD.mono n1.g f) (hS _ _ _ _ s n1) D E (fun d e v G2 H2 n2 => q1 d e v G2 H2 (n1.p.trans n2)) (fun e σ2 G2 H2 n2 => q2 e σ2 G2 H2 (n1.p.trans n2)) fun e G2 H2 n2 => q3 e G2 H2 (n1.trans n2)
theorem by_raise (h : EbT K S tc sl true) : By K us S S2 (fun E => tSeq (tIfS tc (tRs C E) tNext) (u E)) sl none (.ref C) := fun G H σ k f s D E q1 q2 q3 =>
  h G H σ k f s _ fun G1 H1 n1 => q3 rfl G1 H1 n1
theorem by_ok {R : List Dt → Dt → Prop} {XF : List Dt → Value → Prop} (hS : Stb S) (h : EbA K S tr sl xs) (hr : R xs d) (g : By K us S S2 u sl x c) : By K us S S2 (fun E => tSeq (tDrop (tCall (spX K R XF) [] E tr)) (u E)) sl x c := fun G H σ k f s D E q1 q2 q3 =>
  h G H σ k f s _ fun vs G1 H1 n1 r1 => ⟨xs, G1, n1.k, rps_nil r1, .inl ⟨d, hr, fun v G2 H2 n2 r2 => g G2 H2 σ n2.k (FrD.mono (n1.g.trans n2.g) f) (hS _ _ _ _ (hS _ _ _ _ s n1) n2) D E (fun d e v G3 H3 n3 => q1 d e v G3 H3 ((n1.trans n2).p.trans n3)) (fun e σ2 G3 H3 n3 => q2 e σ2 G3 H3 ((n1.trans n2).p.trans n3)) fun e G3 H3 n3 => q3 e G3 H3 ((n1.trans n2).trans n3)⟩⟩
theorem by_out {R : List Dt → Dt → Prop} {XF : List Dt → Value → Prop} (h : EbA K S tr sl xs) (hX : XF xs c) : By K us S S2 (fun E => tSeq (tDrop (tCall (spX K R XF) [] E tr)) (u E)) sl none c := fun G H σ k f s D E q1 q2 q3 =>
  h G H σ k f s _ fun vs G1 H1 n1 r1 => ⟨xs, G1, n1.k, rps_nil r1, .inr ⟨c, hX, fun G2 H2 n2 => q3 rfl G2 H2 (n1.trans n2)⟩⟩
theorem by_end (h : ∀ E, Bn K us S S2 (u E) sl N) : By K us S S2 u sl (some .non) c := fun G H σ k f s D E q1 q2 q3 =>
  h E G H σ k f s D fun σ2 sl2 G2 H2 m2 n2 s2 f2 => q2 rfl σ2 G2 H2 n2 s2
theorem by_ret {te : XK → TE} (hS : Stb S) (h : ∀ E, Eb K S (te E) sl d) : By K us S S (fun E => tRet (te E)) sl (some d) c := fun G H σ k f s D E q1 q2 q3 =>
  h E G H σ k f s _ fun v G2 H2 n2 r2 => q1 d rfl v G2 H2 n2.p (hS _ _ _ _ s n2) r2
/-- a copy of the haps, one put, handed on -/
theorem bn_put {C x p : Addr} {b : Bst} {n : Str} {q : Rat × Rat} {E : XK} (hc : Cls K C) (h1 : NoAttr K C "_haps") (h2 : NoAttr K C "_speed") (hl : b.haps.length ≤ 90000) (hp : b.past.length ≤ 90000) :
    Bn K [x, p] (fun G H => BnAt K C x p G H b) (fun G H => BnAt K C x p G H ⟨putH b.haps n q, b.speed, b.past ++ [(b.haps, b.speed)]⟩) (tSeq (tAsg (tBM0 K "dict" rCopyD (tFld K (tVar 0) "_haps")) (gName 3)) (tSeq (sDPut (tVar 3) (tVar 1) (tVar 2)) (tDrop (tMeth C "_do" (spDo K C) [] E (tVar 0) (tCons (tVar 3) (tCons (tFld K (tVar 0) "_speed") tNil)))))) [.raw (.ref x), .d (.str n), .d (hpD q), .no] fun _ => True := fun G H σ k f s D qq => by
  obtain ⟨dx, a, sp, pv, e1, ⟨kvs, e2, e3⟩, e4, e5, e6⟩ := s.ex
  have lk : kvs.length = b.haps.length := (Paired.length e3).symm
  have fx := frd_raw (i := 0) f rfl
  obtain ⟨vn, fn, rn⟩ := frd_get (i := 1) f rfl
  obtain ⟨vq, fq', rq⟩ := frd_get (i := 2) f rfl
  cases rn
  have hlen : σ.length = 4 := (Paired.length f)
  refine ⟨_, fx, x, C, dx, _, _, rfl, e1, hc, h1, flds_haps _ _ _, ⟨.inr (.inr (.inl ⟨rfl, .inl ⟨kvs, k _ _ e2⟩⟩)), a, kvs, rfl, rfl, k _ _ e2, fun a2 ha2 => ?_⟩⟩
  have nxa : x ≠ a2 := ne_of_none e1 ha2
  have npa : p ≠ a2 := ne_of_none e5 ha2
  have ga2 : G a2 = none := free_of k ha2
  refine ⟨vq, by rw [List.getElem?_set_ne (by decide)]; exact fq', .ref a2, by rw [List.getElem?_set_self (by omega)], .str n, by rw [List.getElem?_set_ne (by decide)]; exact fn, a2, _, rfl, DPut.k (k := .inr n) upd_same (by rw [lk]; exact Nat.lt_of_le_of_lt hl (Nat.lt_of_lt_of_le (m := 100000) (by decide) (by decide))), ?_⟩
  rw [upd_upd]
  have pr := pair_put n e3 rq
  have nn : Nx G H (upd G a2 (.dK (putK kvs (.inr n) vq))) (upd H a2 (.dK (putK kvs (.inr n) vq))) := .new k ha2
  have hB2 := s.nx nn
  have hx2 : upd H a2 (.dK (putK kvs (.inr n) vq)) x = some (.ins C dx (flds a sp p)) := by rw [upd_ne nxa]; exact e1
  refine ⟨_, by rw [List.getElem?_set_ne (by decide)]; exact fx, x, dx, _, rfl, hx2, flds_no _ _ _ (by decide +kernel) (by decide +kernel) (by decide +kernel), ?_⟩
  refine ⟨.ref a2, by rw [List.getElem?_set_self (by omega)], _, by rw [List.getElem?_set_ne (by decide)]; exact fx, x, C, dx, _, _, rfl, hx2, hc, h2, flds_speed _ _ _, ?_⟩
  refine ⟨x, p, a2, sp, b, putH b.haps n q, b.speed, _, rfl, nn.k, hB2, ⟨_, upd_same, L2.Paired.mapP pr fun _ _ ⟨r1, r2⟩ => ⟨r1, r2.mono nn.g⟩⟩, e4.mono nn.g, hp, fun G2 H2 n2 b2 => ?_⟩
  exact qq _ [.raw (.ref x), .d (.str n), .d (hpD q), .no] G2 H2 trivial (nn.p.trans n2) b2 (frd_wk (FrD.mono (nn.g.trans n2.g) (frd_set (.raw (.ref a2)) 3 f)) (.cons (.same _) (.cons (.same _) (.cons (.same _) (.cons (.no _) .nil)))))
end
section
variable {K : PySem.W.Frag} {S : Hp → Hp → Prop} {sl : List Sl} {ty : TE} {C x p : Addr} {b : Bst} {i : Nat} {n : Str} {q : Rat × Rat} {tt uu : TT} {a c : Bool}
theorem eb_dnotin (hB : ∀ G H, S G H → BnR K C x G H b) (hS : Stb S) (hc : Cls K C) (hn : NoAttr K C "_haps") (hi : sl[i]? = some (.raw (.ref x))) (h : Ev K ty sl (.str n)) : Eb K S (tDNotIn ty (tFld K (tVar i) "_haps")) sl (.bl (!(getH b.haps n).isSome)) := fun G H σ k f s Q qq =>
  h G H σ k f _ fun v G1 H1 n1 r1 => by
    cases r1
    obtain ⟨dx, a, sp, pq, e1, ⟨kvs, e2, e3⟩, _⟩ := (hB _ _ (hS _ _ _ _ s n1)).ex
    refine ⟨.ref x, frd_raw (FrD.mono n1.g f) hi, x, C, dx, _, _, rfl, e1, hc, hn, flds_haps _ _ _, a, _, rfl, DGet.r (k := .inr n) (rd_mono n1.k e2), ?_⟩
    have e : (valV kvs (.inr n : Key)).isSome = (getH b.haps n).isSome := by
      rcases pair_get n e3 with ⟨h1, h2⟩ | ⟨_, _, h1, h2, _⟩ <;> rw [h1, h2] <;> rfl
    rw [e]
    exact qq _ G1 H1 n1 (.bl _)
theorem eb_dget (hB : ∀ G H, S G H → BnR K C x G H b) (hc : Cls K C) (hn : NoAttr K C "_haps") (hi : sl[i]? = some (.raw (.ref x))) (h : Ev K ty sl (.str n)) (hq : getH b.haps n = some q) : Eb K S (tDGet (tFld K (tVar i) "_haps") ty) sl (hpD q) := fun G H σ k f s Q qq => by
  obtain ⟨dx, a, sp, pq, e1, ⟨kvs, e2, e3⟩, _⟩ := (hB _ _ s).ex
  refine ⟨.ref x, frd_raw f hi, x, C, dx, _, _, rfl, e1, hc, hn, flds_haps _ _ _, ?_⟩
  refine h G H σ k f _ fun v G1 H1 n1 r1 => ?_
  cases r1
  rcases pair_get n e3 with ⟨h1, _⟩ | ⟨q2, v, h1, h2, h3⟩
  · rw [h1] at hq
    cases hq
  · rw [h1] at hq
    cases hq
    exact ⟨a, v, rfl, h2 ▸ DGet.r (k := .inr n) (rd_mono (fun c o z => n1.h c o z) (rd_mono k e2)), qq v G1 H1 n1 (h3.mono n1.g)⟩
theorem eb_lenH (hB : ∀ G H, S G H → BnR K C x G H b) (hc : Cls K C) (hn : NoAttr K C "_haps") (hi : sl[i]? = some (.raw (.ref x))) : Eb K S (tCB rLenR (tCons (tFld K (tVar i) "_haps") tNil)) sl (.int (b.haps.length : Nat)) := fun G H σ k f s Q qq => by
  obtain ⟨dx, a, sp, pq, e1, ⟨kvs, e2, e3⟩, _⟩ := (hB _ _ s).ex
  refine ⟨.ref x, frd_raw f hi, x, C, dx, _, _, rfl, e1, hc, hn, flds_haps _ _ _, a, kvs, rfl, rd_mono k e2, ?_⟩
  rw [← Paired.length e3]
  exact qq _ G H (.refl k) (.int _)
theorem ebt_or (hS : Stb S) (h1 : EbT K S tt sl a) (h2 : a = false → EbT K S uu sl c) (e : (a || c) = d) : EbT K S (tOr tt uu) sl d := fun G H σ k f s Q q => h1 G H σ k f s _ fun G1 H1 n1 => by
  subst e
  cases a with
  | true => exact q G1 H1 n1
  | false => exact h2 rfl G1 H1 σ n1.k (FrD.mono n1.g f) (hS _ _ _ _ s n1) _ fun G2 H2 n2 => q G2 H2 (n1.trans n2)
theorem ebt_and (hS : Stb S) (h1 : EbT K S tt sl a) (h2 : a = true → EbT K S uu sl c) (e : (a && c) = d) : EbT K S (tAnd tt uu) sl d := fun G H σ k f s Q q => h1 G H σ k f s _ fun G1 H1 n1 => by
  subst e
  cases a with
  | false => exact q G1 H1 n1
  | true => exact h2 rfl G1 H1 σ n1.k (FrD.mono n1.g f) (hS _ _ _ _ s n1) _ fun G2 H2 n2 => q G2 H2 (n1.trans n2)
/-- haps kept, another speed -/
theorem bn_turn {te : TE} {E : XK} {v : Rat} (hc : Cls K C) (h1 : NoAttr K C "_haps") (hp : b.past.length ≤ 90000) (hx : sl[0]? = some (.raw (.ref x))) (h : Eb K (fun G H => BnAt K C x p G H b) te sl (fq v)) :
    Bn K [x, p] (fun G H => BnAt K C x p G H b) (fun G H => BnAt K C x p G H ⟨b.haps, v, b.past ++ [(b.haps, b.speed)]⟩) (tDrop (tMeth C "_do" (spDo K C) [] E (tVar 0) (tCons (tFld K (tVar 0) "_haps") (tCons te tNil)))) sl fun _ => True := fun G H σ k f s D qq => by
  obtain ⟨dx, a, sp, pv, e1, e2, _⟩ := s.ex
  have fx := frd_raw f hx
  refine ⟨_, fx, x, dx, _, rfl, e1, flds_no _ _ _ (by decide +kernel) (by decide +kernel) (by decide +kernel), _, fx, x, C, dx, _, _, rfl, e1, hc, h1, flds_haps _ _ _, ?_⟩
  refine h G H σ k f s _ fun u G1 H1 n1 r1 => ?_
  exact ⟨x, p, a, u, b, b.haps, v, G1, rfl, n1.k, s.nx n1, e2.mono n1.g, r1, hp, fun G2 H2 n2 b2 => qq _ sl G2 H2 trivial (n1.p.trans n2) b2 (FrD.mono (n1.g.trans n2.g) f)⟩
end
section
variable {P : Program} {w : World} {K : PySem.W.Frag} {mg : Str → Option Value} {base : Heap} {m q : Str} {st : Stmt} {N ps : List Str} {k : Nat} {C : Addr} {t : XK → TS}
theorem start_bn {G : Hp} {x : Addr} {ws : List V} {ds : List Dt} (r : Rps K G ws ds) (e : ds.length + 1 = ps.length) : FrD K G (L2.start N (.ref x :: ws)) (Sl.raw (.ref x) :: (ds.map Sl.d ++ List.replicate (N.length - ps.length) .no)) := by
  unfold L2.start
  have e2 : (V.ref x :: ws).length = ps.length := by
    show ws.length + 1 = _
    rw [r.length]
    exact e
  rw [e2]
  exact .cons (.raw _) (frd_start _ r)
theorem DdM.deed {R : Bst → List Dt → Bst → Prop} {XF : Bst → List Dt → Value → Prop} (D : DdM K C m q st ps) (S : FnScope N ps (defScope st)) (hl : ∀ b ds b', R b ds b' → ds.length + 1 = ps.length) (hl2 : ∀ b ds c, XF b ds c → ds.length + 1 = ps.length)
    (h1 : ∀ (f : Addr) (cdv : Value) (A : Around) (outer : List Env) (s : Shared) (H : Hp) (E : XK), Room k (A.deeper (envOfC q (defScope st) s.heap.objs.size f cdv)) → PSs (cxOf (L2.CX P w) P w K mg base N q (defScope st) f cdv A outer s H E) (defBody st) (t E))
    (h2 : ∀ x p b ds b', R b ds b' → By K [x, p] (fun G H => BnAt K C x p G H b) (fun G H => BnAt K C x p G H b') t (Sl.raw (.ref x) :: (ds.map Sl.d ++ List.replicate (N.length - ps.length) .no)) (some .non) .none)
    (h3 : ∀ x p b ds c, XF b ds c → By K [x, p] (fun G H => BnAt K C x p G H b) (fun G H => BnAt K C x p G H b) t (Sl.raw (.ref x) :: (ds.map Sl.d ++ List.replicate (N.length - ps.length) .no)) none c) : HasM P w K mg base (L2.CX P w) (k + 1) C m ps (spBd K C R XF) := by
  refine D.anyX S (fun vs H Q E h => ?_) h1 fun vs H Q E h => ?_
  · obtain ⟨x, p, ws, ds, b, G, rfl, _, r, _, h⟩ := h
    show ws.length + 1 = _
    rw [r.length]
    rcases h with ⟨b', hR, _⟩ | ⟨c, hX, _⟩
    · exact hl b ds b' hR
    · exact hl2 b ds c hX
  · obtain ⟨x, p, ws, ds, b, G, rfl, kk, r, hB, h⟩ := h
    rcases h with ⟨b', hR, qq⟩ | ⟨c, hX, qq⟩
    · exact h2 x p b ds b' hR G H _ kk (start_bn r (hl b ds b' hR)) hB _ E (fun d e v G2 H2 n2 b2 r2 => by cases e; cases r2; exact qq G2 H2 n2 b2) (fun _ σ2 G2 H2 n2 b2 => qq G2 H2 n2 b2) (fun z => by cases z)
    · exact h3 x p b ds c hX G H _ kk (start_bn r (hl2 b ds c hX)) hB _ E (fun d e => by cases e) (fun e => by cases e) fun _ => qq
theorem DdM.query {R : Bst → List Dt → Dt → Prop} {XF : Bst → List Dt → Value → Prop} (D : DdM K C m q st ps) (S : FnScope N ps (defScope st)) (hl : ∀ b ds d, R b ds d → ds.length + 1 = ps.length) (hl2 : ∀ b ds c, XF b ds c → ds.length + 1 = ps.length)
    (h1 : ∀ (f : Addr) (cdv : Value) (A : Around) (outer : List Env) (s : Shared) (H : Hp) (E : XK), Room k (A.deeper (envOfC q (defScope st) s.heap.objs.size f cdv)) → PSs (cxOf (L2.CX P w) P w K mg base N q (defScope st) f cdv A outer s H E) (defBody st) (t E))
    (h2 : ∀ x b ds d, R b ds d → By K [] (fun G H => BnR K C x G H b) (fun G H => BnR K C x G H b) t (Sl.raw (.ref x) :: (ds.map Sl.d ++ List.replicate (N.length - ps.length) .no)) (some d) .none)
    (h3 : ∀ x b ds c, XF b ds c → By K [] (fun G H => BnR K C x G H b) (fun G H => BnR K C x G H b) t (Sl.raw (.ref x) :: (ds.map Sl.d ++ List.replicate (N.length - ps.length) .no)) none c) : HasM P w K mg base (L2.CX P w) (k + 1) C m ps (spBq K C R XF) := by
  refine D.anyX S (fun vs H Q E h => ?_) h1 fun vs H Q E h => ?_
  · obtain ⟨x, ws, ds, b, G, rfl, _, r, _, h⟩ := h
    show ws.length + 1 = _
    rw [r.length]
    rcases h with ⟨b', hR, _⟩ | ⟨c, hX, _⟩
    · exact hl b ds b' hR
    · exact hl2 b ds c hX
  · obtain ⟨x, ws, ds, b, G, rfl, kk, r, hB, h⟩ := h
    rcases h with ⟨d, hR, qq⟩ | ⟨c, hX, qq⟩
    · exact h2 x b ds d hR G H _ kk (start_bn r (hl b ds d hR)) hB _ E (fun d' e v G2 H2 n2 b2 r2 => by cases e; exact qq v G2 H2 n2.nx r2) (fun e σ2 G2 H2 n2 b2 => by cases e; exact qq .non G2 H2 n2.nx .non) (fun z => by cases z)
    · exact h3 x b ds c hX G H _ kk (start_bn r (hl2 b ds c hX)) hB _ E (fun d e => by cases e) (fun e => by cases e) fun _ => qq
/-- a question that can't be refused, of a method that raises nothing -/
theorem DdM.ask {R : Bst → List Dt → Dt → Prop} {t : TS} (D : DdM K C m q st ps) (S : FnScope N ps (defScope st)) (hl : ∀ b ds d, R b ds d → ds.length + 1 = ps.length)
    (h1 : ∀ (f : Addr) (cdv : Value) (A : Around) (outer : List Env) (s : Shared) (H : Hp) (E : XK), Room k (A.deeper (envOfC q (defScope st) s.heap.objs.size f cdv)) → PSs (cxOf CX0 P w K mg base N q (defScope st) f cdv A outer s H E).nox (defBody st) t)
    (h2 : ∀ x b ds d, R b ds d → By K [] (fun G H => BnR K C x G H b) (fun G H => BnR K C x G H b) (fun _ => t) (Sl.raw (.ref x) :: (ds.map Sl.d ++ List.replicate (N.length - ps.length) .no)) (some d) .none) : HasM P w K mg base CX0 (k + 1) C m ps (spBq K C R fun _ _ _ => False) := by
  refine D.any S (fun vs H Q E h => ?_) h1 fun vs H Q E h => ?_
  · obtain ⟨x, ws, ds, b, G, rfl, _, r, _, h⟩ := h
    show ws.length + 1 = _
    rw [r.length]
    rcases h with ⟨b', hR, _⟩ | ⟨c, hX, _⟩
    · exact hl b ds b' hR
    · exact hX.elim
  · obtain ⟨x, ws, ds, b, G, rfl, kk, r, hB, h⟩ := h
    rcases h with ⟨d, hR, qq⟩ | ⟨c, hX, qq⟩
    · exact h2 x b ds d hR G H _ kk (start_bn r (hl b ds d hR)) hB _ E (fun d' e v G2 H2 n2 b2 r2 => by cases e; exact qq v G2 H2 n2.nx r2) (fun e σ2 G2 H2 n2 b2 => by cases e; exact qq .non G2 H2 n2.nx .non) (fun z => by cases z)
    · exact hX.elim
end
/-! ### a bench made, used and forgotten -/
/-! ### what goes with a speed, told from a seat; clocks -/
end Z
namespace L2
open PySem PySem.Spec PyProof.Rows
/-! ### o.f among the targets -/
def gFld (K : PySem.W.Frag) (ta : TE) (f : Str) : TG := fun v σ H Q => ta σ H fun x H1 => ∃ a C dx fs, x = .ref a ∧ H1 a = some (.ins C dx fs) ∧ Cls K C ∧ NoAttr K C f ∧ fs.length < 1000 ∧ Q σ (upd H1 a (.ins C dx (putF f v fs)))
theorem pg_fld {X : Cx} {o : Expr} {f : Str} {pos : Pos} {ta : TE} (ho : PE X o ta) : PG X (.Attribute o f pos) (gFld X.K ta f) := by
  refine ⟨fun pins s σ H v u Q I r h => ?_⟩
  rw [assign_Attribute]
  refine wpAny_bind (wpAny_holding (thn (ho.run pins s σ H _ I h) fun ov s1 ⟨x, H1, I1, r1, a, C, dx, fs, ex, ea, c, n, l, q⟩ => ?_))
  subst ex
  obtain rfl : ov = Value.ref a := r1
  exact wpAny_bind (wpAny_standAt (wpAny_bind (wpAny_holding (setattr_ok I1 ea c n l r fun s3 I3 => wpAny_release ⟨σ, _, I3, q⟩))))
/-! ### list == [] -/
def rEqE (K : PySem.W.Frag) : R2 := fun x y H Q => ∃ a b xs, x = .ref a ∧ y = .ref b ∧ SqL K H a xs ∧ SqL K H b [] ∧ Q (.bl xs.isEmpty) H
theorem op_eqE {X : Cx} (hu : X.A.units < cLine) : OpR X (compareOp .Eq) (rEqE X.K) := by
  intro pins s σ H x y v u Q I rx ry h
  obtain ⟨a, b, xs, rfl, rfl, ha, hb, q⟩ := h
  obtain ⟨its, rv, pl, _⟩ := I.list ha
  obtain ⟨its2, rv2, pl2, _⟩ := I.list hb
  cases rx
  cases ry
  cases rv2
  show wpAny _ _ (richCompare .Eq _ _) _ _ _
  cases rv with
  | nil => exact PySem.SeqAt.RcAt.lists (e := fun _ => true) pl.isList pl2.isList rfl hu (fun j h1 h2 => absurd h1 (Nat.not_lt_zero _)) _ _ _ _ ⟨.bl _, H, I, rfl, q⟩
  | cons r rr => exact PySem.SeqAt.RcAt.lists_lengths pl.isList pl2.isList (by simp) hu _ _ _ _ ⟨.bl _, H, I, rfl, q⟩
end L2
namespace Z
open PySem PySem.Spec PyProof.Rows L2 RZ
open Evl (Ex)
/-! ### texts in order -/
def leS (a b : Str) : Bool := !ltCps b.cps.toList a.cps.toList
theorem ltc_tri : ∀ a b : List Nat, ltCps a b = false → ltCps b a = false → a = b
  | [], [], _, _ => rfl
  | [], _ :: _, h, _ => by simp [ltCps] at h
  | _ :: _, [], _, h => by simp [ltCps] at h
  | a :: r, b :: t, h, g => by
    simp only [ltCps, Bool.or_eq_false_iff, Bool.and_eq_false_iff, decide_eq_false_iff_not, beq_eq_false_iff_ne] at h g
    have e : a = b := by omega
    subst e
    have h2 := h.2.resolve_left (fun z => z rfl)
    have g2 := g.2.resolve_left (fun z => z rfl)
    rw [ltc_tri r t h2 g2]
theorem ltc_tr : ∀ a b c : List Nat, ltCps b a = false → ltCps c b = false → ltCps c a = false
  | [], _, [], _, _ => rfl
  | _ :: _, _, [], _, g => by
    rename_i b h
    cases b with
    | nil => simp [ltCps] at h
    | cons => simp [ltCps] at g
  | [], _, _ :: _, _, _ => rfl
  | a :: r, [], c :: t, h, _ => by simp [ltCps] at h
  | a :: r, b :: s, c :: t, h, g => by
    simp only [ltCps, Bool.or_eq_false_iff, Bool.and_eq_false_iff, decide_eq_false_iff_not, beq_eq_false_iff_ne] at h g ⊢
    refine ⟨by omega, ?_⟩
    by_cases e : c = a
    · have e1 : b = a := by omega
      have e2 : c = b := by omega
      exact .inr (ltc_tr r s t (h.2.resolve_left (fun z => z e1)) (g.2.resolve_left (fun z => z e2)))
    · exact .inl e
theorem leS_tot (a b : Str) : leS a b = true ∨ leS b a = true := by
  have key : ∀ a b : List Nat, ltCps a b = false ∨ ltCps b a = false := by
    intro a
    induction a with
    | nil => intro b; cases b <;> simp [ltCps]
    | cons x r ih =>
      intro b
      cases b with
      | nil => simp [ltCps]
      | cons y t =>
        simp only [ltCps, Bool.or_eq_false_iff, Bool.and_eq_false_iff, decide_eq_false_iff_not, beq_eq_false_iff_ne]
        rcases Nat.lt_trichotomy x y with h | h | h
        · exact .inr ⟨by omega, .inl (by omega)⟩
        · rcases ih t with g | g
          · exact .inl ⟨by omega, .inr g⟩
          · exact .inr ⟨by omega, .inr g⟩
        · exact .inl ⟨by omega, .inl (by omega)⟩
  unfold leS
  rcases key b.cps.toList a.cps.toList with h | h <;> simp [h]
theorem leS_tr {a b c : Str} (h : leS a b = true) (g : leS b c = true) : leS a c = true := by
  unfold leS at *
  rw [Bool.not_eq_true'] at *
  exact ltc_tr _ _ _ h g
theorem leS_eq {a b : Str} (h : leS a b = true) (g : leS b a = true) : a = b := by
  unfold leS at *
  rw [Bool.not_eq_true'] at *
  have e := ltc_tri _ _ g h
  cases a
  cases b
  congr 1
  exact Array.ext' e
theorem srtS_pair : ∀ {l : List Str}, sortedS l = true → l.Pairwise fun a b => leS a b = true
  | [], _ => .nil
  | x :: r, h => by
    have key : ∀ (r : List Str) (x : Str), risingS x r = true → (x :: r).Pairwise fun a b => leS a b = true := by
      intro r
      induction r with
      | nil => intro x _; exact List.pairwise_singleton _ _
      | cons y t ih =>
        intro x h
        have h' : (leS x y && risingS y t) = true := h
        rw [Bool.and_eq_true] at h'
        have p := ih y h'.2
        refine List.pairwise_cons.mpr ⟨fun z hz => ?_, p⟩
        rcases List.mem_cons.mp hz with rfl | hz
        · exact h'.1
        · exact leS_tr h'.1 ((List.pairwise_cons.mp p).1 z hz)
    exact key r x h
theorem srtS_one : ∀ {l m : List Str}, l.Perm m → (l.Pairwise fun a b => leS a b = true) → (m.Pairwise fun a b => leS a b = true) → l = m
  | [], m, p, _, _ => (List.nil_perm.mp p).symm
  | x :: l, [], p, _, _ => by simp at p
  | x :: l, y :: m, p, h, g => by
    have e : x = y := by
      have hx : x ∈ y :: m := p.mem_iff.mp List.mem_cons_self
      have hy : y ∈ x :: l := p.mem_iff.mpr List.mem_cons_self
      rcases List.mem_cons.mp hx with e | hx
      · exact e
      · rcases List.mem_cons.mp hy with e | hy
        · exact e.symm
        · exact leS_eq ((List.pairwise_cons.mp h).1 y hy) ((List.pairwise_cons.mp g).1 x hx)
    subst e
    rw [srtS_one (List.perm_cons x |>.mp p) (List.pairwise_cons.mp h).2 (List.pairwise_cons.mp g).2]
def srtN (l : List Str) : List Str := l.mergeSort leS
theorem srtN_is {l ys : List Str} (p : ys.Perm l) (h : sortedS ys = true) : ys = srtN l :=
  srtS_one (p.trans (List.mergeSort_perm l leS).symm) (srtS_pair h) (List.pairwise_mergeSort (le := leS) (fun a b c h g => leS_tr h g) (fun a b => by rcases leS_tot a b with h | h <;> rw [h]; rfl; exact Bool.or_true _) l)
theorem srtN_len (l : List Str) : (srtN l).length = l.length := List.length_mergeSort ..
theorem srtN_mem {l : List Str} {n : Str} : n ∈ srtN l ↔ n ∈ l := (List.mergeSort_perm l leS).mem_iff
/-! ### benches: a deed undone, a name dropped, the names -/
theorem paired_last {α β : Type} {F : α → β → Prop} : ∀ {l : List α} {a : α} {r : List β}, Paired F (l ++ [a]) r → ∃ r0 v, r = r0 ++ [v] ∧ Paired F l r0 ∧ F a v
  | [], a, _, h => by
    cases h with
    | cons h t =>
      cases t
      exact ⟨[], _, rfl, .nil, h⟩
  | x :: l, a, _, h => by
    cases h with
    | cons h t =>
      obtain ⟨r0, v, e, p, g⟩ := paired_last t
      exact ⟨_ :: r0, v, by rw [e]; rfl, .cons h p, g⟩
section
variable {K : PySem.W.Frag} {C x p : Addr} {b : Bst} {sl : List Sl} {S : Hp → Hp → Prop} {i : Nat} {n : Str}
theorem eb_pastE (hB : ∀ G H, S G H → BnAt K C x p G H b) (hc : Cls K C) (hn : NoAttr K C "_past") (hi : sl[i]? = some (.raw (.ref x))) : Eb K S (tOp (rEqE K) (tFld K (tVar i) "_past") (tLst tNil)) sl (.bl b.past.isEmpty) := fun G H σ k f s Q qq => by
  obtain ⟨dx, a, sp, pv, e1, e2, e3, e4, e5⟩ := (hB _ _ s).ex
  refine ⟨.ref x, frd_raw f hi, x, C, dx, _, _, rfl, e1, hc, hn, flds_past _ _ _, ⟨by exact sz_ok (Nat.zero_le _), fun q hq => ⟨p, q, pv, rfl, rfl, .of (by rw [upd_ne (ne_of_none e4 hq)]; exact e4), .of upd_same, ?_⟩⟩⟩
  have e : pv.isEmpty = b.past.isEmpty := by
    revert e5
    generalize b.past = l
    intro e5
    cases e5 <;> rfl
  rw [e]
  exact qq _ _ _ (Nx.new k hq) (.bl _)
/-- the last deed undone -/
theorem bn_undo {h0 : Hps} {s0 : Rat} {pt : List (Hps × Rat)} (hc : Cls K C) (h1 : NoAttr K C "_haps") (h2 : NoAttr K C "_speed") (h3 : NoAttr K C "_past") (hx : sl[0]? = some (.raw (.ref x))) (hp : b.past = pt ++ [(h0, s0)]) :
    Bn K [x, p] (fun G H => BnAt K C x p G H b) (fun G H => BnAt K C x p G H ⟨h0, s0, pt⟩) (tAsg (tBM0 K "list" rPop (tFld K (tVar 0) "_past")) (gTup K 2 (gCons (gFld K (tVar 0) "_haps") (gCons (gFld K (tVar 0) "_speed") gNil)))) sl fun _ => True := fun G H σ k f s D qq => by
  obtain ⟨dx, a, sp, pv, e1, e2, e3, e4, e5⟩ := s.ex
  rw [hp] at e5
  obtain ⟨r0, v, rfl, e6, ⟨q, a1, s1, rfl, t1, t2, t3⟩⟩ := paired_last e5
  have fx := frd_raw f hx
  have nxp := s.ne
  have gp := s.gp
  have gx := s.gx
  have kp : ∀ u, Ex G (upd H p u) := fun u c o e => by
    rw [upd_ne (fun y : c = p => by rw [y, gp] at e; cases e)]
    exact k _ _ e
  refine ⟨_, fx, x, C, dx, _, _, rfl, e1, hc, h3, flds_past _ _ _, ⟨.inl ⟨rfl, ⟨_, .inl (.inl e4)⟩⟩, p, _, .ref q, rfl, rfl, e4, by simp, ?_⟩⟩
  rw [List.dropLast_concat]
  have hx2 : upd H p (.lst r0) x = some (.ins C dx (flds a sp p)) := by rw [upd_ne nxp]; exact e1
  refine ⟨q, [.ref a1, s1], rfl, exT (kp _) t1, rfl, .ref a1, [s1], rfl, _, fx, x, C, dx, _, rfl, hx2, hc, h1, by rw [flds_eq]; show 3 < 1000; decide, ?_⟩
  rw [flds_put1]
  refine ⟨s1, [], rfl, _, fx, x, C, dx, _, rfl, upd_same, hc, h2, by rw [flds_eq]; show 3 < 1000; decide, rfl, ?_⟩
  rw [flds_put2, upd_upd]
  refine qq _ sl G _ trivial ⟨fun _ _ e => e, fun c u e => ?_, fun c u hc e => ?_, fun c hc => ?_, fun c h1 h2 => h1⟩ ⟨⟨dx, a1, s1, r0, upd_same, t2, t3, by rw [upd_ne nxp.symm, upd_same], e6⟩, gx, gp⟩ f
  · rw [upd_ne (fun y : c = x => by rw [y, gx] at e; cases e), upd_ne (fun y : c = p => by rw [y, gp] at e; cases e)]
    exact k _ _ e
  · rw [upd_ne (fun y : c = x => hc (by simp [y])), upd_ne (fun y : c = p => hc (by simp [y]))]
    exact e
  · by_cases z1 : c = x
    · rw [z1, upd_same]; intro z; cases z
    · rw [upd_ne z1]
      by_cases z2 : c = p
      · rw [z2, upd_same]; intro z; cases z
      · rw [upd_ne z2]
        exact hc
/-- a copy of the haps, one dropped, handed on -/
theorem bn_drop {E : XK} (hc : Cls K C) (h1 : NoAttr K C "_haps") (h2 : NoAttr K C "_speed") (hn : getH b.haps n ≠ none) (hp : b.past.length ≤ 90000) :
    Bn K [x, p] (fun G H => BnAt K C x p G H b) (fun G H => BnAt K C x p G H ⟨dropH b.haps n, b.speed, b.past ++ [(b.haps, b.speed)]⟩) (tSeq (tAsg (tBM0 K "dict" rCopyD (tFld K (tVar 0) "_haps")) (gName 2)) (tSeq (sDDel (tVar 2) (tVar 1)) (tDrop (tMeth C "_do" (spDo K C) [] E (tVar 0) (tCons (tVar 2) (tCons (tFld K (tVar 0) "_speed") tNil)))))) [.raw (.ref x), .d (.str n), .no] fun _ => True := fun G H σ k f s D qq => by
  obtain ⟨dx, a, sp, pv, e1, ⟨kvs, e2, e3⟩, e4, e5, e6⟩ := s.ex
  have fx := frd_raw (i := 0) f rfl
  obtain ⟨vn, fn, rn⟩ := frd_get (i := 1) f rfl
  cases rn
  have hlen : σ.length = 3 := (Paired.length f)
  refine ⟨_, fx, x, C, dx, _, _, rfl, e1, hc, h1, flds_haps _ _ _, ⟨.inr (.inr (.inl ⟨rfl, .inl ⟨kvs, k _ _ e2⟩⟩)), a, kvs, rfl, rfl, k _ _ e2, fun a2 ha2 => ?_⟩⟩
  have nxa : x ≠ a2 := ne_of_none e1 ha2
  refine ⟨.ref a2, by rw [List.getElem?_set_self (by omega)], .str n, by rw [List.getElem?_set_ne (by decide)]; exact fn, a2, kvs, .inr n, rfl, upd_same, rfl, ?_, ?_⟩
  · rcases pair_get n e3 with ⟨g1, _⟩ | ⟨_, _, _, g2, _⟩
    · exact absurd g1 hn
    · rw [g2]
      rfl
  rw [upd_upd]
  have pr := pair_drop n e3
  have nn : Nx G H (upd G a2 (.dK (dropK kvs (.inr n)))) (upd H a2 (.dK (dropK kvs (.inr n)))) := .new k ha2
  have hB2 := s.nx nn
  have hx2 : upd H a2 (.dK (dropK kvs (.inr n))) x = some (.ins C dx (flds a sp p)) := by rw [upd_ne nxa]; exact e1
  refine ⟨_, by rw [List.getElem?_set_ne (by decide)]; exact fx, x, dx, _, rfl, hx2, flds_no _ _ _ (by decide +kernel) (by decide +kernel) (by decide +kernel), ?_⟩
  refine ⟨.ref a2, by rw [List.getElem?_set_self (by omega)], _, by rw [List.getElem?_set_ne (by decide)]; exact fx, x, C, dx, _, _, rfl, hx2, hc, h2, flds_speed _ _ _, ?_⟩
  refine ⟨x, p, a2, sp, b, dropH b.haps n, b.speed, _, rfl, nn.k, hB2, ⟨_, upd_same, L2.Paired.mapP pr fun _ _ ⟨r1, r2⟩ => ⟨r1, r2.mono nn.g⟩⟩, e4.mono nn.g, hp, fun G2 H2 n2 b2 => ?_⟩
  exact qq _ [.raw (.ref x), .d (.str n), .no] G2 H2 trivial (nn.p.trans n2) b2 (frd_wk (FrD.mono (nn.g.trans n2.g) (frd_set (.raw (.ref a2)) 2 f)) (.cons (.same _) (.cons (.same _) (.cons (.no _) .nil))))
end
/-! ### what raises within an expression -/
def Ebx (K : PySem.W.Frag) (S : Hp → Hp → Prop) (te : XK → TE) (sl : List Sl) (c : Value) : Prop := ∀ (G H : Hp) (σ : L2.St), Ex G H → FrD K G σ sl → S G H → ∀ (E : XK) (Q : VK), (∀ G2 H2, Nx G H G2 H2 → E c none H2) → te E σ H Q
def EbAx (K : PySem.W.Frag) (S : Hp → Hp → Prop) (ta : XK → TA) (sl : List Sl) (c : Value) : Prop := ∀ (G H : Hp) (σ : L2.St), Ex G H → FrD K G σ sl → S G H → ∀ (E : XK) (Q : List V → Hp → Prop), (∀ G2 H2, Nx G H G2 H2 → E c none H2) → ta E σ H Q
section
variable {K : PySem.W.Frag} {S S2 : Hp → Hp → Prop} {us : List Addr} {sl : List Sl} {C x p : Addr} {b : Bst} {i : Nat} {m : Str} {tr : TA} {xs : List Dt} {c : Value} {d : Dt} {te : XK → TE} {ta : XK → TA} {u : XK → TS} {y : Option Dt}
theorem ebx_mq {R : Bst → List Dt → Dt → Prop} {XF : Bst → List Dt → Value → Prop} (hS : Stb S) (hB : ∀ G H, S G H → BnR K C x G H b) (hi : sl[i]? = some (.raw (.ref x))) (hm1 : ¬ m = "_past") (hm2 : ¬ m = "_speed") (hm3 : ¬ m = "_haps") (h : EbA K S tr sl xs) (hX : XF b xs c) :
    Ebx K S (fun E => tMeth C m (spBq K C R XF) [] E (tVar i) tr) sl c := fun G H σ k f s E Q q => by
  obtain ⟨dx, a, sp, pq, h1, _⟩ := (hB G H s).ex
  refine ⟨.ref x, frd_raw f hi, x, dx, _, rfl, h1, flds_no _ _ _ hm1 hm2 hm3, ?_⟩
  exact h G H σ k f s _ fun vs G1 H1 n1 r1 => ⟨x, vs ++ [], xs, b, G1, rfl, n1.k, rps_nil r1, hB G1 H1 (hS _ _ _ _ s n1), .inr ⟨c, hX, fun G2 H2 n2 => q G2 H2 (n1.trans n2)⟩⟩
theorem eax_1 {tr : XK → TA} (h : Ebx K S te sl c) : EbAx K S (fun E => tCons (te E) (tr E)) sl c := fun G H σ k f s E Q q => h G H σ k f s E _ q
theorem eax_2 {tr : XK → TA} (hS : Stb S) (h1 : ∀ E, Eb K S (te E) sl d) (h : EbAx K S tr sl c) : EbAx K S (fun E => tCons (te E) (tr E)) sl c := fun G H σ k f s E Q q =>
  h1 E G H σ k f s _ fun v G1 H1 n1 r1 => h G1 H1 σ n1.k (FrD.mono n1.g f) (hS _ _ _ _ s n1) E _ fun G2 H2 n2 => q G2 H2 (n1.trans n2)
theorem ebx_arg {sp : XK → L2.Sp} {zs : List V} {F : XK → XK} (h : EbAx K S ta sl c) : Ebx K S (fun E => tCall (sp E) zs (F E) (ta E)) sl c := fun G H σ k f s E Q q => h G H σ k f s E _ q
theorem by_retX (h : Ebx K S te sl c) : By K us S S2 (fun E => tRet (te E)) sl none c := fun G H σ k f s D E q1 q2 q3 => h G H σ k f s E _ fun G2 H2 n2 => q3 rfl G2 H2 n2
theorem by_dropX (h : Ebx K S te sl c) : By K us S S2 (fun E => tSeq (tDrop (te E)) (u E)) sl none c := fun G H σ k f s D E q1 q2 q3 => h G H σ k f s E _ fun G2 H2 n2 => q3 rfl G2 H2 n2
theorem by_drop (hS : Stb S) (h : ∀ E, Eb K S (te E) sl d) (g : By K us S S2 u sl y c) : By K us S S2 (fun E => tSeq (tDrop (te E)) (u E)) sl y c := fun G H σ k f s D E q1 q2 q3 =>
  h E G H σ k f s _ fun v G1 H1 n1 r1 => g G1 H1 σ n1.k (FrD.mono n1.g f) (hS _ _ _ _ s n1) D E (fun d e v G2 H2 n2 => q1 d e v G2 H2 (n1.p.trans n2)) (fun e σ2 G2 H2 n2 => q2 e σ2 G2 H2 (n1.p.trans n2)) fun e G2 H2 n2 => q3 e G2 H2 (n1.trans n2)
/-- sorted(self._haps) -/
def rSortH : List V → Hp → VK → Prop := fun xs H Q => ∃ (a : Addr) (kvs : List (Key × V)) (ks : List Str), xs = [.ref a] ∧ Rd H a (.dK kvs) ∧ kvs.map (·.1) = ks.map Sum.inr ∧ ks.length < 64 ∧
    ∀ ys p, ys.Perm ks → sortedS ys = true → H p = none → Q (.ref p) (upd H p (.lst (ys.map V.str)))
theorem sortH {X : Cx} (h : X.calm = true) : CallR X (.builtin "sorted") rSortH := call_sortedD h
theorem dic_keys {G : Hp} : ∀ {hs : Hps} {kvs : List (Key × V)}, Paired (KvR K G) hs kvs → kvs.map (·.1) = (hs.map (·.1)).map Sum.inr
  | _, _, .nil => rfl
  | _, _, .cons h t => by rw [List.map_cons, List.map_cons, List.map_cons, h.1, dic_keys t]
theorem rps_strs {G : Hp} (l : List Str) : Rps K G (l.map V.str) (l.map Dt.str) := by
  induction l with
  | nil => exact .nil
  | cons a l ih => exact .cons (.str _) ih
def namesD (b : Bst) : Dt := .lst ((srtN (b.haps.map (·.1))).map Dt.str)
end
theorem fldGK {X : Cx} {K : PySem.W.Frag} {o : Expr} {f : Str} {pos : Pos} {ta : TE} (eK : X.K = K) (ho : PE X o ta) : PG X (.Attribute o f pos) (gFld K ta f) := eK ▸ pg_fld ho
theorem eqEK {X : Cx} {K : PySem.W.Frag} (e : X.K = K) (hu : X.A.units + 64 < cLine) : OpR X (compareOp .Eq) (rEqE K) := e ▸ op_eqE (by omega)
end Z
namespace Z
open PySem PySem.Spec PyProof.Rows L2 RZ
open Evl (Ex)
/-! ### hands back, where a world stands -/
def Br (K : PySem.W.Frag) (us : List Addr) (S S2 : Hp → Hp → Prop) (ts : TS) (sl : List Sl) (d : Dt) : Prop := ∀ (G H : Hp) (σ : L2.St), Ex G H → FrD K G σ sl → S G H → ∀ D : Ends, (∀ v G2 H2, NxP us G H G2 H2 → S2 G2 H2 → Rp K G2 v d → D.rt v H2) → ts D σ H
section
variable {K : PySem.W.Frag} {us : List Addr} {S S1 S2 : Hp → Hp → Prop} {t u r : TS} {sl : List Sl} {N : List Sl → Prop} {tc : TT} {te ta tb : TE} {d x : Dt} {b : Bool} {C : Addr} {tr : TA} {xs : List Dt} {i : Nat}
theorem br_ret (hS : Stb S) (h : Eb K S te sl d) : Br K us S S (tRet te) sl d := fun G H σ k f s D q => h G H σ k f s _ fun v G2 H2 n2 r2 => q v G2 H2 n2.p (hS _ _ _ _ s n2) r2
theorem br_seq (h : Bn K us S S1 t sl N) (g : ∀ s, N s → Br K us S1 S2 u s d) : Br K us S S2 (tSeq t u) sl d := fun G H σ k f s D q =>
  h G H σ k f s _ fun σ1 sl1 G1 H1 m1 n1 s1 f1 => g sl1 m1 G1 H1 σ1 n1.k f1 s1 D fun v G2 H2 n2 => q v G2 H2 (n1.trans n2)
theorem br_no (hS : Stb S) (h : EbT K S tc sl false) (g : Br K us S S2 u sl d) : Br K us S S2 (tSeq (tIfS tc r tNext) u) sl d := fun G H σ k f s D q =>
  h G H σ k f s _ fun G1 H1 n1 => g G1 H1 σ n1.k (FrD.mono n1.g f) (hS _ _ _ _ s n1) D fun v G2 H2 n2 => q v G2 H2 (n1.p.trans n2)
theorem br_yes (hS : Stb S) (h : EbT K S tc sl true) (g : Br K us S S2 r sl d) : Br K us S S2 (tSeq (tIfS tc r tNext) u) sl d := fun G H σ k f s D q =>
  h G H σ k f s _ fun G1 H1 n1 => g G1 H1 σ n1.k (FrD.mono n1.g f) (hS _ _ _ _ s n1) { D with nx := u D } fun v G2 H2 n2 => q v G2 H2 (n1.p.trans n2)
theorem br_is {x : Dt} (h : Br K us S S2 t sl d) (e : d = x) : Br K us S S2 t sl x := e ▸ h
theorem eb_if (hS : Stb S) (h : EbT K S tc sl b) (h1 : b = true → Eb K S ta sl d) (h2 : b = false → Eb K S tb sl d) : Eb K S (tIf tc ta tb) sl d := fun G H σ k f s Q q =>
  h G H σ k f s _ fun G1 H1 n1 => by
    cases b with
    | true => exact h1 rfl G1 H1 σ n1.k (FrD.mono n1.g f) (hS _ _ _ _ s n1) Q fun v G2 H2 n2 => q v G2 H2 (n1.trans n2)
    | false => exact h2 rfl G1 H1 σ n1.k (FrD.mono n1.g f) (hS _ _ _ _ s n1) Q fun v G2 H2 n2 => q v G2 H2 (n1.trans n2)
end
/-! ### a law's own books: a dict of the haps, the speed, the past -/
def stD (a : Addr) (s : V) (p : Addr) : List (Key × V) := [(.inr ("haps" : Str), .ref a), (.inr ("speed" : Str), s), (.inr ("past" : Str), .ref p)]
structure SoAt (K : PySem.W.Frag) (y p : Addr) (G H : Hp) (b : Bst) : Prop where
  ex : ∃ a s pv, H y = some (.dK (stD a s p)) ∧ DicAt K G a b.haps ∧ Rp K G s (fq b.speed) ∧ H p = some (.lst pv) ∧ Paired (PstR K G) b.past pv
  gy : G y = none
  gp : G p = none
theorem ks1 : ¬ ((.inr ("haps" : Str) : Key) = .inr ("speed" : Str)) := by decide +kernel
theorem ks2 : ¬ ((.inr ("haps" : Str) : Key) = .inr ("past" : Str)) := by decide +kernel
theorem ks3 : ¬ ((.inr ("speed" : Str) : Key) = .inr ("past" : Str)) := by decide +kernel
section
variable {a a2 : Addr} {s s2 : V} {p : Addr}
theorem st_haps : valV (stD a s p) (.inr ("haps" : Str) : Key) = some (.ref a) := by
  unfold stD valV
  rw [List.find?_cons, decide_eq_true rfl]
  rfl
theorem st_speed : valV (stD a s p) (.inr ("speed" : Str) : Key) = some s := by
  unfold stD valV
  rw [List.find?_cons, decide_eq_false ks1, List.find?_cons, decide_eq_true rfl]
  rfl
theorem st_past : valV (stD a s p) (.inr ("past" : Str) : Key) = some (.ref p) := by
  unfold stD valV
  rw [List.find?_cons, decide_eq_false ks2, List.find?_cons, decide_eq_false ks3, List.find?_cons, decide_eq_true rfl]
  rfl
theorem st_put1 : putK (stD a s p) (.inr ("haps" : Str) : Key) (.ref a2) = stD a2 s p := by
  unfold putK stD
  have e : List.any [((.inr ("haps" : Str) : Key), V.ref a), (.inr ("speed" : Str), s), (.inr ("past" : Str), V.ref p)] (fun kv => decide (kv.1 = (.inr ("haps" : Str) : Key))) = true := by
    rw [List.any_cons, decide_eq_true rfl, Bool.true_or]
  rw [if_pos e]
  simp only [List.map_cons, List.map_nil, if_true, if_neg (Ne.symm ks1), if_neg (Ne.symm ks2)]
theorem st_put2 : putK (stD a s p) (.inr ("speed" : Str) : Key) s2 = stD a s2 p := by
  unfold putK stD
  have e : List.any [((.inr ("haps" : Str) : Key), V.ref a), (.inr ("speed" : Str), s), (.inr ("past" : Str), V.ref p)] (fun kv => decide (kv.1 = (.inr ("speed" : Str) : Key))) = true := by
    rw [List.any_cons, List.any_cons, decide_eq_true rfl, Bool.true_or, Bool.or_true]
  rw [if_pos e]
  simp only [List.map_cons, List.map_nil, if_true, if_neg ks1, if_neg (Ne.symm ks3)]
end
section
variable {K : PySem.W.Frag} {y p : Addr} {G H G2 H2 : Hp} {b : Bst}
theorem SoAt.ne (h : SoAt K y p G H b) : y ≠ p := by
  obtain ⟨a, s, pv, h1, _, _, h2, _⟩ := h.ex
  exact ne_of h1 h2 (by intro z; cases z)
theorem SoAt.nxP {us : List Addr} (h : SoAt K y p G H b) (n : NxP us G H G2 H2) (hy : y ∉ us) (hp : p ∉ us) : SoAt K y p G2 H2 b := by
  obtain ⟨a, s, pv, h1, h2, h3, h4, h5⟩ := h.ex
  exact ⟨⟨a, s, pv, n.h _ _ hy h1, h2.mono n.g, h3.mono n.g, n.h _ _ hp h4, L2.Paired.mapP h5 fun _ _ r => PstR.mono n.g r⟩, n.f _ h.gy (by rw [h1]; intro z; cases z), n.f _ h.gp (by rw [h4]; intro z; cases z)⟩
theorem SoAt.nx (h : SoAt K y p G H b) (n : Nx G H G2 H2) : SoAt K y p G2 H2 b := h.nxP (us := []) n.p (by simp) (by simp)
theorem stb_so : Stb fun G H => SoAt K y p G H b := fun _ _ _ _ h n => h.nx n
end
/-- books that are asked: their dict may be locked -/
structure SoR (K : PySem.W.Frag) (y : Addr) (G H : Hp) (b : Bst) : Prop where
  ex : ∃ a s p pv, H y = some (.dK (stD a s p)) ∧ DicR K G a b.haps ∧ Rp K G s (fq b.speed) ∧ H p = some (.lst pv) ∧ pv.length = b.past.length ∧ G p = none
  gy : G y = none
theorem SoAt.r {K : PySem.W.Frag} {y p : Addr} {G H : Hp} {b : Bst} (h : SoAt K y p G H b) : SoR K y G H b := by
  obtain ⟨a, s, pv, h1, h2, h3, h4, h5⟩ := h.ex
  exact ⟨⟨a, s, p, pv, h1, h2.r, h3, h4, (Paired.length h5).symm, h.gp⟩, h.gy⟩
theorem SoR.nx {K : PySem.W.Frag} {y : Addr} {G H G2 H2 : Hp} {b : Bst} (h : SoR K y G H b) (n : Nx G H G2 H2) : SoR K y G2 H2 b := by
  obtain ⟨a, s, p, pv, h1, h2, h3, h4, h5, h6⟩ := h.ex
  exact ⟨⟨a, s, p, pv, n.h _ _ h1, h2.mono n.g, h3.mono n.g, n.h _ _ h4, h5, n.f _ h6 (by rw [h4]; intro z; cases z)⟩, n.f _ h.gy (by rw [h1]; intro z; cases z)⟩
theorem stb_sr {K : PySem.W.Frag} {y : Addr} {b : Bst} : Stb fun G H => SoR K y G H b := fun _ _ _ _ h n => h.nx n
section
variable {K : PySem.W.Frag} {S : Hp → Hp → Prop} {sl : List Sl} {y p : Addr} {b : Bst} {i : Nat} {te : TE} {n : Str}
theorem es_pastE (hB : ∀ G H, S G H → SoR K y G H b) (hi : sl[i]? = some (.raw (.ref y))) : Eb K S (tOp (rEqE K) (tDGet (tVar i) (tC (.str "past"))) (tLst tNil)) sl (.bl b.past.isEmpty) := fun G H σ k f s Q qq => by
  obtain ⟨a, sp, p, pv, e1, e2, e3, e4, e5, _⟩ := (hB _ _ s).ex
  refine ⟨.ref y, frd_raw f hi, y, .ref p, rfl, st_past (a := a) (s := sp) ▸ DGet.k (k := .inr "past") e1, ⟨by exact sz_ok (Nat.zero_le _), fun q hq => ⟨p, q, pv, rfl, rfl, .of (by rw [upd_ne (ne_of_none e4 hq)]; exact e4), .of upd_same, ?_⟩⟩⟩
  have e : pv.isEmpty = b.past.isEmpty := by
    revert e5
    generalize b.past = l
    intro e5
    cases pv <;> cases l <;> first | rfl | cases e5
  rw [e]
  exact qq _ _ _ (Nx.new k hq) (.bl _)
theorem es_notin (hS : Stb S) (hB : ∀ G H, S G H → SoR K y G H b) (hi : sl[i]? = some (.raw (.ref y))) (h : Eb K S te sl (.str n)) : Eb K S (tDNotIn te (tDGet (tVar i) (tC (.str "haps")))) sl (.bl (!(getH b.haps n).isSome)) := fun G H σ k f s Q qq =>
  h G H σ k f s _ fun v G1 H1 n1 r1 => by
    cases r1
    obtain ⟨a, sp, p, pv, e1, ⟨kvs, e2, e3⟩, _⟩ := (hB _ _ (hS _ _ _ _ s n1)).ex
    refine ⟨.ref y, frd_raw (FrD.mono n1.g f) hi, y, .ref a, rfl, st_haps (s := sp) (p := p) ▸ DGet.k (k := .inr "haps") e1, a, _, rfl, DGet.r (k := .inr n) (rd_mono n1.k e2), ?_⟩
    have e : (valV kvs (.inr n : Key)).isSome = (getH b.haps n).isSome := by
      rcases pair_get n e3 with ⟨h1, h2⟩ | ⟨_, _, h1, h2, _⟩ <;> rw [h1, h2] <;> rfl
    rw [e]
    exact qq _ G1 H1 n1 (.bl _)
theorem es_in (hS : Stb S) (hB : ∀ G H, S G H → SoR K y G H b) (hi : sl[i]? = some (.raw (.ref y))) (h : Eb K S te sl (.str n)) : Eb K S (tDIn te (tDGet (tVar i) (tC (.str "haps")))) sl (.bl (getH b.haps n).isSome) := fun G H σ k f s Q qq =>
  h G H σ k f s _ fun v G1 H1 n1 r1 => by
    cases r1
    obtain ⟨a, sp, p, pv, e1, ⟨kvs, e2, e3⟩, _⟩ := (hB _ _ (hS _ _ _ _ s n1)).ex
    refine ⟨.ref y, frd_raw (FrD.mono n1.g f) hi, y, .ref a, rfl, st_haps (s := sp) (p := p) ▸ DGet.k (k := .inr "haps") e1, a, _, rfl, DGet.r (k := .inr n) (rd_mono n1.k e2), ?_⟩
    have e : (valV kvs (.inr n : Key)).isSome = (getH b.haps n).isSome := by
      rcases pair_get n e3 with ⟨h1, h2⟩ | ⟨_, _, h1, h2, _⟩ <;> rw [h1, h2] <;> rfl
    rw [e]
    exact qq _ G1 H1 n1 (.bl _)
theorem es_len (hB : ∀ G H, S G H → SoR K y G H b) (hi : sl[i]? = some (.raw (.ref y))) : Eb K S (tCB rLenR (tCons (tDGet (tVar i) (tC (.str "haps"))) tNil)) sl (.int (b.haps.length : Nat)) := fun G H σ k f s Q qq => by
  obtain ⟨a, sp, p, pv, e1, ⟨kvs, e2, e3⟩, _⟩ := (hB _ _ s).ex
  refine ⟨.ref y, frd_raw f hi, y, .ref a, rfl, st_haps (s := sp) (p := p) ▸ DGet.k (k := .inr "haps") e1, a, kvs, rfl, rd_mono k e2, ?_⟩
  rw [← Paired.length e3]
  exact qq _ G H (.refl k) (.int _)
end
/-! ### deeds, and how they are refused -/
inductive Deed
  | put (x y : Dt)
  | drop (x : Dt)
  | turn (x : Dt)
  | push (x : Dt)
  | undo
def Deed.w : Deed → Str
  | .put .. => "put"
  | .drop .. => "drop"
  | .turn .. => "turn"
  | .push .. => "push"
  | .undo => "undo"
def Deed.t : Deed → List Dt
  | .put x y => [x, y]
  | .drop x => [x]
  | .turn x => [x]
  | .push x => [x]
  | .undo => []
def getX (hs : Hps) : Dt → Option (Rat × Rat)
  | .str n => getH hs n
  | _ => none
def ratOf : Dt → Rat
  | .tup [.int t, .int b] => (t : Rat) / (b : Rat)
  | _ => 0
theorem ratOf_fq (q : Rat) : ratOf (fq q) = q := fq_self q
def spdR (x : Dt) : Option Str := if isSpD x = false then some "speed" else if isNon (beatD (ratOf x)) = true then some "plain" else none
def refw (b : Bst) : Deed → Option Str
  | .undo => if b.past.isEmpty = true then some "deed" else none
  | .put x y => if isNm x = false then some "name" else if isHp y = false then some "hap" else if (!(getX b.haps x).isSome && decide (b.haps.length = 12)) = true then some "many" else none
  | .drop x => if (isNm x && (getX b.haps x).isSome) = true then none else some "name"
  | .turn x => spdR x
  | .push x => spdR x
def wD : Option Str → Dt
  | none => .non
  | some s => .str s
def TxtB (x : Dt) : Prop := ∀ s, x = .str s → s.length ≤ 90000
def NmT (x : Dt) : Prop := TxtB x ∧ x ≠ .str "q"
def SpdB (x : Dt) : Prop := Sz x ∧ (isSpD x = true → ∃ v, x = fq v ∧ Sp v ∧ Bq 67 v)
def DeedOk : Deed → Prop
  | .put x y => NmT x ∧ Sz2 y ∧ (isHp y = true → ∃ q : Rat × Rat, y = hpD q ∧ Bq 90 q.1 ∧ Bq 4 q.2)
  | .drop x => TxtB x
  | .turn x => SpdB x
  | .push x => SpdB x
  | .undo => True
theorem isNm_str {x : Dt} (h : isNm x = true) : ∃ n, x = .str n := by
  cases x <;> first | exact ⟨_, rfl⟩ | cases h
/-! ### calls where the books stand -/
section
variable (K : PySem.W.Frag)
def spStQ (R : Bst → List Dt → Dt → Prop) : L2.Sp := fun vs H Q _ => ∃ y ws ds b G d, vs = .ref y :: ws ∧ Ex G H ∧ Rps K G ws ds ∧ SoR K y G H b ∧ R b ds d ∧ ∀ v G2 H2, Nx G H G2 H2 → Rp K G2 v d → Q v H2
def spStD (R : Bst → List Dt → Dt → Bst → Prop) : L2.Sp := fun vs H Q _ => ∃ y p ws ds b G d b', vs = .ref y :: ws ∧ Ex G H ∧ Rps K G ws ds ∧ SoAt K y p G H b ∧ R b ds d b' ∧ ∀ v G2 H2, NxP [y, p] G H G2 H2 → SoAt K y p G2 H2 b' → Rp K G2 v d → Q v H2
def spBnD (C : Addr) (R : Bst → List Dt → Dt → Bst → Prop) : L2.Sp := fun vs H Q _ => ∃ y p ws ds b G d b', vs = .ref y :: ws ∧ Ex G H ∧ Rps K G ws ds ∧ BnAt K C y p G H b ∧ R b ds d b' ∧ ∀ v G2 H2, NxP [y, p] G H G2 H2 → BnAt K C y p G2 H2 b' → Rp K G2 v d → Q v H2
end
section
variable {P : Program} {w : World} {K : PySem.W.Frag} {mg : Str → Option Value} {base : Heap} {x : Str} {st : Stmt} {N ps : List Str} {k : Nat} {C : Addr} {t : TS}
theorem Dd.askS {R : Bst → List Dt → Dt → Prop} (D : Dd K mg x st ps) (S : FnScope N ps (defScope st)) (hl : ∀ b ds d, R b ds d → ds.length + 1 = ps.length)
    (h1 : ∀ (f : Addr) (cdv : Value) (A : Around) (outer : List Env) (s : Shared) (H : Hp) (E : XK), Room k (A.deeper (envOfC x (defScope st) s.heap.objs.size f cdv)) → PSs (cxOf CX0 P w K mg base N x (defScope st) f cdv A outer s H E).nox (defBody st) t)
    (h2 : ∀ y b ds d, R b ds d → Br K [] (fun G H => SoR K y G H b) (fun G H => SoR K y G H b) t (Sl.raw (.ref y) :: (ds.map Sl.d ++ List.replicate (N.length - ps.length) .no)) d) : Has P w K mg base CX0 (k + 1) x ps (spStQ K R) := by
  refine D.any S (fun vs H Q E h => ?_) h1 fun vs H Q E h => ?_
  · obtain ⟨y, ws, ds, b, G, d, rfl, _, r, _, hR, _⟩ := h
    show ws.length + 1 = _
    rw [r.length]
    exact hl b ds d hR
  · obtain ⟨y, ws, ds, b, G, d, rfl, kk, r, hB, hR, qq⟩ := h
    exact h2 y b ds d hR G H _ kk (start_bn r (hl b ds d hR)) hB _ fun v G2 H2 n2 b2 r2 => qq v G2 H2 n2.nx r2
theorem Dd.deedS {R : Bst → List Dt → Dt → Bst → Prop} (D : Dd K mg x st ps) (S : FnScope N ps (defScope st)) (hl : ∀ b ds d b', R b ds d b' → ds.length + 1 = ps.length)
    (h1 : ∀ (f : Addr) (cdv : Value) (A : Around) (outer : List Env) (s : Shared) (H : Hp) (E : XK), Room k (A.deeper (envOfC x (defScope st) s.heap.objs.size f cdv)) → PSs (cxOf CX0 P w K mg base N x (defScope st) f cdv A outer s H E).nox (defBody st) t)
    (h2 : ∀ y p b ds d b', R b ds d b' → Br K [y, p] (fun G H => SoAt K y p G H b) (fun G H => SoAt K y p G H b') t (Sl.raw (.ref y) :: (ds.map Sl.d ++ List.replicate (N.length - ps.length) .no)) d) : Has P w K mg base CX0 (k + 1) x ps (spStD K R) := by
  refine D.any S (fun vs H Q E h => ?_) h1 fun vs H Q E h => ?_
  · obtain ⟨y, p, ws, ds, b, G, d, b', rfl, _, r, _, hR, _⟩ := h
    show ws.length + 1 = _
    rw [r.length]
    exact hl b ds d b' hR
  · obtain ⟨y, p, ws, ds, b, G, d, b', rfl, kk, r, hB, hR, qq⟩ := h
    exact h2 y p b ds d b' hR G H _ kk (start_bn r (hl b ds d b' hR)) hB _ fun v G2 H2 n2 b2 r2 => qq v G2 H2 n2 b2 r2
end
section
variable {K : PySem.W.Frag} {S : Hp → Hp → Prop} {sl : List Sl} {y p : Addr} {b : Bst} {i : Nat} {tr : TA} {xs : List Dt} {d : Dt} {E : XK}
theorem es_call {R : Bst → List Dt → Dt → Prop} (hS : Stb S) (hB : ∀ G H, S G H → SoR K y G H b) (hi : sl[i]? = some (.raw (.ref y))) (h : EbA K S tr sl xs) (hr : R b xs d) : Eb K S (tCall (spStQ K R) [] E (tCons (tVar i) tr)) sl d := fun G H σ k f s Q qq => by
  refine ⟨.ref y, frd_raw f hi, ?_⟩
  exact h G H σ k f s _ fun vs G1 H1 n1 r1 => ⟨y, vs ++ [], xs, b, G1, d, rfl, n1.k, rps_nil r1, hB G1 H1 (hS _ _ _ _ s n1), hr, fun v G2 H2 n2 r2 => qq v G2 H2 (n1.trans n2) r2⟩
end
end Z
namespace Z
open PySem PySem.Spec PyProof.Rows L2 RZ
open Evl (Ex)
/-! ### a law's own books, written -/
def rDictH : List V → Hp → VK → Prop := fun xs H Q => ∃ (a : Addr) (kvs : List (Key × V)), xs = [.ref a] ∧ Rd H a (.dK kvs) ∧ ∀ p, H p = none → Q (.ref p) (upd H p (.dK kvs))
theorem dictH {X : Cx} : CallR X (.type "dict") rDictH := call_dictD
theorem nxp_freeze {us : List Addr} {G H G4 H4 H5 : Hp} {a : Addr} {u : HO} (n : NxP us G H G4 H4) (ha : H a = none) (hg : G4 a = none) (h5 : H5 a = some u) (e : ∀ c, c ≠ a → H5 c = H4 c) : NxP us G H (upd G4 a u) H5 := by
  refine ⟨n.g.trans (Ex.new hg), fun c o q => ?_, fun c o hc q => ?_, fun c hc => ?_, fun c h1 h2 => ?_⟩
  · by_cases z : c = a
    · rw [z, upd_same] at q
      rw [z, ← q]
      exact h5
    · rw [upd_ne z] at q
      rw [e c z]
      exact n.k _ _ q
  · have z : c ≠ a := fun z => by rw [z, ha] at q; cases q
    rw [e c z]
    exact n.h c o hc q
  · have z : c ≠ a := fun z => hc (by rw [z]; exact ha)
    rw [e c z]
    exact n.t c hc
  · have z : c ≠ a := fun z => h2 (by rw [z]; exact ha)
    rw [upd_ne z]
    exact n.f c h1 h2
theorem nxp_write {us : List Addr} {G H : Hp} {y : Addr} {u : HO} (k : Ex G H) (hy : y ∈ us) (gy : G y = none) : NxP us G H G (upd H y u) := by
  refine ⟨fun _ _ e => e, fun c o q => ?_, fun c o hc q => ?_, fun c hc => ?_, fun c h1 _ => h1⟩
  · rw [upd_ne (fun z : c = y => by rw [z, gy] at q; cases q)]
    exact k _ _ q
  · rw [upd_ne (fun z : c = y => hc (by rw [z]; exact hy))]
    exact q
  · by_cases z : c = y
    · rw [z, upd_same]; intro z; cases z
    · rw [upd_ne z]
      exact hc
section
variable {K : PySem.W.Frag} {y p : Addr} {b : Bst} {sl : List Sl} {i : Nat}
/-- the last deed undone -/
theorem bs_undo {h0 : Hps} {s0 : Rat} {pt : List (Hps × Rat)} (hy : sl[0]? = some (.raw (.ref y))) (hp : b.past = pt ++ [(h0, s0)]) :
    Bn K [y, p] (fun G H => SoAt K y p G H b) (fun G H => SoAt K y p G H ⟨h0, s0, pt⟩) (tAsg (tBM0 K "list" rPop (tDGet (tVar 0) (tC (.str "past")))) (gTup K 2 (gCons (gSub (tVar 0) (tC (.str "haps")) rSetD) (gCons (gSub (tVar 0) (tC (.str "speed")) rSetD) gNil)))) sl fun _ => True := fun G H σ k f s D qq => by
  obtain ⟨a, sp, pv, e1, e2, e3, e4, e5⟩ := s.ex
  rw [hp] at e5
  obtain ⟨r0, v, rfl, e6, ⟨q, a1, s1, rfl, t1, t2, t3⟩⟩ := paired_last e5
  have fy := frd_raw f hy
  have nyp := s.ne
  have gy := s.gy
  have gp := s.gp
  refine ⟨.ref y, fy, y, .ref p, rfl, st_past (a := a) (s := sp) ▸ DGet.k (k := .inr "past") e1, ⟨.inl ⟨rfl, ⟨_, .inl (.inl e4)⟩⟩, p, _, .ref q, rfl, rfl, e4, by simp, ?_⟩⟩
  rw [List.dropLast_concat]
  have n1 : NxP [y, p] G H G (upd H p (.lst r0)) := nxp_write k (by simp) gp
  have ey : upd H p (.lst r0) y = some (.dK (stD a sp p)) := by rw [upd_ne nyp]; exact e1
  have l3 : ∀ (a : Addr) (s : V), (stD a s p).length < sizeLine := fun _ _ => by exact Nat.lt_of_lt_of_le (m := 100000) (by show 3 < 100000; decide) (by decide)
  refine ⟨q, [.ref a1, s1], rfl, exT n1.k t1, rfl, .ref a1, [s1], rfl, .ref y, fy, ?_⟩
  refine ⟨y, _, rfl, DPut.k (k := .inr "haps") ey (l3 _ _), ?_⟩
  rw [st_put1]
  refine ⟨s1, [], rfl, .ref y, fy, ?_⟩
  refine ⟨y, _, rfl, DPut.k (k := .inr "speed") upd_same (l3 _ _), rfl, ?_⟩
  rw [st_put2, upd_upd]
  have n2 := n1.trans (nxp_write (u := .dK (stD a1 s1 p)) n1.k (by simp) gy)
  exact qq _ sl G _ trivial n2 ⟨⟨a1, s1, r0, upd_same, t2, t3, by rw [upd_ne nyp.symm, upd_same], e6⟩, gy, gp⟩ f
/-- what is so now, kept for undoing -/
theorem bs_past (hy : sl[0]? = some (.raw (.ref y))) (hl : b.past.length ≤ 90000) :
    Bn K [y, p] (fun G H => SoAt K y p G H b) (fun G H => SoAt K y p G H ⟨b.haps, b.speed, b.past ++ [(b.haps, b.speed)]⟩) (tDrop (tBM K "list" rAppend (tDGet (tVar 0) (tC (.str "past"))) (tCons (tTup (tCons (tDGet (tVar 0) (tC (.str "haps"))) (tCons (tDGet (tVar 0) (tC (.str "speed"))) tNil))) tNil))) sl fun s => s = sl := fun G H σ k f s D qq => by
  obtain ⟨a, sp, pv, e1, e2, e3, e4, e5⟩ := s.ex
  have fy := frd_raw f hy
  have nyp := s.ne
  have lp : pv.length = b.past.length := (Paired.length e5).symm
  refine ⟨.ref y, fy, y, .ref p, rfl, st_past (a := a) (s := sp) ▸ DGet.k (k := .inr "past") e1, ⟨.inl ⟨rfl, ⟨_, .inl (.inl e4)⟩⟩, ?_⟩⟩
  refine ⟨.ref y, fy, y, .ref a, rfl, st_haps (s := sp) (p := p) ▸ DGet.k (k := .inr "haps") e1, .ref y, fy, y, sp, rfl, st_speed (a := a) (p := p) ▸ DGet.k (k := .inr "speed") e1, by exact sz_ok (by exact Nat.le_of_ble_eq_true rfl), fun t o ht ho => ?_⟩
  have nty : y ≠ t := ne_of_none e1 ht
  have ntp : p ≠ t := ne_of_none e4 ht
  have nn : Nx G H (upd G t (.frz o (.tup [.ref a, sp]))) (upd H t (.frz o (.tup [.ref a, sp]))) := .new k ht
  have s2 := s.nx nn
  refine ⟨p, pv, .ref t, rfl, rfl, by rw [upd_ne ntp]; exact e4, by rw [lp]; exact Nat.lt_of_le_of_lt hl (Nat.lt_of_lt_of_le (m := 100000) (by decide) (by decide)), ?_⟩
  have n2 : NxP [y, p] G H (upd G t (.frz o (.tup [.ref a, sp]))) (upd (upd H t (.frz o (.tup [.ref a, sp]))) p (.lst (pv ++ [.ref t]))) := nn.p.trans (nxp_write nn.k (by simp) s2.gp)
  refine qq _ sl _ _ rfl n2 ⟨⟨a, sp, pv ++ [.ref t], by rw [upd_ne nyp, upd_ne nty]; exact e1, e2.mono nn.g, e3.mono nn.g, upd_same, paired_snoc (L2.Paired.mapP e5 fun _ _ r => PstR.mono nn.g r) ⟨t, a, sp, rfl, sqx_new ho, e2.mono nn.g, e3.mono nn.g⟩⟩, s2.gy, s2.gp⟩ (FrD.mono nn.g f)
/-- a copy of the haps is made, and stands for the time being -/
theorem bs_copy {D : Ends} {σ : L2.St} {G H : Hp} (k : Ex G H) (f : FrD K G σ sl) (s : SoAt K y p G H b) (hy : sl[0]? = some (.raw (.ref y)))
    (q : ∀ (a2 : Addr) (sp : V) (pv : List V) (kvs : List (Key × V)) (H1 : Hp), H a2 = none → G a2 = none → NxP [y, p] G H G H1 → H1 y = some (.dK (stD a2 sp p)) → H1 a2 = some (.dK kvs) → Paired (KvR K G) b.haps kvs → Rp K G sp (fq b.speed) → H1 p = some (.lst pv) → Paired (PstR K G) b.past pv → D.nx σ H1) :
    sDPut (tVar 0) (tC (.str "haps")) (tCB rDictH (tCons (tDGet (tVar 0) (tC (.str "haps"))) tNil)) D σ H := by
  obtain ⟨a, sp, pv, e1, ⟨kvs, e2, e3⟩, e4, e5, e6⟩ := s.ex
  have fy := frd_raw f hy
  refine ⟨.ref y, fy, y, .ref a, rfl, st_haps (s := sp) (p := p) ▸ DGet.k (k := .inr "haps") e1, a, kvs, rfl, .inl (k _ _ e2), fun a2 ha2 => ?_⟩
  have nya : y ≠ a2 := ne_of_none e1 ha2
  have npa : p ≠ a2 := ne_of_none e5 ha2
  have nyp := s.ne
  refine ⟨.ref y, fy, y, _, rfl, DPut.k (k := .inr "haps") (by rw [upd_ne nya]; exact e1) (by exact Nat.lt_of_lt_of_le (m := 100000) (by show 3 < 100000; decide) (by decide)), ?_⟩
  rw [st_put1]
  have ga2 : G a2 = none := free_of k ha2
  have n1 : NxP [y, p] G H G (upd H a2 (.dK kvs)) := by
    refine ⟨fun _ _ e => e, fun c o e => ?_, fun c o hc e => ?_, fun c hc => ?_, fun c h1 _ => h1⟩
    · rw [upd_ne (fun z : c = a2 => by rw [z, ga2] at e; cases e)]
      exact k _ _ e
    · rw [upd_ne (fun z : c = a2 => by rw [z, ha2] at e; cases e)]
      exact e
    · rw [upd_ne (fun z : c = a2 => hc (by rw [z]; exact ha2))]
      exact hc
  exact q a2 sp pv kvs _ ha2 ga2 (n1.trans (nxp_write n1.k (by simp) s.gy)) upd_same (by rw [upd_ne nya.symm, upd_same]) e3 e4 (by rw [upd_ne nyp.symm, upd_ne npa]; exact e5) e6
theorem br_two {us : List Addr} {S S1 S2 : Hp → Hp → Prop} {N : List Sl → Prop} {t u r : TS} {d : Dt} (h : Bn K us S S1 (tSeq t u) sl N) (g : ∀ s, N s → Br K us S1 S2 r s d) : Br K us S S2 (tSeq t (tSeq u r)) sl d := fun G H σ k f s D q =>
  h G H σ k f s { D with nx := r D } fun σ1 sl1 G1 H1 m1 n1 s1 f1 => g sl1 m1 G1 H1 σ1 n1.k f1 s1 D fun v G2 H2 n2 => q v G2 H2 (n1.trans n2)
/-- a hap put -/
theorem bs_put {n : Str} {q : Rat × Rat} {tc : TT} {tk tv : TE} {u : TS} (hy : sl[0]? = some (.raw (.ref y))) (hl : b.haps.length ≤ 90000) (hc : EvT K tc sl true) (hk : Ev K tk sl (.str n)) (hv : Ev K tv sl (hpD q)) :
    Bn K [y, p] (fun G H => SoAt K y p G H b) (fun G H => SoAt K y p G H ⟨putH b.haps n q, b.speed, b.past⟩) (tSeq (sDPut (tVar 0) (tC (.str "haps")) (tCB rDictH (tCons (tDGet (tVar 0) (tC (.str "haps"))) tNil))) (tIfS tc (sDPut (tDGet (tVar 0) (tC (.str "haps"))) tk tv) u)) sl fun s => s = sl := fun G H σ k f s D qq => by
  refine bs_copy (D := { D with nx := fun σ' H' => tIfS tc (sDPut (tDGet (tVar 0) (tC (.str "haps"))) tk tv) u D σ' H' }) k f s hy fun a2 sp pv kvs H1 ha2 ga2 n1 e1 e2 e3 e4 e5 e6 => ?_
  refine hc G H1 σ n1.k f _ fun G2 H2 n2 => ?_
  show sDPut _ _ _ D σ H2
  refine hv G2 H2 σ n2.k (FrD.mono n2.g f) _ fun v G3 H3 n3 r3 => ?_
  have n23 := n2.trans n3
  have ey := n23.h y _ e1
  have ea := n23.h a2 _ e2
  refine ⟨.ref y, frd_raw f hy, y, .ref a2, rfl, st_haps (s := sp) (p := p) ▸ DGet.k (k := .inr "haps") ey, ?_⟩
  refine hk G3 H3 σ n3.k (FrD.mono n23.g f) _ fun w G4 H4 n4 r4 => ?_
  cases r4
  have n24 := n23.trans n4
  have ey := n24.h y _ e1
  have ea := n24.h a2 _ e2
  have g4 : G4 a2 = none := n24.f a2 ga2 (by rw [e2]; intro z; cases z)
  have lk : kvs.length = b.haps.length := (Paired.length e3).symm
  refine ⟨a2, _, rfl, DPut.k (k := .inr n) ea (by rw [lk]; exact Nat.lt_of_le_of_lt hl (Nat.lt_of_lt_of_le (m := 100000) (by decide) (by decide))), ?_⟩
  have nya : y ≠ a2 := fun z => by
    have h := s.ex
    obtain ⟨_, _, _, h, _⟩ := h
    rw [z, ha2] at h
    cases h
  have npa : p ≠ a2 := fun z => by
    obtain ⟨_, _, _, _, _, _, h, _⟩ := s.ex
    rw [z, ha2] at h
    cases h
  have fz : NxP [y, p] G H (upd G4 a2 (.dK (putK kvs (.inr n) v))) (upd H4 a2 (.dK (putK kvs (.inr n) v))) := nxp_freeze (n1.trans n24.p) ha2 g4 upd_same fun c hc => upd_ne hc
  have gg : Ex G (upd G4 a2 (.dK (putK kvs (.inr n) v))) := fz.g
  have g3 : Ex G3 (upd G4 a2 (.dK (putK kvs (.inr n) v))) := n4.g.trans (Ex.new g4)
  refine qq σ sl _ _ rfl fz ⟨⟨a2, sp, pv, by rw [upd_ne nya]; exact ey, ⟨_, upd_same, pair_put n (L2.Paired.mapP e3 fun _ _ ⟨r1, r2⟩ => ⟨r1, r2.mono gg⟩) (r3.mono g3)⟩, e4.mono gg, by rw [upd_ne npa]; exact n24.h p _ e5, L2.Paired.mapP e6 fun _ _ r => PstR.mono gg r⟩, ?_, ?_⟩ (FrD.mono gg f)
  · rw [upd_ne nya]
    exact n24.f y s.gy (by rw [e1]; intro z; cases z)
  · rw [upd_ne npa]
    exact n24.f p s.gp (by rw [e5]; intro z; cases z)
/-- a hap dropped -/
theorem bs_drop {n : Str} {tc td : TT} {tk : TE} {t u : TS} (hy : sl[0]? = some (.raw (.ref y))) (hg : getH b.haps n ≠ none) (hc : EvT K tc sl false) (hd : EvT K td sl true) (hk : Ev K tk sl (.str n)) :
    Bn K [y, p] (fun G H => SoAt K y p G H b) (fun G H => SoAt K y p G H ⟨dropH b.haps n, b.speed, b.past⟩) (tSeq (sDPut (tVar 0) (tC (.str "haps")) (tCB rDictH (tCons (tDGet (tVar 0) (tC (.str "haps"))) tNil))) (tIfS tc t (tIfS td (tDrop (tDPop1 (tDGet (tVar 0) (tC (.str "haps"))) tk)) u))) sl fun s => s = sl := fun G H σ k f s D qq => by
  refine bs_copy (D := { D with nx := fun σ' H' => tIfS tc t (tIfS td (tDrop (tDPop1 (tDGet (tVar 0) (tC (.str "haps"))) tk)) u) D σ' H' }) k f s hy fun a2 sp pv kvs H1 ha2 ga2 n1 e1 e2 e3 e4 e5 e6 => ?_
  refine hc G H1 σ n1.k f _ fun G2 H2 n2 => ?_
  show tIfS td _ u D σ H2
  refine hd G2 H2 σ n2.k (FrD.mono n2.g f) _ fun G3 H3 n3 => ?_
  rw [if_pos rfl]
  have n23 := n2.trans n3
  have ey := n23.h y _ e1
  have ea := n23.h a2 _ e2
  refine ⟨.ref y, frd_raw f hy, y, .ref a2, rfl, st_haps (s := sp) (p := p) ▸ DGet.k (k := .inr "haps") ey, a2, rfl, .inl ⟨kvs, .inl ea⟩, ?_⟩
  refine hk G3 H3 σ n3.k (FrD.mono n23.g f) _ fun w G4 H4 n4 r4 => ?_
  cases r4
  have n24 := n23.trans n4
  have ey := n24.h y _ e1
  have ea := n24.h a2 _ e2
  have g4 : G4 a2 = none := n24.f a2 ga2 (by rw [e2]; intro z; cases z)
  obtain ⟨v, hv⟩ : ∃ v, valV kvs (.inr n : Key) = some v := by
    rcases pair_get n e3 with ⟨g1, _⟩ | ⟨_, v, _, g2, _⟩
    · exact absurd g1 hg
    · exact ⟨v, g2⟩
  refine ⟨kvs, .inr n, v, ea, rfl, hv, ?_⟩
  have nya : y ≠ a2 := fun z => by
    obtain ⟨_, _, _, h, _⟩ := s.ex
    rw [z, ha2] at h
    cases h
  have npa : p ≠ a2 := fun z => by
    obtain ⟨_, _, _, _, _, _, h, _⟩ := s.ex
    rw [z, ha2] at h
    cases h
  have fz : NxP [y, p] G H (upd G4 a2 (.dK (dropK kvs (.inr n)))) (upd H4 a2 (.dK (dropK kvs (.inr n)))) := nxp_freeze (n1.trans n24.p) ha2 g4 upd_same fun c hc => upd_ne hc
  have gg := fz.g
  refine qq σ sl _ _ rfl fz ⟨⟨a2, sp, pv, by rw [upd_ne nya]; exact ey, ⟨_, upd_same, pair_drop n (L2.Paired.mapP e3 fun _ _ ⟨r1, r2⟩ => ⟨r1, r2.mono gg⟩)⟩, e4.mono gg, by rw [upd_ne npa]; exact n24.h p _ e5, L2.Paired.mapP e6 fun _ _ r => PstR.mono gg r⟩, ?_, ?_⟩ (FrD.mono gg f)
  · rw [upd_ne nya]
    exact n24.f y s.gy (by rw [e1]; intro z; cases z)
  · rw [upd_ne npa]
    exact n24.f p s.gp (by rw [e5]; intro z; cases z)
/-- another speed, the haps in a copy -/
theorem bs_spd {v : Rat} {tc td : TT} {tv : TE} {t u : TS} (hy : sl[0]? = some (.raw (.ref y))) (hc : EvT K tc sl false) (hd : EvT K td sl false) (hv : Eb K (fun G H => ∃ a s, H y = some (.dK (stD a s p)) ∧ Rp K G s (fq b.speed)) tv sl (fq v)) :
    Bn K [y, p] (fun G H => SoAt K y p G H b) (fun G H => SoAt K y p G H ⟨b.haps, v, b.past⟩) (tSeq (sDPut (tVar 0) (tC (.str "haps")) (tCB rDictH (tCons (tDGet (tVar 0) (tC (.str "haps"))) tNil))) (tIfS tc t (tIfS td u (sDPut (tVar 0) (tC (.str "speed")) tv)))) sl fun s => s = sl := fun G H σ k f s D qq => by
  refine bs_copy (D := { D with nx := fun σ' H' => tIfS tc t (tIfS td u (sDPut (tVar 0) (tC (.str "speed")) tv)) D σ' H' }) k f s hy fun a2 sp pv kvs H1 ha2 ga2 n1 e1 e2 e3 e4 e5 e6 => ?_
  refine hc G H1 σ n1.k f _ fun G2 H2 n2 => ?_
  show tIfS td u _ D σ H2
  refine hd G2 H2 σ n2.k (FrD.mono n2.g f) _ fun G3 H3 n3 => ?_
  show sDPut _ _ _ D σ H3
  have n23 := n2.trans n3
  refine hv G3 H3 σ n3.k (FrD.mono n23.g f) ⟨a2, sp, n23.h y _ e1, e4.mono n23.g⟩ _ fun w G4 H4 n4 r4 => ?_
  have n24 := n23.trans n4
  have ey := n24.h y _ e1
  have ea := n24.h a2 _ e2
  have g4 : G4 a2 = none := n24.f a2 ga2 (by rw [e2]; intro z; cases z)
  have nya : y ≠ a2 := fun z => by
    obtain ⟨_, _, _, h, _⟩ := s.ex
    rw [z, ha2] at h
    cases h
  have npa : p ≠ a2 := fun z => by
    obtain ⟨_, _, _, _, _, _, h, _⟩ := s.ex
    rw [z, ha2] at h
    cases h
  have fz : NxP [y, p] G H (upd G4 a2 (.dK kvs)) H4 := nxp_freeze (n1.trans n24.p) ha2 g4 ea fun _ _ => rfl
  have gy : (upd G4 a2 (.dK kvs)) y = none := by
    rw [upd_ne nya]
    exact n24.f y s.gy (by rw [e1]; intro z; cases z)
  have gp : (upd G4 a2 (.dK kvs)) p = none := by
    rw [upd_ne npa]
    exact n24.f p s.gp (by rw [e5]; intro z; cases z)
  have gg := fz.g
  refine ⟨.ref y, frd_raw f hy, y, _, rfl, DPut.k (k := .inr "speed") ey (by exact Nat.lt_of_lt_of_le (m := 100000) (by show 3 < 100000; decide) (by decide)), ?_⟩
  rw [st_put2]
  refine qq σ sl _ _ rfl (fz.trans (nxp_write fz.k (by simp) gy)) ⟨⟨a2, w, pv, upd_same, ⟨kvs, upd_same, L2.Paired.mapP e3 fun _ _ ⟨r1, r2⟩ => ⟨r1, r2.mono gg⟩⟩, r4.mono (Ex.new g4), by rw [upd_ne s.ne.symm]; exact n24.h p _ e5, L2.Paired.mapP e6 fun _ _ r => PstR.mono gg r⟩, gy, gp⟩ (FrD.mono gg f)
theorem stb_w : Stb fun (G H : Hp) => ∃ a s, H y = some (.dK (stD a s p)) ∧ Rp K G s (fq b.speed) := fun G H G2 H2 ⟨a, s, h1, h2⟩ n => ⟨a, s, n.h _ _ h1, h2.mono n.g⟩
theorem ew_speed (hi : sl[i]? = some (.raw (.ref y))) : Eb K (fun (G H : Hp) => ∃ a s, H y = some (.dK (stD a s p)) ∧ Rp K G s (fq b.speed)) (tDGet (tVar i) (tC (.str "speed"))) sl (fq b.speed) := fun G H σ k f ⟨a, sp, e1, e3⟩ Q qq =>
  ⟨.ref y, frd_raw f hi, y, sp, rfl, st_speed (a := a) (p := p) ▸ DGet.k (k := .inr "speed") e1, qq _ G H (.refl k) e3⟩
end
/-! ### what a deed makes of a bench -/
def Aft (b : Bst) : Deed → Bst → Prop
  | .undo, b' => ∃ (h0 : Hps) (s0 : Rat) (pt : List (Hps × Rat)), b.past = pt ++ [(h0, s0)] ∧ b' = ⟨h0, s0, pt⟩
  | .put x y, b' => ∃ (n : Str) (q : Rat × Rat), x = .str n ∧ y = hpD q ∧ b' = ⟨putH b.haps n q, b.speed, b.past ++ [(b.haps, b.speed)]⟩
  | .drop x, b' => ∃ n : Str, x = .str n ∧ getH b.haps n ≠ none ∧ b' = ⟨dropH b.haps n, b.speed, b.past ++ [(b.haps, b.speed)]⟩
  | .turn x, b' => ∃ v w : Rat, x = fq v ∧ Pl v w ∧ Bq 67 v ∧ b' = ⟨b.haps, v, b.past ++ [(b.haps, b.speed)]⟩
  | .push x, b' => ∃ v w : Rat, x = fq v ∧ Pl v w ∧ Bq 67 v ∧ b' = ⟨b.haps, jn b.speed v, b.past ++ [(b.haps, b.speed)]⟩
structure SpB (b : Bst) : Prop where
  l1 : b.haps.length ≤ 90000
  l2 : b.past.length ≤ 90000
  s : Sp b.speed
  q : Bq 4000 b.speed
/-- a deed's answer, and what is so behind it -/
def DoneR (b : Bst) (de : Deed) (d : Dt) (b' : Bst) : Prop := (∃ w, refw b de = some w ∧ d = .str w ∧ b' = b) ∨ (refw b de = none ∧ d = .non ∧ Aft b de b')
theorem aft_ex {b : Bst} {de : Deed} (ok : DeedOk de) (h : refw b de = none) : ∃ b', Aft b de b' := by
  have pln : ∀ {x : Dt}, SpdB x → spdR x = none → ∃ v w, x = fq v ∧ Pl v w ∧ Bq 67 v := fun {x} ⟨_, o⟩ h => by
    unfold spdR at h
    cases hs : isSpD x with
    | false =>
      rw [if_pos hs] at h
      cases h
    | true =>
      rw [if_neg (by rw [hs]; intro z; cases z)] at h
      obtain ⟨v, rfl, sv, bv⟩ := o hs
      rw [ratOf_fq] at h
      cases hb : isNon (beatD v) with
      | true =>
        rw [if_pos hb] at h
        cases h
      | false =>
        rcases beat_cases sv with ⟨w, w1, w2, _⟩ | ⟨e, _⟩
        · exact ⟨v, w, rfl, ⟨sv, w1, w2⟩, bv⟩
        · rw [e] at hb
          cases hb
  cases de with
  | undo =>
    have h : (if b.past.isEmpty = true then some ("deed" : Str) else none) = none := h
    cases hp : b.past.reverse with
    | nil =>
      have e : b.past = [] := List.reverse_eq_nil_iff.mp hp
      rw [e] at h
      cases h
    | cons l r => exact ⟨_, l.1, l.2, r.reverse, by rw [← List.reverse_reverse b.past, hp, List.reverse_cons], rfl⟩
  | put x z =>
    have h : (if isNm x = false then some ("name" : Str) else if isHp z = false then some "hap" else if (!(getX b.haps x).isSome && decide (b.haps.length = 12)) = true then some "many" else none) = none := h
    obtain ⟨_, _, o3⟩ := ok
    cases hn : isNm x with
    | false => rw [if_pos hn] at h; cases h
    | true =>
      rw [if_neg (by rw [hn]; intro z; cases z)] at h
      cases hh : isHp z with
      | false => rw [if_pos hh] at h; cases h
      | true =>
        obtain ⟨n, rfl⟩ := isNm_str hn
        obtain ⟨q, rfl, _⟩ := o3 hh
        exact ⟨_, n, q, rfl, rfl, rfl⟩
  | drop x =>
    have h : (if (isNm x && (getX b.haps x).isSome) = true then none else some ("name" : Str)) = none := h
    cases hn : isNm x with
    | false => rw [hn, Bool.false_and, if_neg (by intro z; cases z)] at h; cases h
    | true =>
      obtain ⟨n, rfl⟩ := isNm_str hn
      rw [hn, Bool.true_and] at h
      refine ⟨_, n, rfl, fun z => ?_, rfl⟩
      rw [show getX b.haps (.str n) = getH b.haps n from rfl, z] at h
      cases h
  | turn x =>
    obtain ⟨v, w, rfl, h1, h2⟩ := pln ok h
    exact ⟨_, v, w, rfl, h1, h2, rfl⟩
  | push x =>
    obtain ⟨v, w, rfl, h1, h2⟩ := pln ok h
    exact ⟨_, v, w, rfl, h1, h2, rfl⟩
theorem done_ex {b : Bst} {de : Deed} (ok : DeedOk de) : ∃ d b', DoneR b de d b' := by
  cases h : refw b de with
  | some w => exact ⟨_, _, .inl ⟨w, h, rfl, rfl⟩⟩
  | none =>
    obtain ⟨b', hb⟩ := aft_ex ok h
    exact ⟨_, b', .inr ⟨h, rfl, hb⟩⟩
end Z
namespace Z
open PySem PySem.Spec PyProof.Rows L2 RZ
open Evl (Ex)
/-! ### o.m(..) where what is raised is wished for at the slots -/
def tMethE (C : Addr) (m : Str) (sp : L2.Sp) (E : L2.St → XK) (ta : TE) (t : TA) : TE := fun σ H Q => tMeth C m sp [] (E σ) ta t σ H Q
section
variable {X : Cx} {CX : CXT} {k j : Nat} {x m : Str} {ps : List Str} {sp : L2.Sp} {p pos apos : Pos} {o e : Expr} {es : List Expr} {ta : TE} {t : TA} {E : L2.St → XK} {C : Addr}
theorem pe_mhS {pl : Sem Bool} (c : HasM X.prog X.w X.K X.mg X.base CX k C m ps sp) (cl : Cls X.K C) (hr : Room j X.A) (hk : k ≤ j) (hx : ∀ σ, PassesAt CX X σ (E σ)) (ho : PE X o ta) (ha : PA X (e :: es) t)
    (hst : starEach (e :: es) X.env = (false, eval e X.env) :: starEach es X.env := by rfl) (hpl : (backTo pos (starEach es X.env)).any (·.1) = false := by rfl)
    (ht : eval (.Call (.Attribute o m apos) (e :: es) [] pos) X.env = (do
      let ov ← eval o X.env
      standAt apos.atName
      let (f, first) ← holding [ov] (getMethod ov m pl)
      callWith pos f first (backTo pos (starEach (e :: es) X.env)) (backToKw pos (keywordEach [] X.env))) := by rfl) :
    PE X (.Call (.Attribute o m apos) (e :: es) [] pos) (tMethE C m sp E ta t) := by
  obtain ⟨f, fd, F, hm, b⟩ := c.ex
  refine ⟨fun pins s σ H Q I h => ?_⟩
  refine PySem.W.methodCall_KW (pl := pl) (thn (ho.run pins s σ H _ I h) fun u s1 ⟨x, H1, I1, rx, a, dx, fs, ex, ea, l, q⟩ => ?_) ht
  subst ex
  obtain rfl : u = Value.ref a := rx
  refine getmeth_ok I1 ea cl hm l ?_
  refine PySem.W.callWith_K (first := [.ref a]) (h₀ := X.base) I.ok.mod.kin hm.kp (thn (ha.run pos pins s1 σ H1 _ I1 q) fun us s2 ⟨vs, H2, I2, r, q2⟩ => ⟨I2.kIn, ?_⟩) hst hpl
  exact run_fnSD (us := .ref a :: us) (vs := .ref a :: vs) (dvs := []) F (hr.mono hk) b .nil (hx σ) I2 (.cons rfl r) q2
theorem pe_mhS0 {pl : Sem Bool} (c : HasM X.prog X.w X.K X.mg X.base CX k C m ps sp) (cl : Cls X.K C) (hr : Room j X.A) (hk : k ≤ j) (hx : ∀ σ, PassesAt CX X σ (E σ)) (ho : PE X o ta)
    (ht : eval (.Call (.Attribute o m apos) [] [] pos) X.env = (do
      let ov ← eval o X.env
      standAt apos.atName
      let (f, first) ← holding [ov] (getMethod ov m pl)
      callWith pos f first (backTo pos (starEach [] X.env)) (backToKw pos (keywordEach [] X.env))) := by rfl) :
    PE X (.Call (.Attribute o m apos) [] [] pos) (tMethE C m sp E ta tNil) := by
  obtain ⟨f, fd, F, hm, b⟩ := c.ex
  refine ⟨fun pins s σ H Q I h => ?_⟩
  refine PySem.W.methodCall_KW (pl := pl) (thn (ho.run pins s σ H _ I h) fun u s1 ⟨x, H1, I1, rx, a, dx, fs, ex, ea, l, q⟩ => ?_) ht
  subst ex
  obtain rfl : u = Value.ref a := rx
  refine getmeth_ok I1 ea cl hm l ?_
  exact PySem.W.callWith_K0 (first := [.ref a]) I1.kIn hm.kp (run_fnSD (us := [.ref a]) (vs := [.ref a]) (dvs := []) F (hr.mono hk) b .nil (hx σ) I1 (.cons rfl .nil) q)
end
/-! ### try, where a world stands -/
def Tw (K : PySem.W.Frag) (us : List Addr) (S S2 : Hp → Hp → Prop) (tb : WX → TS) (sl : List Sl) (o : Oc) (N : List Sl → Prop) : Prop := ∀ (G H : Hp) (σ : L2.St), Ex G H → FrD K G σ sl → S G H → ∀ (D : Ends) (W : WX),
  (∀ d, o = .ret d → ∀ v G2 H2, NxP us G H G2 H2 → S2 G2 H2 → Rp K G2 v d → D.rt v H2) → (o = .go → ∀ σ2 sl2 G2 H2, N sl2 → NxP us G H G2 H2 → S2 G2 H2 → FrD K G2 σ2 sl2 → D.nx σ2 H2) → (∀ c, o = .out c → ∀ G2 H2, Nx G H G2 H2 → W c none σ H2) → tb W D σ H
section
variable {K : PySem.W.Frag} {us : List Addr} {S S2 S3 : Hp → Hp → Prop} {sl : List Sl} {t u : WX → TS} {o : Oc} {N : List Sl → Prop} {tc : TT} {b : Bool} {C x p : Addr} {bs bs' : Bst} {tr : TA} {xs : List Dt} {c : Value} {d : Dt} {i j : Nat} {m : Str} {M : Value} {Kd : Addr → Str → Prop} {ts : TS}
theorem tw_if (hS : Stb S) (h : EbT K S tc sl b) (h1 : b = true → Tw K us S S2 t sl o N) (h2 : b = false → Tw K us S S2 u sl o N) : Tw K us S S2 (fun W => tIfS tc (t W) (u W)) sl o N := fun G H σ k f s D W q1 q2 q3 => h G H σ k f s _ fun G1 H1 n1 => by
  cases b with
  | true =>
    show t W D σ H1
    exact h1 rfl G1 H1 σ n1.k (FrD.mono n1.g f) (hS _ _ _ _ s n1) D W (fun d e v G2 H2 n2 => q1 d e v G2 H2 (n1.p.trans n2)) (fun e σ2 sl2 G2 H2 w n2 => q2 e σ2 sl2 G2 H2 w (n1.p.trans n2)) fun c e G2 H2 n2 => q3 c e G2 H2 (n1.trans n2)
  | false =>
    show u W D σ H1
    exact h2 rfl G1 H1 σ n1.k (FrD.mono n1.g f) (hS _ _ _ _ s n1) D W (fun d e v G2 H2 n2 => q1 d e v G2 H2 (n1.p.trans n2)) (fun e σ2 sl2 G2 H2 w n2 => q2 e σ2 sl2 G2 H2 w (n1.p.trans n2)) fun c e G2 H2 n2 => q3 c e G2 H2 (n1.trans n2)
theorem tw_deed {R : Bst → List Dt → Bst → Prop} {XF : Bst → List Dt → Value → Prop} (hi : sl[i]? = some (.raw (.ref x))) (hm1 : ¬ m = "_past") (hm2 : ¬ m = "_speed") (hm3 : ¬ m = "_haps") (h : EvA K tr sl xs) (hr : R bs xs bs') :
    Tw K [x, p] (fun G H => BnAt K C x p G H bs) (fun G H => BnAt K C x p G H bs') (fun W => tAsg (tMethE C m (spBd K C R XF) (fun σ c d H => W c d σ H) (tVar i) tr) (gName j)) sl .go fun s => s = sl.set j (.d .non) := fun G H σ k f s D W q1 q2 q3 => by
  obtain ⟨dx, a, sp, pv, h1, _⟩ := s.ex
  refine ⟨.ref x, frd_raw f hi, x, dx, _, rfl, h1, flds_no _ _ _ hm1 hm2 hm3, ?_⟩
  refine h G H σ k f _ fun vs G1 H1 n1 r1 => ⟨x, p, vs ++ [], xs, bs, G1, rfl, n1.k, rps_nil r1, s.nx n1, .inl ⟨bs', hr, fun G2 H2 n2 b2 => ?_⟩⟩
  exact q2 rfl _ _ G2 H2 rfl (n1.p.trans n2) b2 (frd_set (.d .non) j (FrD.mono (n1.g.trans n2.g) f))
theorem tw_deedX {R : Bst → List Dt → Bst → Prop} {XF : Bst → List Dt → Value → Prop} (hi : sl[i]? = some (.raw (.ref x))) (hm1 : ¬ m = "_past") (hm2 : ¬ m = "_speed") (hm3 : ¬ m = "_haps") (h : EvA K tr sl xs) (hX : XF bs xs c) :
    Tw K us (fun G H => BnAt K C x p G H bs) S2 (fun W => tAsg (tMethE C m (spBd K C R XF) (fun σ c d H => W c d σ H) (tVar i) tr) (gName j)) sl (.out c) N := fun G H σ k f s D W q1 q2 q3 => by
  obtain ⟨dx, a, sp, pv, h1, _⟩ := s.ex
  refine ⟨.ref x, frd_raw f hi, x, dx, _, rfl, h1, flds_no _ _ _ hm1 hm2 hm3, ?_⟩
  exact h G H σ k f _ fun vs G1 H1 n1 r1 => ⟨x, p, vs ++ [], xs, bs, G1, rfl, n1.k, rps_nil r1, s.nx n1, .inr ⟨c, hX, fun G2 H2 n2 => q3 c rfl G2 H2 (n1.trans n2)⟩⟩
theorem br_try_go (h : Tw K us S S2 t sl .go N) (g : ∀ s, N s → Br K us S2 S3 ts s d) : Br K us S S3 (tSeq (tTry K M i (fun a cls dd => tRet (tKind Kd i a cls dd)) (fun _ _ _ _ => False) t) ts) sl d := fun G H σ k f s D q =>
  h G H σ k f s { D with nx := ts D } _ (fun x e => by cases e) (fun _ σ2 sl2 G2 H2 w n2 s2 f2 => g sl2 w G2 H2 σ2 n2.k f2 s2 D fun v G3 H3 n3 => q v G3 H3 (n2.trans n3)) fun c e => by cases e
theorem br_try_out (hS : Stb S) (h : Tw K us S S t sl (.out c) N) (hi : i < sl.length) (ok : ∃ C ans, c = .ref C ∧ PySem.W.exmOne K (.ref C) M = some true ∧ Kd C ans ∧ d = .str ans) : Br K us S S (tSeq (tTry K M i (fun a cls dd => tRet (tKind Kd i a cls dd)) (fun _ _ _ _ => False) t) ts) sl d := fun G H σ k f s D q =>
  h G H σ k f s { D with nx := ts D } _ (fun x e => by cases e) (fun e => by cases e) fun c' e G2 H2 n2 => by
    cases e
    obtain ⟨C, ans, rfl, h1, h2, rfl⟩ := ok
    exact was_kind (D := { D with nx := ts D }) h1 h2 (by rw [frd_len f]; exact hi) n2.k fun v G3 H3 n3 r3 => q v G3 H3 (n2.trans n3).p (hS _ _ _ _ s (n2.trans n3)) r3
end
/-! ### which refusal it is -/
theorem ref_put {b : Bst} {x z : Dt} {w : Str} (h : refw b (.put x z) = some w) : (isNm x = false ∧ w = "name") ∨ (isNm x = true ∧ isHp z = false ∧ w = "hap") ∨ ∃ n, x = .str n ∧ isNm x = true ∧ isHp z = true ∧ getH b.haps n = none ∧ b.haps.length = 12 ∧ w = "many" := by
  have h : (if isNm x = false then some ("name" : Str) else if isHp z = false then some "hap" else if (!(getX b.haps x).isSome && decide (b.haps.length = 12)) = true then some "many" else none) = some w := h
  cases hn : isNm x with
  | false =>
    rw [if_pos hn] at h
    cases h
    exact .inl ⟨rfl, rfl⟩
  | true =>
    rw [if_neg (by rw [hn]; intro z; cases z)] at h
    cases hh : isHp z with
    | false =>
      rw [if_pos hh] at h
      cases h
      exact .inr (.inl ⟨rfl, rfl, rfl⟩)
    | true =>
      rw [if_neg (by rw [hh]; intro z; cases z)] at h
      obtain ⟨n, rfl⟩ := isNm_str hn
      cases hc : (!(getX b.haps (.str n)).isSome && decide (b.haps.length = 12)) with
      | false =>
        rw [if_neg (by rw [hc]; intro z; cases z)] at h
        cases h
      | true =>
        rw [if_pos hc] at h
        cases h
        rw [Bool.and_eq_true, decide_eq_true_iff, show getX b.haps (.str n) = getH b.haps n from rfl] at hc
        refine .inr (.inr ⟨n, rfl, rfl, rfl, ?_, hc.2, rfl⟩)
        cases hg : getH b.haps n with
        | none => rfl
        | some q => rw [hg] at hc; cases hc.1
theorem ref_put0 {b : Bst} {n : Str} {q : Rat × Rat} (h : refw b (.put (.str n) (hpD q)) = none) : isNm (.str n) = true ∧ (getH b.haps n ≠ none ∨ b.haps.length ≠ 12) := by
  have h : (if isNm (.str n) = false then some ("name" : Str) else if isHp (hpD q) = false then some "hap" else if (!(getX b.haps (.str n)).isSome && decide (b.haps.length = 12)) = true then some "many" else none) = none := h
  cases hn : isNm (.str n) with
  | false => rw [if_pos hn] at h; cases h
  | true =>
    rw [if_neg (by rw [hn]; intro z; cases z), if_neg (by rw [show isHp (hpD q) = true from isHp_hap _ _]; intro z; cases z)] at h
    refine ⟨rfl, ?_⟩
    cases hg : getH b.haps n with
    | some q => exact .inl (by intro z; cases z)
    | none =>
      right
      intro z
      rw [show getX b.haps (.str n) = getH b.haps n from rfl, hg, z] at h
      cases h
theorem ref_drop {b : Bst} {x : Dt} {w : Str} (ok : TxtB x) (h : refw b (.drop x) = some w) : ((∀ s, x = .str s → s.length ≤ 90000) ∧ (isNm x = false ∨ ∃ n, x = .str n ∧ isNm x = true ∧ getH b.haps n = none)) ∧ w = "name" := by
  have h : (if (isNm x && (getX b.haps x).isSome) = true then none else some ("name" : Str)) = some w := h
  cases hc : (isNm x && (getX b.haps x).isSome) with
  | true => rw [if_pos hc] at h; cases h
  | false =>
    rw [if_neg (by rw [hc]; intro z; cases z)] at h
    cases h
    refine ⟨⟨ok, ?_⟩, rfl⟩
    cases hn : isNm x with
    | false => exact .inl rfl
    | true =>
      obtain ⟨n, rfl⟩ := isNm_str hn
      rw [hn, Bool.true_and] at hc
      refine .inr ⟨n, rfl, rfl, ?_⟩
      cases hg : getH b.haps n with
      | none => rfl
      | some q => rw [show getX b.haps (.str n) = getH b.haps n from rfl, hg] at hc; cases hc
theorem ref_drop0 {b : Bst} {n : Str} (h : refw b (.drop (.str n)) = none) : isNm (.str n) = true := by
  have h : (if (isNm (.str n) && (getX b.haps (.str n)).isSome) = true then none else some ("name" : Str)) = none := h
  cases hn : isNm (.str n) with
  | true => rfl
  | false => rw [hn, Bool.false_and, if_neg (by intro z; cases z)] at h; cases h
theorem ref_spd {x : Dt} {w : Str} (ok : SpdB x) (h : spdR x = some w) : (isSpD x = false ∧ w = "speed") ∨ ∃ v, x = fq v ∧ Sp v ∧ Bq 67 v ∧ beatD v = .non ∧ w = "plain" := by
  unfold spdR at h
  cases hs : isSpD x with
  | false =>
    rw [if_pos hs] at h
    cases h
    exact .inl ⟨rfl, rfl⟩
  | true =>
    rw [if_neg (by rw [hs]; intro z; cases z)] at h
    obtain ⟨v, rfl, sv, bv⟩ := ok.2 hs
    rw [ratOf_fq] at h
    cases hb : isNon (beatD v) with
    | false => rw [if_neg (by rw [hb]; intro z; cases z)] at h; cases h
    | true =>
      rw [if_pos hb] at h
      cases h
      refine .inr ⟨v, rfl, sv, bv, ?_, rfl⟩
      exact isNon_iff hb
theorem Dd.deedB {P : Program} {w : World} {K : PySem.W.Frag} {mg : Str → Option Value} {base : Heap} {x : Str} {st : Stmt} {N ps : List Str} {k : Nat} {C : Addr} {t : TS} {R : Bst → List Dt → Dt → Bst → Prop} (D : Dd K mg x st ps) (S : FnScope N ps (defScope st)) (hl : ∀ b ds d b', R b ds d b' → ds.length + 1 = ps.length)
    (h1 : ∀ (f : Addr) (cdv : Value) (A : Around) (outer : List Env) (s : Shared) (H : Hp) (E : XK), Room k (A.deeper (envOfC x (defScope st) s.heap.objs.size f cdv)) → PSs (cxOf CX0 P w K mg base N x (defScope st) f cdv A outer s H E).nox (defBody st) t)
    (h2 : ∀ y p b ds d b', R b ds d b' → Br K [y, p] (fun G H => BnAt K C y p G H b) (fun G H => BnAt K C y p G H b') t (Sl.raw (.ref y) :: (ds.map Sl.d ++ List.replicate (N.length - ps.length) .no)) d) : Has P w K mg base CX0 (k + 1) x ps (spBnD K C R) := by
  refine D.any S (fun vs H Q E h => ?_) h1 fun vs H Q E h => ?_
  · obtain ⟨y, p, ws, ds, b, G, d, b', rfl, _, r, _, hR, _⟩ := h
    show ws.length + 1 = _
    rw [r.length]
    exact hl b ds d b' hR
  · obtain ⟨y, p, ws, ds, b, G, d, b', rfl, kk, r, hB, hR, qq⟩ := h
    exact h2 y p b ds d b' hR G H _ kk (start_bn r (hl b ds d b' hR)) hB _ fun v G2 H2 n2 b2 r2 => qq v G2 H2 n2 b2 r2
end Z
namespace Z
open PySem PySem.Spec PyProof.Rows L2 RZ
open Evl (Ex)
/-! ### what holds of the haps of a bench that was told drawn deeds -/
def HapsI (hs : Hps) : Prop := ∀ e ∈ hs, isNm (.str e.1) = true ∧ e.1.length ≤ 90000 ∧ e.1 ≠ "q" ∧ Bq 90 e.2.1 ∧ Bq 4 e.2.2
theorem getH_mem {hs : Hps} {n : Str} (h : n ∈ hs.map (·.1)) : ∃ q, getH hs n = some q := by
  obtain ⟨e, he, rfl⟩ := List.mem_map.mp h
  unfold getH
  cases hf : hs.find? (fun q => decide (q.1 = e.1)) with
  | none =>
    have := List.find?_eq_none.mp hf e he
    simp at this
  | some q => exact ⟨q.2, rfl⟩
theorem getH_in {hs : Hps} {n : Str} {q : Rat × Rat} (h : getH hs n = some q) : (n, q) ∈ hs := by
  unfold getH at h
  cases hf : hs.find? (fun e => decide (e.1 = n)) with
  | none => rw [hf] at h; cases h
  | some e =>
    rw [hf] at h
    cases h
    have h1 := List.mem_of_find?_eq_some hf
    have h2 := List.find?_some hf
    have h3 : e.1 = n := of_decide_eq_true h2
    rw [← h3]
    exact h1
theorem hapsI_put {hs : Hps} {n : Str} {q : Rat × Rat} (h : HapsI hs) (hn : isNm (.str n) = true ∧ n.length ≤ 90000 ∧ n ≠ "q" ∧ Bq 90 q.1 ∧ Bq 4 q.2) : HapsI (putH hs n q) := fun e he => by
  unfold putH at he
  split at he
  · obtain ⟨e0, h0, rfl⟩ := List.mem_map.mp he
    split
    · rename_i z
      show isNm (.str e0.1) = true ∧ _
      rw [z]
      exact hn
    · exact h e0 h0
  · rcases List.mem_append.mp he with he | he
    · exact h e he
    · rw [List.mem_singleton.mp he]
      exact hn
theorem hapsI_drop {hs : Hps} {n : Str} (h : HapsI hs) : HapsI (dropH hs n) := fun e he => h e (List.mem_filter.mp he).1
/-! ### pots beside a world -/
section
variable {K : PySem.W.Frag} {S S1 S2 : Hp → Hp → Prop} {sl : List Sl} {t u : TS} {tl : TE} {ds : List Dt} {us : List Addr} {y p : Addr} {b : Bst} {i j : Nat} {d : Dt} {N : List Sl → Prop}
theorem br_w (h : Br K us S1 S2 t sl d) (w : ∀ G H, S G H → S1 G H) : Br K us S S2 t sl d := fun G H σ k f s => h G H σ k f (w G H s)
end
end Z
namespace Z
open PySem PySem.Spec PyProof.Rows L2 RZ
open Evl (Ex)
/-! ### a comprehension where a world stands -/
theorem eb_lcP {K : PySem.W.Frag} {S : Hp → Hp → Prop} {sl : List Sl} {te tl : TE} {i : Nat} {ds es : List Dt} (hes : es.length = ds.length) (hS : Stb S) (h : Eb K S tl sl (.lst ds)) (hn : ds.length ≤ 90000) (he : ∀ (k : Nat) (d e : Dt), ds[k]? = some d → es[k]? = some e → Eb K S te ((sl.set i .no).set i (.d d)) e) : Eb K S (tLc (iList K tl) (gName i) tYes te [i]) sl (.lst es) := fun G H σ k fr s Q q =>
  h G H σ k fr s _ fun v G1 H1 n1 r1 => by
    cases r1 with
    | lst hs rs =>
      rename_i a xs
      have hlen := rs.length
      refine ⟨a, rfl, ⟨_, Evl.ex_l n1.k hs⟩, fun Dl hD => ?_⟩
      have gD : G1 Dl = none := free_of n1.k hD
      refine lc_list (K := K) (a := a) (xs := xs) (fun j H' => ∃ G' vs, Ex G1 G' ∧ Ex H1 H' ∧ Ex G' H' ∧ (∀ c, G1 c = none → H1 c ≠ none → G' c = none) ∧ G' Dl = none ∧ H' Dl = some (.lst vs) ∧ Rps K G' vs (es.take j))
        ⟨G1, [], Ex.refl _, Ex.new hD, n1.k.trans (Ex.new hD), fun _ z _ => z, gD, upd_same, .nil⟩ (fun j H' _ ⟨G', vs, e1, e2, _⟩ => Evl.ex_l (n1.k.trans e2) hs) ?_ ?_
      · rintro j x H' hj ⟨G', vs, e1, e2, e3, e4, e5, e6, e7⟩
        have hj2 : j < xs.length := (List.getElem?_eq_some_iff.mp hj).1
        have hd : ds[j]? = some ds[j] := List.getElem?_eq_getElem (by omega)
        obtain ⟨x', hx', rx⟩ := rs.get hd
        rw [hj] at hx'
        cases hx'
        refine ⟨?_, ?_⟩
        · show ((wipe σ [i]).set i (some x)).set i none = σ.set i none
          show (((σ.set i none)).set i (some x)).set i none = σ.set i none
          rw [List.set_set, List.set_set]
        · have fr1 : FrD K G' ((σ.set i none).set i (some x)) ((sl.set i .no).set i (.d ds[j])) := frd_set (.d (rx.mono e1)) i (frd_wipe i (FrD.mono (n1.g.trans e1) fr))
          have hd2 : es[j]? = some es[j] := List.getElem?_eq_getElem (by omega)
          refine he j ds[j] es[j] hd hd2 G' H' _ e3 fr1 (hS _ _ _ _ (hS _ _ _ _ s n1) ⟨e1, fun a o z => e2 a o z, e3, e4⟩) _ fun u G2 H2 n2 r2 => ?_
          have g2D : G2 Dl = none := n2.f Dl e5 (by rw [e6]; intro z; cases z)
          have hl := e7.length
          refine ⟨vs, n2.h Dl _ e6, Nat.lt_of_lt_of_le (m := 100000) (by rw [hl, List.length_take]; omega) (by decide), G2, vs ++ [u], e1.trans n2.g, Evl.Ex.mut (e2.trans n2.h) hD, Evl.Ex.mut n2.k g2D, fun c c1 c2 => n2.f c (e4 c c1 c2) (ne_none e2 c2), g2D, upd_same, ?_⟩
          have et : es.take (j + 1) = es.take j ++ [es[j]] := by
            rw [List.take_add_one, hd2]
            rfl
          rw [et]
          exact (e7.mono n2.g).snoc r2
      · rintro H' ⟨G', vs, e1, e2, e3, e4, e5, e6, e7⟩
        rw [hlen, show ds.length = es.length from hes.symm, List.take_length] at e7
        refine q _ (upd G' Dl (.lst vs)) H' (n1.trans ⟨e1.trans (Ex.new e5), e2, fun b o hb => ?_, fun c c1 c2 => ?_⟩) (.lst (.inl (.inl upd_same)) (e7.mono (Ex.new e5)))
        · by_cases z : b = Dl
          · subst z
            rw [upd_same] at hb
            rw [e6]
            exact hb
          · rw [upd_ne z] at hb
            exact e3 b o hb
        · have z : c ≠ Dl := fun z => by
            rw [z] at c2
            exact c2 hD
          rw [upd_ne z]
          exact e4 c c1 c2
/-! ### new books -/
def spFr (K : PySem.W.Frag) : L2.Sp := fun vs H Q _ => vs = [] ∧ ∃ G, Ex G H ∧ ∀ y p G2 H2, H y = none → H p = none → y ≠ p → NxP [] G H G2 H2 → SoAt K y p G2 H2 ⟨[], 0, []⟩ → Q (.ref y) H2
theorem nxp_newU {us : List Addr} {G H : Hp} {y : Addr} {u : HO} (k : Ex G H) (hy : H y = none) : NxP us G H G (upd H y u) := by
  have gy : G y = none := free_of k hy
  refine ⟨fun _ _ e => e, fun c o e => ?_, fun c o hc e => ?_, fun c hc => ?_, fun c h1 _ => h1⟩
  · rw [upd_ne (fun z : c = y => by rw [z, gy] at e; cases e)]
    exact k _ _ e
  · rw [upd_ne (fun z : c = y => by rw [z, hy] at e; cases e)]
    exact e
  · rw [upd_ne (fun z : c = y => hc (by rw [z]; exact hy))]
    exact hc
theorem nxp_again {us : List Addr} {G H G4 H4 : Hp} {y : Addr} {u : HO} (n : NxP us G H G4 H4) (hy : H y = none) (gy : G4 y = none) : NxP us G H G4 (upd H4 y u) := by
  refine ⟨n.g, fun c o e => ?_, fun c o hc e => ?_, fun c hc => ?_, n.f⟩
  · rw [upd_ne (fun z : c = y => by rw [z, gy] at e; cases e)]
    exact n.k _ _ e
  · rw [upd_ne (fun z : c = y => by rw [z, hy] at e; cases e)]
    exact n.h _ _ hc e
  · rw [upd_ne (fun z : c = y => hc (by rw [z]; exact hy))]
    exact n.t c hc
theorem merge_st (a : Addr) (s : V) (p : Addr) : mergeK [] (stD a s p) = stD a s p := by
  unfold mergeK stD
  simp only [List.foldl_cons, List.foldl_nil]
  have h1 : putK ([] : List (Key × V)) (.inr ("haps" : Str)) (.ref a) = [(.inr ("haps" : Str), .ref a)] := rfl
  rw [h1]
  have h2 : putK ([(.inr ("haps" : Str), .ref a)] : List (Key × V)) (.inr ("speed" : Str)) s = [(.inr ("haps" : Str), .ref a), (.inr ("speed" : Str), s)] := by
    unfold putK
    rw [if_neg (by rw [List.any_cons, List.any_nil, decide_eq_false ks1]; intro z; cases z)]
    rfl
  rw [h2]
  unfold putK
  rw [if_neg (by rw [List.any_cons, List.any_cons, List.any_nil, decide_eq_false ks2, decide_eq_false ks3]; intro z; cases z)]
  rfl
/-- the books as they are made -/
theorem fresh_ok {K : PySem.W.Frag} {G H : Hp} {σ : L2.St} {Q : VK} (k : Ex G H) (q : ∀ y p G2 H2, H y = none → H p = none → y ≠ p → NxP [] G H G2 H2 → SoAt K y p G2 H2 ⟨[], 0, []⟩ → Q (.ref y) H2) :
    tDisp [(tC (.str "haps"), tDct), (tC (.str "speed"), tTup (tCons (tC (.int 0)) (tCons (tC (.int 1)) tNil))), (tC (.str "past"), tLst tNil)] σ H Q := by
  intro y hy a ha
  have nay : a ≠ y := fun z => by rw [z, upd_same] at ha; cases ha
  rw [upd_ne nay] at ha
  refine ⟨by exact sz_ok (by exact Nat.le_of_ble_eq_true rfl), fun t o ht ho => ⟨by exact sz_ok (Nat.zero_le _), fun p hp => ?_⟩⟩
  have nta : t ≠ a := fun z => by rw [z, upd_same] at ht; cases ht
  rw [upd_ne nta] at ht
  have nty : t ≠ y := fun z => by rw [z, upd_same] at ht; cases ht
  rw [upd_ne nty] at ht
  have npt : p ≠ t := fun z => by rw [z, upd_same] at hp; cases hp
  rw [upd_ne npt] at hp
  have npa : p ≠ a := fun z => by rw [z, upd_same] at hp; cases hp
  rw [upd_ne npa] at hp
  have npy : p ≠ y := fun z => by rw [z, upd_same] at hp; cases hp
  rw [upd_ne npy] at hp
  refine ⟨by rw [upd_ne (Ne.symm npy), upd_ne (Ne.symm nty), upd_ne (Ne.symm nay), upd_same], stD a (.ref t) p, rfl, by show 3 ≤ 15; decide, ?_⟩
  rw [merge_st]
  have n1 : NxP [] G H G (upd H y (.dK [])) := nxp_newU k hy
  have n2 := n1.trans (Nx.new (o := .dK []) n1.k (show (upd H y (.dK [])) a = none by rw [upd_ne nay]; exact ha)).p (ps := [])
  have n3 := n2.trans (Nx.new (o := .frz o (.tup [.int 0, .int 1])) n2.k (show (upd (upd H y (.dK [])) a (.dK [])) t = none by rw [upd_ne nta, upd_ne nty]; exact ht)).p (ps := [])
  have n4 := n3.trans (nxp_newU (u := .lst []) n3.k (show (upd (upd (upd H y (.dK [])) a (.dK [])) t (.frz o (.tup [.int 0, .int 1]))) p = none by rw [upd_ne npt, upd_ne npa, upd_ne npy]; exact hp))
  have gy : (upd (upd G a (.dK [])) t (.frz o (.tup [.int 0, .int 1]))) y = none := by
    rw [upd_ne (Ne.symm nty), upd_ne (Ne.symm nay)]
    exact free_of k hy
  have gp : (upd (upd G a (.dK [])) t (.frz o (.tup [.int 0, .int 1]))) p = none := by
    rw [upd_ne npt, upd_ne npa]
    exact free_of k hp
  refine q y p _ _ hy hp (Ne.symm npy) (nxp_again n4 hy gy) ⟨⟨a, .ref t, [], upd_same, ⟨[], by rw [upd_ne (Ne.symm nta), upd_same], .nil⟩, .tup (.inl ⟨o, upd_same, ho⟩) (.cons (.int _) (.cons (.int _) .nil)), by rw [upd_ne npy, upd_same], .nil⟩, gy, gp⟩
end Z
namespace Z
open PySem PySem.Spec PyProof.Rows L2 RZ
open Evl (Ex)
/-! ### for sign in a text, where a world goes on -/
/-! ### a deed told a drawn hap -/
/-! ### a bench made, used and forgotten, a pot beside it -/
/-! ### haps put, got -/
theorem keys_new {hs : Hps} {n : Str} {q : Rat × Rat} (h : n ∉ hs.map (·.1)) : (putH hs n q).map (·.1) = hs.map (·.1) ++ [n] := by
  unfold putH
  rw [if_neg (fun z => by
    obtain ⟨e, he, z⟩ := List.any_eq_true.mp z
    exact h (List.mem_map.mpr ⟨e, he, of_decide_eq_true z⟩)), List.map_append]
  rfl
theorem tell0 (q : Rat × Rat) : mvP 0 1 (0, 0) q = q := by
  show (tlT 0 1 0 0 q.1 q.2, tlP 0 1 0 0 q.1 q.2) = q
  unfold tlT tlP
  exact Prod.ext (by show (q.1 - 0 - 0 * (q.2 - 0)) / 1 = q.1; grind) (by show (q.2 - 0 - 0 * (q.1 - 0)) / 1 = q.2; grind)
end Z
namespace Z
open PySem PySem.Spec PyProof.Rows L2 RZ
open Evl (Ex)
/-! ### expressions that change the world -/
def Ed (K : PySem.W.Frag) (us : List Addr) (S S2 : Hp → Hp → Prop) (te : TE) (sl : List Sl) (d : Dt) : Prop := ∀ (G H : Hp) (σ : L2.St), Ex G H → FrD K G σ sl → S G H → ∀ Q : VK, (∀ v G2 H2, NxP us G H G2 H2 → S2 G2 H2 → Rp K G2 v d → Q v H2) → te σ H Q
section
variable {K : PySem.W.Frag} {us : List Addr} {S S1 S2 S3 : Hp → Hp → Prop} {sl : List Sl} {te tb : TE} {x y d : Dt} {r : R2} {u rr : TS} {C a p : Addr} {b b' : Bst} {tr : TA} {xs : List Dt} {i : Nat} {E : XK} {N : List Sl → Prop}
theorem ed_bnD {R : Bst → List Dt → Dt → Bst → Prop} (hS : Stb S) (hB : ∀ G H, S G H → BnAt K C a p G H b) (hi : sl[i]? = some (.raw (.ref a))) (h : EvA K tr sl xs) (hr : R b xs d b') (hu : a ∈ us ∧ p ∈ us) (hS2 : ∀ G H G2 H2, S G H → NxP [a, p] G H G2 H2 → BnAt K C a p G2 H2 b' → S2 G2 H2) : Ed K us S S2 (tCall (spBnD K C R) [] E (tCons (tVar i) tr)) sl d := fun G H σ k f s Q q => by
  refine ⟨.ref a, frd_raw f hi, ?_⟩
  refine h G H σ k f _ fun vs G1 H1 n1 r1 => ⟨a, p, vs ++ [], xs, b, G1, d, b', rfl, n1.k, rps_nil r1, hB G1 H1 (hS _ _ _ _ s n1), hr, fun v G2 H2 n2 b2 r2 => ?_⟩
  have n2' : NxP us G1 H1 G2 H2 := ⟨n2.g, n2.k, fun c o hc e => n2.h c o (fun z => hc (by
    simp only [List.mem_cons, List.not_mem_nil, or_false] at z
    rcases z with rfl | rfl
    · exact hu.1
    · exact hu.2)) e, n2.t, n2.f⟩
  exact q v G2 H2 (n1.p.trans n2') (hS2 _ _ _ _ (hS _ _ _ _ s n1) n2 b2) r2
theorem ed_stD {R : Bst → List Dt → Dt → Bst → Prop} (hS : Stb S) (hB : ∀ G H, S G H → SoAt K a p G H b) (hi : sl[i]? = some (.raw (.ref a))) (h : EvA K tr sl xs) (hr : R b xs d b') (hu : a ∈ us ∧ p ∈ us) (hS2 : ∀ G H G2 H2, S G H → NxP [a, p] G H G2 H2 → SoAt K a p G2 H2 b' → S2 G2 H2) : Ed K us S S2 (tCall (spStD K R) [] E (tCons (tVar i) tr)) sl d := fun G H σ k f s Q q => by
  refine ⟨.ref a, frd_raw f hi, ?_⟩
  refine h G H σ k f _ fun vs G1 H1 n1 r1 => ⟨a, p, vs ++ [], xs, b, G1, d, b', rfl, n1.k, rps_nil r1, hB G1 H1 (hS _ _ _ _ s n1), hr, fun v G2 H2 n2 b2 r2 => ?_⟩
  have n2' : NxP us G1 H1 G2 H2 := ⟨n2.g, n2.k, fun c o hc e => n2.h c o (fun z => hc (by
    simp only [List.mem_cons, List.not_mem_nil, or_false] at z
    rcases z with rfl | rfl
    · exact hu.1
    · exact hu.2)) e, n2.t, n2.f⟩
  exact q v G2 H2 (n1.p.trans n2') (hS2 _ _ _ _ (hS _ _ _ _ s n1) n2 b2) r2
theorem ed_eb (hS : Stb S) (h : Eb K S te sl d) : Ed K us S S te sl d := fun G H σ k f s Q q => h G H σ k f s Q fun v G2 H2 n2 r2 => q v G2 H2 n2.p (hS _ _ _ _ s n2) r2
/-- the same at the end of a suite -/
theorem bn_opD (h : Ed K us S S1 te sl x) (h2 : Ed K us S1 S2 tb sl y) (hS2 : Stb S2) (hr : R2D K r x y (.bl false)) (g : N sl) : Bn K us S S2 (tIfS (tTest (tOp r te tb)) rr tNext) sl N := fun G H σ k f s D q =>
  h G H σ k f s _ fun v G1 H1 n1 s1 r1 => h2 G1 H1 σ n1.k (FrD.mono n1.g f) s1 _ fun w G2 H2 n2 s2 r2 => hr G2 H2 n2.k v w (r1.mono n2.g) r2 _ fun z G3 H3 n3 r3 => by
    cases r3
    exact ⟨false, rfl, q σ sl G3 H3 g ((n1.trans n2).trans n3.p) (hS2 _ _ _ _ s2 n3) (FrD.mono (n1.g.trans (n2.g.trans n3.g)) f)⟩
end
theorem bn_some {K : PySem.W.Frag} {us : List Addr} {α : Type} {P : α → Prop} {S : α → Hp → Hp → Prop} {T S2 : Hp → Hp → Prop} {t : TS} {sl : List Sl} {N : List Sl → Prop} (h : ∀ b, P b → Bn K us (fun G H => S b G H ∧ T G H) S2 t sl N) : Bn K us (fun G H => (∃ b, P b ∧ S b G H) ∧ T G H) S2 t sl N := fun G H σ k f ⟨⟨b, hb, s⟩, m⟩ => h b hb G H σ k f ⟨s, m⟩
theorem pots_keep {pot : Addr} {us : List Addr} {G H G2 H2 : Hp} (m : Pots [pot] G H) (n : NxP us G H G2 H2) (h : pot ∉ us) : Pots [pot] G2 H2 := fun c hc => by
  have ec : c = pot := by simpa using hc
  subst ec
  obtain ⟨e1, z, e2⟩ := m _ hc
  exact ⟨n.f _ e1 (by rw [e2]; intro z; cases z), z, n.h _ _ h e2⟩
def letK (k : Nat) : Str := ⟨#[("bcdefghijklm" : Str).cps.getD k 0]⟩
theorem let_ok : ∀ k, k < 12 → isNm (.str (letK k)) = true ∧ letK k ≠ "q" ∧ letK k ≠ "a" ∧ ∀ j, j < k → letK j ≠ letK k := by decide +kernel
structure PK (k : Nat) (b : Bst) : Prop where
  keys : b.haps.map (·.1) = (List.range k).map letK
  hi : HapsI b.haps
  sp : b.speed = 0
  pa : b.past.length = k
theorem PK.len {k : Nat} {b : Bst} (h : PK k b) : b.haps.length = k := by
  have := congrArg List.length h.keys
  rwa [List.length_map, List.length_map, List.length_range] at this
theorem PK.put {k : Nat} {b : Bst} {q : Rat × Rat} (h : PK k b) (hk : k < 12) (b1 : Bq 90 q.1) (b2 : Bq 4 q.2) : PK (k + 1) ⟨putH b.haps (letK k) q, b.speed, b.past ++ [(b.haps, b.speed)]⟩ := by
  obtain ⟨l1, l2, _, l3⟩ := let_ok k hk
  refine ⟨?_, hapsI_put h.hi ⟨l1, by show 1 ≤ 90000; decide, l2, b1, b2⟩, h.sp, by rw [List.length_append, h.pa]; rfl⟩
  show (putH b.haps (letK k) q).map (·.1) = _
  rw [keys_new (fun z => ?_), h.keys, List.range_succ, List.map_append]
  · rfl
  · rw [h.keys] at z
    obtain ⟨j, hj, e⟩ := List.mem_map.mp z
    exact l3 j (List.mem_range.mp hj) e
def tsB (b : Bst) : List (Rat × Rat) := (srtN (b.haps.map (·.1))).map fun n => (getH b.haps n).getD (0, 0)
end Z
namespace Z
open PySem PySem.Spec PyProof.Rows L2 RZ
open Evl (Ex)
/-! ### a law with a bench and books of its own -/
section
variable {K : PySem.W.Frag} {us : List Addr} {S S2 : Hp → Hp → Prop} {sl : List Sl} {t rest : TS} {d : Dt} {j : Nat} {E : XK} {N : List Sl → Prop} {ta : TA} {xs : List Dt} {C : List Dt → Prop}
theorem bn_pot (hS : Stb S) (hx : ∀ G H, S G H → ∀ a ∈ us, H a ≠ none) (h : EvA K ta sl xs) (hC : C xs) (g : ∀ pot, pot ∉ us → Bn K (pot :: us) (fun G H => S G H ∧ Pots [pot] G H) S2 t (sl.set j (.raw (.ref pot))) N) : Bn K us S S2 (tSeq (tAsg (tCall (spNew K C) [] E ta) (gName j)) t) sl N := fun G H σ k f s D q =>
  h G H σ k f _ fun vs G1 H1 n1 r1 => ⟨xs, G1, n1.k, rps_nil r1, hC, fun p n G2 H2 n2 p1 g2 p2 => by
    have n12 := n1.trans n2
    have hp : H p = none := by
      cases z : H p with
      | none => rfl
      | some o =>
        rw [n1.h p o z] at p1
        cases p1
    have np : p ∉ us := fun z => hx G H s p z hp
    have m2 : Pots [p] G2 H2 := fun c hc => by
      have ec : c = p := by simpa using hc
      subst ec
      exact ⟨g2, n, p2⟩
    refine g p np G2 H2 _ n2.k (frd_set (.raw _) j (FrD.mono n12.g f)) ⟨hS _ _ _ _ s n12, m2⟩ D fun σ3 sl3 G3 H3 w3 n3 s3 f3 => ?_
    refine q σ3 sl3 G3 H3 w3 ⟨n12.g.trans n3.g, n3.k, fun a o ha e => ?_, fun a h2 => n3.t a (ne_none n12.h h2), fun a h1 h2 => n3.f a (n12.f a h1 h2) (ne_none n12.h h2)⟩ s3 f3
    have h1 : a ≠ p := fun z => by rw [z, hp] at e; cases e
    exact n3.h a o (by simp [h1, ha]) (n12.h a o e)⟩
/-- for k in range(n), where a world goes on -/
theorem bn_forR {S : Nat → Hp → Hp → Prop} {n : Int} (h : EvA K ta sl [.int n]) (hn : n ≤ 100000 ∧ -100000 ≤ n) (hS : Stb (S 0)) (hs : ∀ k : Nat, (k : Int) < n → Bn K us (S k) (S (k + 1)) t (sl.set j (.d (.int k))) fun s => Paired Wk s sl) : Bn K us (S 0) (S n.toNat) (tFor (iRng1 ta) (gName j) t) sl fun s => s = sl := fun G H σ k f s D q => h G H σ k f _ fun vs G1 H1 n1 r1 => by
  obtain ⟨v, rfl, r2⟩ := rps1 r1
  cases r2
  refine ⟨n, rfl, by omega, by omega, for_range (lo := 0) (n := n.toNat) (fun i σ' H' => ∃ G', NxP us G H G' H' ∧ S i G' H' ∧ FrD K G' σ' sl) ⟨G1, n1.p, hS _ _ _ _ s n1, FrD.mono n1.g f⟩ ?_ ?_⟩
  · rintro i σ2 H2 hi ⟨G2, n2, s2, f2⟩
    have e : (0 : Int) + (i : Int) = (i : Int) := Int.zero_add _
    rw [e]
    exact hs i (by omega) G2 H2 _ n2.k (frd_set (.d (.int i)) j f2) s2 _ fun σ3 sl3 G3 H3 w3 n3 s3 f3 => ⟨G3, n2.trans n3, s3, frd_wk f3 w3⟩
  · rintro σ2 H2 ⟨G2, n2, s2, f2⟩
    exact q σ2 sl G2 H2 rfl n2 s2 f2
end
end Z
namespace Z
open PySem PySem.Spec PyProof.Rows L2 RZ
open Evl (Ex)
/-! ### what holds of a bench that was told so many drawn deeds -/
structure HS (k : Nat) (hs : Hps) (s : Rat) : Prop where
  hi : HapsI hs
  le : hs.length ≤ 12
  sp : Sp s
  q : Bq (68 * (k + 1)) s
structure PI (k : Nat) (b : Bst) : Prop where
  now : HS k b.haps b.speed
  pa : ∀ e ∈ b.past, HS k e.1 e.2
  le : b.past.length ≤ k
theorem HS.up {k : Nat} {hs : Hps} {s : Rat} (h : HS k hs s) : HS (k + 1) hs s := ⟨h.hi, h.le, h.sp, h.q.mono (by omega)⟩
theorem PI.sb {k : Nat} {b : Bst} (h : PI k b) (hk : k ≤ 25) : SpB b := ⟨by have := h.now.le; omega, by have := h.le; omega, h.now.sp, h.now.q.mono (by omega)⟩
theorem pi_zero : PI 0 ⟨[], 0, []⟩ := ⟨⟨fun e he => (by cases he), by decide, sp_zero, bq_zero.mono (by decide)⟩, fun e he => (by cases he), Nat.le_refl _⟩
theorem PI.grow {k : Nat} {b : Bst} (h : PI k b) {hs : Hps} {s : Rat} (n : HS (k + 1) hs s) : PI (k + 1) ⟨hs, s, b.past ++ [(b.haps, b.speed)]⟩ := ⟨n, fun e he => by
  rcases List.mem_append.mp he with he | he
  · exact (h.pa e he).up
  · rw [List.mem_singleton.mp he]
    exact h.now.up, by
  show (b.past ++ [(b.haps, b.speed)]).length ≤ k + 1
  rw [List.length_append, List.length_singleton]
  have := h.le
  omega⟩
theorem putH_len {hs : Hps} {n : Str} {q : Rat × Rat} (h : getH hs n ≠ none ∨ hs.length ≠ 12) (h12 : hs.length ≤ 12) : (putH hs n q).length ≤ 12 := by
  unfold putH
  split
  · rw [List.length_map]
    exact h12
  · rename_i z
    rw [List.length_append, List.length_singleton]
    rcases h with h | h
    · exfalso
      cases hg : getH hs n with
      | none => exact h hg
      | some q => exact z (List.any_eq_true.mpr ⟨_, getH_in hg, decide_eq_true rfl⟩)
    · omega
theorem pi_step {k : Nat} {b b' : Bst} {de : Deed} {d : Dt} (h : PI k b) (ok : DeedOk de) (hd : DoneR b de d b') : PI (k + 1) b' := by
  rcases hd with ⟨w, _, _, rfl⟩ | ⟨hr, _, ha⟩
  · exact ⟨h.now.up, fun e he => (h.pa e he).up, by have := h.le; omega⟩
  cases de with
  | undo =>
    obtain ⟨h0, s0, pt, hp, rfl⟩ := ha
    have hm : ∀ e ∈ pt ++ [(h0, s0)], HS k e.1 e.2 := fun e he => h.pa e (by rw [hp]; exact he)
    have hl := h.le
    rw [hp, List.length_append, List.length_singleton] at hl
    exact ⟨(hm (h0, s0) (by simp)).up, fun e he => (hm e (List.mem_append_left _ he)).up, by show pt.length ≤ k + 1; omega⟩
  | put x z =>
    obtain ⟨n, q, rfl, rfl, rfl⟩ := ha
    obtain ⟨⟨o1, o0⟩, o2, o3⟩ := ok
    obtain ⟨h1, h2⟩ := ref_put0 hr
    obtain ⟨q', e, b1, b2⟩ := o3 (isHp_hap _ _)
    have eq : q = q' := by
      have e : Dt.tup [fq q.1, fq q.2] = Dt.tup [fq q'.1, fq q'.2] := e
      injection e with e
      injection e with e1 e2
      injection e2 with e2 _
      exact Prod.ext (fq_inj e1) (fq_inj e2)
    subst eq
    exact h.grow ⟨hapsI_put h.now.hi ⟨h1, o1 _ rfl, fun z => o0 (by rw [z]), b1, b2⟩, putH_len h2 h.now.le, h.now.sp, h.now.q.mono (by omega)⟩
  | drop x =>
    obtain ⟨n, rfl, _, rfl⟩ := ha
    exact h.grow ⟨hapsI_drop h.now.hi, Nat.le_trans (List.length_filter_le _ _) h.now.le, h.now.sp, h.now.q.mono (by omega)⟩
  | turn x =>
    obtain ⟨v, w, rfl, hv, bv, rfl⟩ := ha
    exact h.grow ⟨h.now.hi, h.now.le, hv.s, bv.mono (by omega)⟩
  | push x =>
    obtain ⟨v, w, rfl, hv, bv, rfl⟩ := ha
    exact h.grow ⟨h.now.hi, h.now.le, sp_jn h.now.sp hv.s, (bq_jn h.now.q bv (sp_ne h.now.sp hv.s)).mono (by omega)⟩
theorem done_sh {b b' : Bst} {de : Deed} {d : Dt} (ok : DeedOk de) (hd : DoneR b de d b') : ∃ p, py d = some p ∧ SeqAt.shaped p = true := by
  rcases hd with ⟨w, hr, rfl, _⟩ | ⟨_, rfl, _⟩
  · refine ⟨.str w, rfl, ?_⟩
    cases de with
    | undo =>
      have hr : (if b.past.isEmpty = true then some ("deed" : Str) else none) = some w := hr
      split at hr
      · cases hr; decide +kernel
      · cases hr
    | put x z => rcases ref_put hr with ⟨_, rfl⟩ | ⟨_, _, rfl⟩ | ⟨_, _, _, _, _, _, rfl⟩ <;> decide +kernel
    | drop x => obtain ⟨_, rfl⟩ := ref_drop ok hr; decide +kernel
    | turn x => rcases ref_spd ok hr with ⟨_, rfl⟩ | ⟨_, _, _, _, _, rfl⟩ <;> decide +kernel
    | push x => rcases ref_spd ok hr with ⟨_, rfl⟩ | ⟨_, _, _, _, _, rfl⟩ <;> decide +kernel
  · exact ⟨.none, rfl, rfl⟩
end Z
namespace Z
open PySem PySem.Spec PyProof.Rows L2 RZ
open Evl (Ex)
theorem ip_unp1 {K : PySem.W.Frag} {sl : List Sl} {ps : List Addr} {te : TE} {N : List Sl → Prop} {i j : Nat} (h : Ep K te sl ps fun x => ∃ a b, x = .tup [a, b] ∧ N ((sl.set i (.d a)).set j (.d b))) : Ip K (tAsg te (gTup K 2 (gCons (gName i) (gCons (gName j) gNil)))) sl ps N := fun G H σ e f m D q =>
  h G H σ e f m _ fun v x G1 H1 ⟨a, b, ex, h1⟩ n1 m1 r1 => by
    subst ex
    cases r1 with
    | tup hs rs =>
      obtain ⟨v, w, rfl, a1, a2⟩ := rps2 rs
      exact ⟨_, _, rfl, exT n1.k hs, rfl, v, [w], rfl, w, [], rfl, rfl, q _ _ G1 H1 h1 n1 m1 (frd_set (.d a2) j (frd_set (.d a1) i (FrD.mono n1.g f)))⟩
theorem br_bn {K : PySem.W.Frag} {us : List Addr} {S S1 S2 : Hp → Hp → Prop} {t : TS} {sl : List Sl} {N : List Sl → Prop} (w : ∀ G H, S G H → S1 G H) (h : Bn K us S1 S2 t sl N) : Bn K us S S2 t sl N := fun G H σ k f s => h G H σ k f (w G H s)
theorem pe_h0 {X : Cx} {CX : CXT} {k j : Nat} {x : Str} {ps : List Str} {sp : L2.Sp} {p pos : Pos} {E : XK} (c : Has X.prog X.w X.K X.mg X.base CX k x ps sp) (hr : Room j X.A) (hk : k ≤ j) (hx : Passes CX X E) (hg : Gl X x := by rfl) (hdb : (x == ("__debug__" : Str)) = false := by decide) :
    PE X (.Call (.Name x p) [] [] pos) (tCall sp [] E tNil) := by
  obtain ⟨f, fd, F, hm, kp, b⟩ := c.ex
  exact pe_call0 F (hr.mono hk) hg hm kp b .nil hx hdb
end Z
namespace Z
open PySem PySem.Spec PyProof.Rows L2 RZ
/-! ### speeds taken, as a map that keeps their order -/
theorem tk_is {v u : Rat} : jn u (-v) = (u - v) / (1 - u * v) := by
  rw [jn_def, Rat.mul_neg, ← Rat.sub_eq_add_neg, ← Rat.sub_eq_add_neg]
theorem tk_pos {v u : Rat} (hv : Sp v) (h1 : -1 ≤ u) (h2 : u ≤ 1) : 0 < 1 - u * v := by
  obtain ⟨a, b⟩ := hv
  rcases Rat.nonneg_total v with z | z
  · have := Rat.mul_nonneg (show 0 ≤ 1 - u by grind) z
    grind
  · have := Rat.mul_nonneg (show 0 ≤ u + 1 by grind) z
    grind
section
variable {ts : List (Rat × Rat)} {v b : Rat} {o : Rat × Rat}
/-- own places, moved: a scale and a shift -/
theorem ow_mv (hv : Pl v b) {w : Rat} (hw : Sp w) (p : Rat × Rat) : (mvP v b o p).1 - jn w (-v) * (mvP v b o p).2 = b / (1 - w * v) * ((p.1 - w * p.2) - (o.1 - w * o.2)) := by
  have nb := hv.ne
  have hp := tk_pos hv.s (show -1 ≤ w by have := hw.1; grind) (show w ≤ 1 by have := hw.2; grind)
  have n1 : 1 - w * v ≠ 0 := by grind
  show tlT v b o.1 o.2 p.1 p.2 - jn w (-v) * tlP v b o.1 o.2 p.1 p.2 = _
  rw [tk_is]
  unfold tlT tlP
  have e := hv.e
  generalize p.1 = a1
  generalize p.2 = a2
  generalize o.1 = a3
  generalize o.2 = a4
  have e2 : ((a1 - a3 - v * (a2 - a4)) / b - (w - v) / (1 - w * v) * ((a2 - a4 - v * (a1 - a3)) / b)) = (1 - v * v) / (b * (1 - w * v)) * ((a1 - a3) - w * (a2 - a4)) := by
    have n3 : b * (1 - w * v) ≠ 0 := mne nb n1
    grind
  rw [e2, ← e]
  have n3 : b * (1 - w * v) ≠ 0 := mne nb n1
  grind
theorem rsg_map {g : Rat → Rat} {l : List Rat} (up : ∀ x ∈ l, ∀ y ∈ l, x < y → g x < g y) : rsg (l.map g) = (rsg l).map g := by
  refine (rsg_one ?_ fun x => ?_).symm
  · rw [List.pairwise_map]
    exact List.Pairwise.imp_of_mem (fun {x y} hx hy h => up x (rsg_mem.mp hx) y (rsg_mem.mp hy) h) (rsg_up l)
  · rw [List.mem_map, List.mem_map]
    exact ⟨fun ⟨y, hy, e⟩ => ⟨y, rsg_mem.mp hy, e⟩, fun ⟨y, hy, e⟩ => ⟨y, rsg_mem.mpr hy, e⟩⟩
theorem atQ_mv {ts ms : List (Rat × Rat)} {w w2 : Rat} {g : Rat → Rat} (hg : ∀ x y, g x = g y → x = y) (h : stQ ms w2 = (stQ ts w).map g) (q : Rat) : atQ ms w2 (g q) = atQ ts w q := by
  have hl : ms.length = ts.length := by
    have := congrArg List.length h
    unfold stQ at this
    rw [List.length_map, List.length_map, List.length_map] at this
    exact this
  unfold atQ
  rw [hl]
  refine List.filter_congr fun k hk => ?_
  have hk : k < (stQ ts w).length := by unfold stQ; rw [List.length_map]; exact List.mem_range.mp hk
  rw [h, List.getD_eq_getElem?_getD, List.getElem?_map, List.getElem?_eq_getElem hk, List.getD_eq_getElem?_getD, List.getElem?_eq_getElem hk]
  exact decide_eq_decide.mpr ⟨fun e => hg _ _ e, fun e => congrArg g e⟩
theorem stand_mv {ts ms : List (Rat × Rat)} {w w2 : Rat} {g : Rat → Rat} (hg : ∀ x y, x < y → g x < g y) (h : stQ ms w2 = (stQ ts w).map g) : standD ms w2 = standD ts w ∧ ordN ms w2 = ordN ts w := by
  have inj : ∀ x y, g x = g y → x = y := fun x y e => by
    rcases (by grind : x < y ∨ x = y ∨ y < x) with z | z | z
    · have := hg _ _ z; grind
    · exact z
    · have := hg _ _ z; grind
  unfold standD ordN
  rw [h, rsg_map fun x _ y _ => hg x y, List.map_map, List.map_map]
  exact ⟨congrArg Dt.lst (List.map_congr_left fun q _ => by show Dt.lst (numsD (atQ ms w2 (g q))) = _; rw [atQ_mv inj h]), List.map_congr_left fun q _ => by show (atQ ms w2 (g q)).headD 0 = _; rw [atQ_mv inj h]⟩
theorem mv_stand (hv : Pl v b) {w : Rat} (hw : Sp w) : standD (ts.map (mvP v b o)) (jn w (-v)) = standD ts w ∧ ordN (ts.map (mvP v b o)) (jn w (-v)) = ordN ts w := by
  have hp := tk_pos hv.s (show -1 ≤ w by have := hw.1; grind) (show w ≤ 1 by have := hw.2; grind)
  have c0 : 0 < b / (1 - w * v) := q_pos hv.p hp
  refine stand_mv (g := fun x => b / (1 - w * v) * (x - (o.1 - w * o.2))) (fun x y h => ?_) ?_
  · have := Rat.mul_pos c0 (show 0 < y - x by grind)
    grind
  · unfold stQ
    rw [List.map_map, List.map_map]
    exact List.map_congr_left fun p _ => ow_mv hv hw p
end
/-! ### between two neighbouring borders the order stays -/
/-! ### the orders of moved haps -/
/-! ### time turned about -/
end Z
namespace Z
open PySem PySem.Spec PyProof.Rows L2 RZ
/-! ### sizes of fractions that have one denominator in common -/
def DenOk (qs : List Rat) : Prop := ∃ D : Nat, 0 < D ∧ D < 2 ^ 8701 ∧ ∀ q ∈ qs, q.den ∣ D
theorem bot_dvds {D : Nat} : ∀ {qs : List Rat} {k : Nat}, (∀ q ∈ qs, q.den ∣ D) → bot (qs.take k) ∣ D := by
  intro qs k h
  have key : ∀ (l : List Rat) (b : Nat), b ∣ D → (∀ q ∈ l, q.den ∣ D) → l.foldl (fun b q => b.lcm q.den) b ∣ D := by
    intro l
    induction l with
    | nil => intro b hb _; exact hb
    | cons a l ih => exact fun b hb hq => ih _ (Nat.lcm_dvd hb (hq a List.mem_cons_self)) fun q m => hq q (List.mem_cons_of_mem _ m)
  exact key _ 1 (Nat.one_dvd _) fun q m => h q (List.mem_of_mem_take m)
theorem bot_den {qs : List Rat} (h : DenOk qs) (k : Nat) : bot (qs.take k) < 2 ^ 8701 := by
  obtain ⟨D, d0, d1, hd⟩ := h
  exact Nat.lt_of_le_of_lt (Nat.le_of_dvd d0 (bot_dvds hd)) d1
theorem quo_den {t b : Int} (h : b ≠ 0) : ((t : Rat) / (b : Rat)).den ∣ b.natAbs := by
  rw [← Rat.divInt_eq_div, Rat.den_divInt, if_neg h]
  exact Nat.div_dvd_of_dvd (Int.gcd_dvd_natAbs_left ..)
theorem q_is (q : Rat) : q = ((q.num : Int) : Rat) / (((q.den : Nat) : Int) : Rat) := by
  have h := Rat.mkRat_self q
  rw [Rat.mkRat_eq_div] at h
  exact h.symm
theorem den_z (q : Rat) : (((q.den : Nat) : Int) : Rat) ≠ 0 := by
  have h := q.den_pos
  intro z
  have : ((q.den : Nat) : Int) = 0 := by exact_mod_cast z
  omega
theorem sub_den (a b : Rat) : (a - b).den ∣ a.den * b.den := by
  have ha := den_z a
  have hb := den_z b
  have e : a - b = ((a.num * (b.den : Nat) - b.num * (a.den : Nat) : Int) : Rat) / (((a.den : Nat) : Int) * ((b.den : Nat) : Int) : Int) := by
    rw [Rat.intCast_sub, Rat.intCast_mul, Rat.intCast_mul, Rat.intCast_mul]
    have e1 := q_is a
    have e2 := q_is b
    generalize ((a.den : Nat) : Int) = ad at *
    generalize ((b.den : Nat) : Int) = bd at *
    grind
  rw [e]
  have := quo_den (t := a.num * (b.den : Nat) - b.num * (a.den : Nat)) (b := ((a.den : Nat) : Int) * ((b.den : Nat) : Int)) (by have := Int.mul_pos (show (0 : Int) < ((a.den : Nat) : Int) by have := a.den_pos; omega) (show (0 : Int) < ((b.den : Nat) : Int) by have := b.den_pos; omega); omega)
  rwa [Int.natAbs_mul] at this
theorem mul_den (a b : Rat) : (a * b).den ∣ a.den * b.den := by
  have ha := den_z a
  have hb := den_z b
  have e : a * b = ((a.num * b.num : Int) : Rat) / (((a.den : Nat) : Int) * ((b.den : Nat) : Int) : Int) := by
    rw [Rat.intCast_mul, Rat.intCast_mul]
    have e1 := q_is a
    have e2 := q_is b
    generalize ((a.den : Nat) : Int) = ad at *
    generalize ((b.den : Nat) : Int) = bd at *
    grind
  rw [e]
  have := quo_den (t := a.num * b.num) (b := ((a.den : Nat) : Int) * ((b.den : Nat) : Int)) (by have := Int.mul_pos (show (0 : Int) < ((a.den : Nat) : Int) by have := a.den_pos; omega) (show (0 : Int) < ((b.den : Nat) : Int) by have := b.den_pos; omega); omega)
  rwa [Int.natAbs_mul] at this
/-! ### borders and middles of haps whose even speeds are of some size -/
end Z
namespace Z
open PySem PySem.Spec PyProof.Rows L2 RZ
open Evl (Ex)
/-! ### wider speeds -/
def SzSW (x : Dt) : Prop := ∀ s h, x = .tup [s, h] → Sz s ∧ Sz2 h ∧ ∀ q, s = fq q → Bq 1990 q
theorem seat_szW {v t p : Rat} (h0 : Bq 1990 v) (h1 : Bq 1000 t) (h2 : Bq 1000 p) : SzSW (seatD v t p) := fun s h e => by
  injection e with e
  injection e with e1 e
  injection e with e2 e
  subst e1
  subst e2
  exact ⟨sz_fq (by show Int.natAbs _ < 2 ^ 9000; exact Nat.lt_of_lt_of_le h0.2 (Nat.pow_le_pow_right (by decide) (by decide))), sz2_hap h1 h2, fun q e => by rw [← fq_inj e]; exact h0⟩
def R_seenV (ds : List Dt) (d : Dt) : Prop := ∃ v b l g : Rat, ds = [fq v, fq l, fq g] ∧ Pl v b ∧ Bq 1800 v ∧ Bq 500 l ∧ Bq 500 g ∧ d = hapD ((l - v * g) / b) ((g - v * l) / b)
def R_toldV (ds : List Dt) (d : Dt) : Prop := ∃ v b t0 p0 t p : Rat, ds = [seatD v t0 p0, hapD t p] ∧ Pl v b ∧ Bq 1800 v ∧ Bq 400 t0 ∧ Bq 400 p0 ∧ Bq 90 t ∧ Bq 90 p ∧ d = hapD (tlT v b t0 p0 t p) (tlP v b t0 p0 t p)
theorem toldV_ok {v b t0 p0 t p : Rat} (h : Pl v b) (h1 : Bq 1800 v) (h2 : Bq 400 t0) (h3 : Bq 400 p0) (h4 : Bq 90 t) (h5 : Bq 90 p) : R_toldV [seatD v t0 p0, hapD t p] (hapD (tlT v b t0 p0 t p) (tlP v b t0 p0 t p)) := ⟨v, b, t0, p0, t, p, rfl, h, h1, h2, h3, h4, h5, rfl⟩
/-! ### what is worth a raw value -/
def Er (K : PySem.W.Frag) (S : Hp → Hp → Prop) (te : TE) (sl : List Sl) (v : V) : Prop := ∀ (G H : Hp) (σ : L2.St), Ex G H → FrD K G σ sl → S G H → ∀ Q : VK, Q v H → te σ H Q
section
variable {K : PySem.W.Frag} {S S2 : Hp → Hp → Prop} {sl : List Sl} {te td ty tk tb : TE} {i j : Nat} {v : V} {C a x y p l : Addr} {b b' : Bst} {vs : List V} {k : Nat} {hs : Hps} {n : Str} {q : Rat × Rat} {tr : TA} {xs : List Dt} {d : Dt} {E : XK} {us : List Addr}
theorem er_var (hi : sl[i]? = some (.raw v)) : Er K S (tVar i) sl v := fun G H σ k f s Q q => ⟨v, frd_raw f hi, q⟩
end
/-! ### a bench's answers that are lists made anew -/
abbrev Wnw := Dt → Hp → Hp → V → Prop
def WN1 : Wnw := fun _ => New1
def WN2 : Wnw := fun d => New2 (dlen d)
def WnOk (W : Wnw) : Prop := ∀ {d : Dt} {H0 H H2 : Hp} {v : V}, Ex H0 H → W d H H2 v → W d H0 H2 v
theorem wn1_ok : WnOk WN1 := fun e h => New1.back e h
theorem wn2_ok : WnOk WN2 := fun e h => New2.back e h
def EbW (K : PySem.W.Frag) (W : Wnw) (S : Hp → Hp → Prop) (te : TE) (sl : List Sl) (x : Dt) : Prop := ∀ (G H : Hp) (σ : L2.St), Ex G H → FrD K G σ sl → S G H → ∀ Q : VK, (∀ v G2 H2, Nx G H G2 H2 → Rp K G2 v x → W x H H2 v → Q v H2) → te σ H Q
def RbW (K : PySem.W.Frag) (W : Wnw) (S : Hp → Hp → Prop) (t : TS) (sl : List Sl) (x : Dt) : Prop := ∀ (G H : Hp) (σ : L2.St), Ex G H → FrD K G σ sl → S G H → ∀ D : Ends, (∀ v G2 H2, Nx G H G2 H2 → Rp K G2 v x → W x H H2 v → D.rt v H2) → t D σ H
def spBqW (K : PySem.W.Frag) (C : Addr) (W : Wnw) (R : Bst → List Dt → Dt → Prop) : L2.Sp := fun vs H Q E => ∃ x ws ds b G d, vs = .ref x :: ws ∧ Ex G H ∧ Rps K G ws ds ∧ BnR K C x G H b ∧ R b ds d ∧ ∀ v G2 H2, Nx G H G2 H2 → Rp K G2 v d → W d H H2 v → Q v H2
section
variable {K : PySem.W.Frag} {W : Wnw} {S : Hp → Hp → Prop} {sl : List Sl} {te tl : TE} {t u : TS} {i : Nat} {C x : Addr} {b : Bst} {m : Str} {tr : TA} {xs : List Dt} {d : Dt} {E : XK} {N : List Sl → Prop}
theorem ebw_eb (h : EbW K W S te sl d) : Eb K S te sl d := fun G H σ k f s Q q => h G H σ k f s Q fun v G2 H2 n r _ => q v G2 H2 n r
theorem ebw_mq {R : Bst → List Dt → Dt → Prop} (hW : WnOk W) (hS : Stb S) (hB : ∀ G H, S G H → BnR K C x G H b) (hi : sl[i]? = some (.raw (.ref x))) (hm1 : ¬ m = "_past") (hm2 : ¬ m = "_speed") (hm3 : ¬ m = "_haps") (h : EbA K S tr sl xs) (hr : R b xs d) :
    EbW K W S (tMeth C m (spBqW K C W R) [] E (tVar i) tr) sl d := fun G H σ k f s Q q => by
  obtain ⟨dx, a, sp, pq, h1, _⟩ := (hB G H s).ex
  refine ⟨.ref x, frd_raw f hi, x, dx, _, rfl, h1, flds_no _ _ _ hm1 hm2 hm3, ?_⟩
  exact h G H σ k f s _ fun vs G1 H1 n1 r1 => ⟨x, vs ++ [], xs, b, G1, d, rfl, n1.k, rps_nil r1, hB G1 H1 (hS _ _ _ _ s n1), hr, fun v G2 H2 n2 r2 w2 => q v G2 H2 (n1.trans n2) r2 (hW n1.h w2)⟩
theorem rbw_ret (h : EbW K W S te sl d) : RbW K W S (tRet te) sl d := fun G H σ k f s D q => h G H σ k f s _ q
theorem rbw_seq (hW : WnOk W) (h : Bn K [] S S t sl N) (g : ∀ s, N s → RbW K W S u s d) : RbW K W S (tSeq t u) sl d := fun G H σ k f s D q =>
  h G H σ k f s _ fun σ1 sl1 G1 H1 m1 n1 s1 f1 => g sl1 m1 G1 H1 σ1 n1.k f1 s1 D fun v G2 H2 n2 r2 w2 => q v G2 H2 (n1.nx.trans n2) r2 (hW n1.nx.h w2)
theorem ebw_names (hB : ∀ G H, S G H → BnR K C x G H b) (hc : Cls K C) (hn : NoAttr K C "_haps") (hi : sl[i]? = some (.raw (.ref x))) (hl : b.haps.length < 64) : EbW K WN1 S (tCB rSortH (tCons (tFld K (tVar i) "_haps") tNil)) sl (namesD b) := fun G H σ k f s Q qq => by
  obtain ⟨dx, a, sp, pq, e1, ⟨kvs, e2, e3⟩, _⟩ := (hB _ _ s).ex
  refine ⟨.ref x, frd_raw f hi, x, C, dx, _, _, rfl, e1, hc, hn, flds_haps _ _ _, a, kvs, b.haps.map (·.1), rfl, rd_mono k e2, dic_keys e3, by rw [List.length_map]; exact hl, fun ys q hp hs hq => ?_⟩
  have hly : ys.length ≤ 90000 := by
    have := hp.length_eq
    rw [List.length_map] at this
    omega
  have e := srtN_is hp hs
  subst e
  exact qq _ _ _ (Nx.new k hq) (.lst (.inl (.inl upd_same)) (rps_strs _)) ⟨q, _, rfl, hq, upd_same, by rw [List.length_map]; exact hly⟩
/-- [te for x in list], te a list made anew; the list by a world -/
theorem ebw_lc {ds es : List Dt} (hes : es.length = ds.length) (h : Eb K S tl sl (.lst ds)) (hn : ds.length ≤ 90000) (he : ∀ (k : Nat) (d e : Dt), ds[k]? = some d → es[k]? = some e → En K te ((sl.set i .no).set i (.d d)) e) : EbW K WN2 S (tLc (iList K tl) (gName i) tYes te [i]) sl (.lst es) := fun G H σ k fr s Q q =>
  h G H σ k fr s _ fun v G1 H1 n1 r1 => by
    obtain ⟨tl', htl⟩ : ∃ tl' : TE, tl' = fun _ H0 Q0 => H0 = H1 ∧ Q0 v H1 := ⟨_, rfl⟩
    cases r1 with
    | lst hs rs =>
      rename_i a xs
      have hlen := rs.length
      refine ⟨a, rfl, ⟨_, Evl.ex_l n1.k hs⟩, fun Dl hD => ?_⟩
      have gD : G1 Dl = none := free_of n1.k hD
      refine lc_list (K := K) (a := a) (xs := xs) (fun j H' => ∃ G' vs, Ex G1 G' ∧ Ex H1 H' ∧ Ex G' H' ∧ (∀ c, G1 c = none → H1 c ≠ none → G' c = none) ∧ G' Dl = none ∧ H' Dl = some (.lst vs) ∧ Rps K G' vs (es.take j) ∧ ∀ u ∈ vs, ∃ r us, u = V.ref r ∧ r ≠ Dl ∧ H1 r = none ∧ H' r = some (.lst us) ∧ us.length ≤ 90000)
        ⟨G1, [], Ex.refl _, Ex.new hD, n1.k.trans (Ex.new hD), fun _ z _ => z, gD, upd_same, .nil, fun u m => by cases m⟩ (fun j H' _ ⟨G', vs, e1, e2, _⟩ => Evl.ex_l (n1.k.trans e2) hs) ?_ ?_
      · rintro j x H' hj ⟨G', vs, e1, e2, e3, e4, e5, e6, e7, e8⟩
        have hj2 : j < xs.length := (List.getElem?_eq_some_iff.mp hj).1
        have hd : ds[j]? = some ds[j] := List.getElem?_eq_getElem (by omega)
        obtain ⟨x', hx', rx⟩ := rs.get hd
        rw [hj] at hx'
        cases hx'
        refine ⟨?_, ?_⟩
        · show (((σ.set i none)).set i (some x)).set i none = σ.set i none
          rw [List.set_set, List.set_set]
        · have fr1 : FrD K G' ((σ.set i none).set i (some x)) ((sl.set i .no).set i (.d ds[j])) := frd_set (.d (rx.mono e1)) i (frd_wipe i (FrD.mono (n1.g.trans e1) fr))
          have hd2 : es[j]? = some es[j] := List.getElem?_eq_getElem (by omega)
          refine he j ds[j] es[j] hd hd2 G' H' _ e3 fr1 _ fun u G2 H2 n2 r2 nw => ?_
          have g2D : G2 Dl = none := n2.f Dl e5 (by rw [e6]; intro z; cases z)
          have hl := e7.length
          have H2D := n2.h Dl _ e6
          refine ⟨vs, H2D, Nat.lt_of_lt_of_le (m := 100000) (by rw [hl, List.length_take]; omega) (by decide), G2, vs ++ [u], e1.trans n2.g, Evl.Ex.mut (e2.trans n2.h) hD, Evl.Ex.mut n2.k g2D, fun c c1 c2 => n2.f c (e4 c c1 c2) (ne_none e2 c2), g2D, upd_same, ?_, ?_⟩
          · have et : es.take (j + 1) = es.take j ++ [es[j]] := by
              rw [List.take_add_one, hd2]
              rfl
            rw [et]
            exact (e7.mono n2.g).snoc r2
          · intro y my
            rcases List.mem_append.mp my with my | my
            · obtain ⟨r, us, a1, a2, a3, a4, a5⟩ := e8 y my
              exact ⟨r, us, a1, a2, a3, by rw [upd_ne a2]; exact n2.h r _ a4, a5⟩
            · obtain ⟨r, us, a1, a2, a3, a5⟩ := nw
              have ne : r ≠ Dl := fun z => by
                rw [z, e6] at a2
                cases a2
              exact ⟨r, us, (List.mem_singleton.mp my).trans a1, ne, none_of e2 a2, by rw [upd_ne ne]; exact a3, a5⟩
      · rintro H' ⟨G', vs, e1, e2, e3, e4, e5, e6, e7, e8⟩
        rw [hlen, show ds.length = es.length from hes.symm, List.take_length] at e7
        have z := freeze (none_of n1.h hD) (n1.trans ⟨e1, e2, e3, e4⟩) e5 e6 e7
        refine q _ _ _ z.1 z.2 ⟨Dl, vs, rfl, none_of n1.h hD, e6, e7.length, fun u m => ?_⟩
        obtain ⟨r, us, a1, a2, a3, a4⟩ := e8 u m
        exact ⟨r, us, a1, none_of n1.h a3, a4⟩
/-- a call that hands back new lists of new lists, seen as data -/
theorem eb_callN {R : List Dt → Dt → Prop} {tr : TA} (h : EbA K S tr sl xs) (hr : R xs d) : Eb K S (tCall (spN K R) [] E tr) sl d := fun G H σ k f s Q q =>
  h G H σ k f s _ fun vs G1 H1 n1 r1 => ⟨xs, d, G1, n1.k, rps_nil r1, hr, fun v G2 H2 n2 r2 _ => q v G2 H2 (n1.trans n2) r2⟩
end
section
variable {P : Program} {w : World} {K : PySem.W.Frag} {mg : Str → Option Value} {base : Heap} {m q : Str} {st : Stmt} {N ps : List Str} {k : Nat} {C : Addr} {W : Wnw}
theorem DdM.askW {R : Bst → List Dt → Dt → Prop} {t : TS} (D : DdM K C m q st ps) (S : FnScope N ps (defScope st)) (hl : ∀ b ds d, R b ds d → ds.length + 1 = ps.length)
    (h1 : ∀ (f : Addr) (cdv : Value) (A : Around) (outer : List Env) (s : Shared) (H : Hp) (E : XK), Room k (A.deeper (envOfC q (defScope st) s.heap.objs.size f cdv)) → PSs (cxOf CX0 P w K mg base N q (defScope st) f cdv A outer s H E).nox (defBody st) t)
    (h2 : ∀ x b ds d, R b ds d → RbW K W (fun G H => BnR K C x G H b) t (Sl.raw (.ref x) :: (ds.map Sl.d ++ List.replicate (N.length - ps.length) .no)) d) : HasM P w K mg base CX0 (k + 1) C m ps (spBqW K C W R) := by
  refine D.any S (fun vs H Q E h => ?_) h1 fun vs H Q E h => ?_
  · obtain ⟨x, ws, ds, b, G, d, rfl, _, r, _, hR, _⟩ := h
    show ws.length + 1 = _
    rw [r.length]
    exact hl b ds d hR
  · obtain ⟨x, ws, ds, b, G, d, rfl, kk, r, hB, hR, qq⟩ := h
    exact h2 x b ds d hR G H _ kk (start_bn r (hl b ds d hR)) hB _ qq
theorem DdM.askWX {R : Bst → List Dt → Dt → Prop} {t : XK → TS} (D : DdM K C m q st ps) (S : FnScope N ps (defScope st)) (hl : ∀ b ds d, R b ds d → ds.length + 1 = ps.length)
    (h1 : ∀ (f : Addr) (cdv : Value) (A : Around) (outer : List Env) (s : Shared) (H : Hp) (E : XK), Room k (A.deeper (envOfC q (defScope st) s.heap.objs.size f cdv)) → PSs (cxOf (L2.CX P w) P w K mg base N q (defScope st) f cdv A outer s H E) (defBody st) (t E))
    (h2 : ∀ x b ds d, R b ds d → ∀ E, RbW K W (fun G H => BnR K C x G H b) (t E) (Sl.raw (.ref x) :: (ds.map Sl.d ++ List.replicate (N.length - ps.length) .no)) d) : HasM P w K mg base (L2.CX P w) (k + 1) C m ps (spBqW K C W R) := by
  refine D.anyX S (fun vs H Q E h => ?_) h1 fun vs H Q E h => ?_
  · obtain ⟨x, ws, ds, b, G, d, rfl, _, r, _, hR, _⟩ := h
    show ws.length + 1 = _
    rw [r.length]
    exact hl b ds d hR
  · obtain ⟨x, ws, ds, b, G, d, rfl, kk, r, hB, hR, qq⟩ := h
    exact h2 x b ds d hR E G H _ kk (start_bn r (hl b ds d hR)) hB _ qq
end
/-! ### a bench's order -/
def nmA (b : Bst) (k : Nat) : Dt := .str ((srtN (b.haps.map (·.1))).getD k ⟨#[]⟩)
def rowB (b : Bst) (q : Rat) : Dt := .lst ((atQ (tsB b) b.speed q).map (nmA b))
def ordB (b : Bst) : Dt := .lst ((rsg (stQ (tsB b) b.speed)).map (rowB b))
theorem tsB_len (b : Bst) : (tsB b).length = b.haps.length := by
  unfold tsB
  rw [List.length_map, srtN_len, List.length_map]
theorem atQ_lt {ts : List (Rat × Rat)} {v q : Rat} {k : Nat} (h : k ∈ atQ ts v q) : k < ts.length := List.mem_range.mp (List.mem_filter.mp h).1
theorem atQ_len (ts : List (Rat × Rat)) (v q : Rat) : (atQ ts v q).length ≤ ts.length := Nat.le_trans (List.length_filter_le _ _) (by rw [List.length_range]; omega)
/-- [names[at] for at in numbers] -/
theorem en_row {K : PySem.W.Frag} {sl : List Sl} {i j m : Nat} {b : Bst} {q : Rat} (hb : b.haps.length ≤ 1000) (hm : sl[m]? = some (.d (.lst (numsD (atQ (tsB b) b.speed q))))) (hn : ∀ d, ((sl.set i .no).set i (.d d))[j]? = some (.d (namesD b))) (hi : ∀ d, ((sl.set i .no).set i (.d d))[i]? = some (.d d)) :
    En K (tLc (iList K (tVar m)) (gName i) tYes (tOp (rIx K) (tVar j) (tVar i)) [i]) sl (rowB b q) := by
  have ll := atQ_len (tsB b) b.speed q
  have tl := tsB_len b
  refine en_ef (ef_lcP (ds := numsD (atQ (tsB b) b.speed q)) (by unfold numsD; rw [List.length_map, List.length_map]) (ev_var hm) (by unfold numsD; rw [List.length_map]; omega) fun k d e hd he => ?_) (by rw [List.length_map]; omega)
  unfold numsD at hd
  rw [List.getElem?_map] at hd he
  cases hx : (atQ (tsB b) b.speed q)[k]? with
  | none => rw [hx] at hd; cases hd
  | some z =>
    rw [hx] at hd he
    cases hd
    cases he
    have hz := atQ_lt (List.mem_of_getElem? hx)
    have hlt : z < (srtN (b.haps.map (·.1))).length := by rw [srtN_len, List.length_map]; omega
    refine ev_op (ev_var (hn _)) (ev_var (hi _)) (r2_ixL ?_)
    rw [atI_k _ (by rw [List.length_map]; exact hlt), List.getElem?_map, List.getElem?_eq_getElem hlt]
    show some (Dt.str _) = some (nmA b z)
    unfold nmA
    rw [List.getD_eq_getElem?_getD, List.getElem?_eq_getElem hlt]
    rfl
theorem getHD {b : Bst} {n : Str} (h : n ∈ b.haps.map (·.1)) : getH b.haps n = some ((getH b.haps n).getD (0, 0)) := by
  obtain ⟨q, hq⟩ := getH_mem h
  rw [hq]
  rfl
theorem tsB_mem {b : Bst} {p : Rat × Rat} (h : p ∈ tsB b) : ∃ n, getH b.haps n = some p := by
  unfold tsB at h
  obtain ⟨n, hn, rfl⟩ := List.mem_map.mp h
  exact ⟨n, getHD (srtN_mem.mp hn)⟩
/-- sizes of a bench -/
structure UbB (b : Bst) : Prop where
  hi : HapsI b.haps
  le : b.haps.length ≤ 12
  sp : Sp b.speed
  pl : ∃ w, Pl b.speed w
  q : Bq 1800 b.speed
theorem small_dvd : ∀ n : Nat, 0 < n → n < 2 ^ 4 → n ∣ 360360 := by
  intro n h1 h2
  have : n < 16 := h2
  rcases (by omega : n = 1 ∨ n = 2 ∨ n = 3 ∨ n = 4 ∨ n = 5 ∨ n = 6 ∨ n = 7 ∨ n = 8 ∨ n = 9 ∨ n = 10 ∨ n = 11 ∨ n = 12 ∨ n = 13 ∨ n = 14 ∨ n = 15) with rfl | rfl | rfl | rfl | rfl | rfl | rfl | rfl | rfl | rfl | rfl | rfl | rfl | rfl | rfl <;> exact Nat.dvd_of_mod_eq_zero (by decide +kernel)
end Z
namespace Z
open PySem PySem.Spec PyProof.Rows L2 RZ
open Evl (Ex)
/-- stands of a bench's haps: one denominator in common -/
theorem st_denB {ts : List (Rat × Rat)} {v : Rat} (hb : ∀ p ∈ ts, Bq 90 p.1 ∧ Bq 4 p.2) (hn : ts.length ≤ 12) (bv : Bq 1800 v) : DenOk (stQ ts v) := by
  obtain ⟨qs, hqs⟩ : ∃ qs : List Rat, qs = ts.map (·.1) := ⟨_, rfl⟩
  have lq : qs.length = ts.length := by rw [hqs, List.length_map]
  have bt : bot qs ≤ 2 ^ (90 * qs.length) := by
    have b := bot_le (m := 90) (qs := qs) (fun q hq => by
      rw [hqs] at hq
      obtain ⟨p, hp, rfl⟩ := List.mem_map.mp hq
      exact (hb p hp).1.2) qs.length
    rwa [List.take_length] at b
  refine ⟨bot qs * (v.den * 360360), Nat.mul_pos (bot_pos qs) (Nat.mul_pos v.den_pos (by decide)), ?_, fun q hq => ?_⟩
  · have h1 : v.den < 2 ^ 1800 := bv.2
    refine Nat.lt_of_le_of_lt (m := 2 ^ (90 * qs.length) * (2 ^ 1800 * 2 ^ 19)) (Nat.mul_le_mul bt (Nat.mul_le_mul (Nat.le_of_lt h1) (by decide))) ?_
    rw [← Nat.pow_add, ← Nat.pow_add]
    exact Nat.pow_lt_pow_right (by decide) (by omega)
  · obtain ⟨p, hp, rfl⟩ := List.mem_map.mp hq
    obtain ⟨h1, h2⟩ := hb p hp
    refine Nat.dvd_trans (sub_den _ _) (Nat.mul_dvd_mul (bot_dvd (by rw [hqs]; exact List.mem_map.mpr ⟨p, hp, rfl⟩)) ?_)
    exact Nat.dvd_trans (mul_den _ _) (Nat.mul_dvd_mul_left _ (small_dvd _ p.2.den_pos h2.2))
theorem UbB.ts {b : Bst} (h : UbB b) : ∀ p ∈ tsB b, Bq 90 p.1 ∧ Bq 4 p.2 := fun p hp => by
  obtain ⟨n, hn⟩ := tsB_mem hp
  exact (h.hi _ (getH_in hn)).2.2.2
theorem UbB.tl {b : Bst} (h : UbB b) : (tsB b).length ≤ 12 := by rw [tsB_len]; exact h.le
/-! ### names are such texts as can be compared -/
theorem sh_nm {n : Str} (h : isNm (.str n) = true) : SeqAt.shaped (.str n) = true := by
  have h : ((decide (1 ≤ n.length) && decide (n.length ≤ 8)) && n.cps.toList.all fun c => decide (c ∈ abcS.cps.toList)) = true := h
  rw [Bool.and_eq_true] at h
  have h2 := List.all_eq_true.mp h.2
  have low : ∀ c ∈ abcS.cps.toList, c < 0x110000 := by decide +kernel
  unfold SeqAt.shaped
  rw [Bool.and_eq_true]
  refine ⟨?_, by simp [PyData.depth]⟩
  rw [PyData.canLay0]
  unfold PyData.strOk
  rw [← Array.all_toList]
  exact List.all_eq_true.mpr fun c hc => decide_eq_true (low c (of_decide_eq_true (h2 c hc)))
theorem sh_names {b : Bst} (h : UbB b) : ∀ s ∈ srtN (b.haps.map (·.1)), SeqAt.shaped (.str s) = true := fun s hs => by
  obtain ⟨q, hq⟩ := getH_mem (srtN_mem.mp hs)
  exact sh_nm (h.hi _ (getH_in hq)).1
theorem py_names {b : Bst} (h : UbB b) : ∃ p, py (namesD b) = some p ∧ SeqAt.shaped p = true := ⟨_, by unfold namesD; rw [py, pys_strs], sh_strs (sh_names h)⟩
theorem pys_rowsB {b : Bst} : ∀ qs : List Rat, pys (qs.map (rowB b)) = some (qs.map fun q => PyData.list ((atQ (tsB b) b.speed q).map fun k => PyData.str ((srtN (b.haps.map (·.1))).getD k ⟨#[]⟩)))
  | [] => rfl
  | q :: qs => by
    have e : py (rowB b q) = some (PyData.list ((atQ (tsB b) b.speed q).map fun k => PyData.str ((srtN (b.haps.map (·.1))).getD k ⟨#[]⟩))) := by
      unfold rowB nmA
      rw [py]
      have : (atQ (tsB b) b.speed q).map (fun k => Dt.str ((srtN (b.haps.map (·.1))).getD k ⟨#[]⟩)) = ((atQ (tsB b) b.speed q).map fun k => (srtN (b.haps.map (·.1))).getD k ⟨#[]⟩).map Dt.str := by rw [List.map_map]; rfl
      rw [this, pys_strs, List.map_map]
      rfl
    rw [List.map_cons, pys, pys_rowsB qs, e]
    rfl
theorem py_ord {b : Bst} (h : UbB b) : ∃ p, py (ordB b) = some p ∧ SeqAt.shaped p = true := ⟨_, by unfold ordB; rw [py, pys_rowsB], sh_lst fun d m => by
  obtain ⟨q, _, rfl⟩ := List.mem_map.mp m
  have key : ∀ z ∈ ((atQ (tsB b) b.speed q).map fun k => PyData.str ((srtN (b.haps.map (·.1))).getD k ⟨#[]⟩)), z.canLay0 = true ∧ z.depth = 0 := fun z hz => by
    obtain ⟨k, hk, rfl⟩ := List.mem_map.mp hz
    have hlt : k < (srtN (b.haps.map (·.1))).length := by
      have := atQ_lt hk
      rw [tsB_len] at this
      rwa [srtN_len, List.length_map]
    have hs := sh_names h ((srtN (b.haps.map (·.1))).getD k ⟨#[]⟩) (by rw [List.getD_eq_getElem?_getD, List.getElem?_eq_getElem hlt, Option.getD_some]; exact List.getElem_mem hlt)
    unfold SeqAt.shaped at hs
    rw [Bool.and_eq_true] at hs
    exact ⟨hs.1, by simp [PyData.depth]⟩
  obtain ⟨h1, h2⟩ := sh_list (ps := ((atQ (tsB b) b.speed q).map fun k => PyData.str ((srtN (b.haps.map (·.1))).getD k ⟨#[]⟩))) (fun d m => ⟨(key d m).1, by rw [(key d m).2]; exact Nat.zero_le _⟩)
  have h3 : PyData.depthAll ((atQ (tsB b) b.speed q).map fun k => PyData.str ((srtN (b.haps.map (·.1))).getD k ⟨#[]⟩)) ≤ 1 := by
    generalize atQ (tsB b) b.speed q = l
    induction l with
    | nil => exact Nat.zero_le _
    | cons k l ih =>
      rw [List.map_cons, PyData.depthAll, PyData.depth]
      omega
  exact ⟨by rw [PyData.canLay0]; exact h1, by rw [PyData.depth]; omega⟩⟩
/-! ### a turn that looks at new answers, then writes to them -/
section
variable {K : PySem.W.Frag} {S S1 S2 S3 : Hp → Hp → Prop} {sl sl0 : List Sl} {i j : Nat} {te1 te2 td : TE} {x1 x2 : List Dt} {tc1 tc2 : TT} {t1 t2 tl t : TS} {us : List Addr} {N : List Sl → Prop} {a : Addr}
theorem bn_post (h : Bn K us S S2 t sl N) (w : ∀ G H, S2 G H → S3 G H) : Bn K us S S3 t sl N := fun G H σ k f s D q => h G H σ k f s D fun σ2 sl2 G2 H2 m2 n2 s2 => q σ2 sl2 G2 H2 m2 n2 (w _ _ s2)
end
/-! ### a def that holds a bench against a law's books -/
end Z
namespace Z
open PySem PySem.Spec PyProof.Rows L2 RZ
open Evl (Ex)
section
variable {K : PySem.W.Frag} {S S2 : Hp → Hp → Prop} {sl : List Sl} {ty : TE} {i j : Nat} {y p : Addr} {b : Bst} {n : Str} {q : Rat × Rat}
theorem es_sorted (hB : ∀ G H, S G H → SoR K y G H b) (hi : sl[i]? = some (.raw (.ref y))) (hl : b.haps.length < 64) : Eb K S (tCB rSortH (tCons (tDGet (tVar i) (tC (.str "haps"))) tNil)) sl (namesD b) := fun G H σ k f s Q qq => by
  obtain ⟨a, sp, p, pv, e1, ⟨kvs, e2, e3⟩, _⟩ := (hB _ _ s).ex
  refine ⟨.ref y, frd_raw f hi, y, .ref a, rfl, st_haps (s := sp) (p := p) ▸ DGet.k (k := .inr "haps") e1, a, kvs, b.haps.map (·.1), rfl, rd_mono k e2, dic_keys e3, by rw [List.length_map]; exact hl, fun ys q hp hs hq => ?_⟩
  have e := srtN_is hp hs
  subst e
  exact qq _ _ _ (Nx.new k hq) (.lst (.inl (.inl upd_same)) (rps_strs _))
theorem es_hget (hS : Stb S) (hB : ∀ G H, S G H → SoR K y G H b) (hi : sl[i]? = some (.raw (.ref y))) (h : Eb K S ty sl (.str n)) (hq : getH b.haps n = some q) : Eb K S (tDGet (tDGet (tVar i) (tC (.str "haps"))) ty) sl (hpD q) := fun G H σ k f s Q qq => by
  obtain ⟨a, sp, p, pv, e1, ⟨kvs, e2, e3⟩, _⟩ := (hB _ _ s).ex
  refine ⟨.ref y, frd_raw f hi, y, .ref a, rfl, st_haps (s := sp) (p := p) ▸ DGet.k (k := .inr "haps") e1, ?_⟩
  refine h G H σ k f s _ fun v G1 H1 n1 r1 => ?_
  cases r1
  rcases pair_get n e3 with ⟨h1, _⟩ | ⟨q2, v, h1, h2, h3⟩
  · rw [h1] at hq
    cases hq
  · rw [h1] at hq
    cases hq
    exact ⟨a, v, rfl, h2 ▸ DGet.r (k := .inr n) (rd_mono (fun c o z => n1.h c o z) (rd_mono k e2)), qq v G1 H1 n1 (h3.mono n1.g)⟩
end
/-! ### two things made anew, in a list -/
def Fr (K : PySem.W.Frag) (te : TE) (F : Addr → Addr → Hp → Hp → Prop) : Prop := ∀ (G H : Hp) (σ : L2.St), Ex G H → ∀ Q : VK, (∀ x p G2 H2, H x = none → H p = none → x ≠ p → NxP [] G H G2 H2 → F x p G2 H2 → Q (.ref x) H2) → te σ H Q
theorem fr_fresh {K : PySem.W.Frag} {E : XK} : Fr K (tCall (spFr K) [] E tNil) fun y p G H => SoAt K y p G H ⟨[], 0, []⟩ := fun G H σ k Q q => ⟨rfl, G, k, q⟩
theorem fr_make {K : PySem.W.Frag} {C : Addr} {E : XK} : Fr K (tMake C (spMkB K C) [] E tNil) fun x p G H => BnAt K C x p G H ⟨[], 0, []⟩ := fun G H σ k Q q => by
  intro x dx hx hdx nex
  have gx : G x = none := free_of k hx
  have gdx : G dx = none := free_of k hdx
  have k1 : Ex G (upd (upd H dx (.own x)) x (.ins C dx [])) := fun c u e => by
    have h1 : c ≠ x := fun y => by rw [y, gx] at e; cases e
    have h2 : c ≠ dx := fun y => by rw [y, gdx] at e; cases e
    rw [upd_ne h1, upd_ne h2]
    exact k _ _ e
  refine ⟨x, dx, G, rfl, upd_same, k1, gx, fun p G2 H2 hp n2 b2 => ⟨rfl, ?_⟩⟩
  have hp0 : H p = none := by
    have h1 : p ≠ x := fun y => by rw [y, upd_same] at hp; cases hp
    rw [upd_ne h1] at hp
    have h2 : p ≠ dx := fun y => by rw [y, upd_same] at hp; cases hp
    rw [upd_ne h2] at hp
    exact hp
  have up : ∀ c, H c ≠ none → upd (upd H dx (.own x)) x (.ins C dx []) c = H c := fun c hc => by
    rw [upd_ne (fun y : c = x => hc (by rw [y]; exact hx)), upd_ne (fun y : c = dx => hc (by rw [y]; exact hdx))]
  refine q x p G2 H2 hx hp0 b2.ne ⟨n2.g, n2.k, fun a o _ e => ?_, fun a h2 => ?_, fun a h1 h2 => ?_⟩ b2
  · have ha : H a ≠ none := by rw [e]; intro z; cases z
    refine n2.h a o (by simp; exact fun y => ha (by rw [y]; exact hx)) ?_
    rw [up a ha]
    exact e
  · exact n2.t a (by rw [up a h2]; exact h2)
  · exact n2.f a h1 (by rw [up a h2]; exact h2)
theorem rt_of_br {K : PySem.W.Frag} {t : TS} {sl : List Sl} {d : Dt} (h : Br K [] (fun _ _ => True) (fun _ _ => True) t sl d) : Rt K t sl d := fun G H σ k f D q => h G H σ k f trivial D fun v G2 H2 n2 _ r2 => q v G2 H2 n2.nx r2
theorem BnAt.here {K : PySem.W.Frag} {C x p : Addr} {G H : Hp} {b : Bst} (h : BnAt K C x p G H b) : H x ≠ none ∧ H p ≠ none := by
  obtain ⟨dx, a0, s, pv, h1, _, _, h4, _⟩ := h.ex
  exact ⟨(by rw [h1]; intro z; cases z), (by rw [h4]; intro z; cases z)⟩
theorem SoAt.here {K : PySem.W.Frag} {y p : Addr} {G H : Hp} {b : Bst} (h : SoAt K y p G H b) : H y ≠ none ∧ H p ≠ none := by
  obtain ⟨a, s, pv, h1, _, _, h4, _⟩ := h.ex
  exact ⟨(by rw [h1]; intro z; cases z), (by rw [h4]; intro z; cases z)⟩
/-! ### speeds at benches are plain -/
structure PlB (b : Bst) : Prop where
  now : ∃ w, Pl b.speed w
  pa : ∀ e ∈ b.past, ∃ w, Pl e.2 w
theorem plb_zero : PlB ⟨[], 0, []⟩ := ⟨⟨1, pl_zero⟩, fun e he => by cases he⟩
theorem PlB.grow {b : Bst} (h : PlB b) {hs : Hps} {s : Rat} (n : ∃ w, Pl s w) : PlB ⟨hs, s, b.past ++ [(b.haps, b.speed)]⟩ := ⟨n, fun e he => by
  rcases List.mem_append.mp he with he | he
  · exact h.pa e he
  · rw [List.mem_singleton.mp he]
    exact h.now⟩
theorem plb_step {b b' : Bst} {de : Deed} {d : Dt} (h : PlB b) (hd : DoneR b de d b') : PlB b' := by
  rcases hd with ⟨w, _, _, rfl⟩ | ⟨_, _, ha⟩
  · exact h
  cases de with
  | undo =>
    obtain ⟨h0, s0, pt, hp, rfl⟩ := ha
    have hm : ∀ e ∈ pt ++ [(h0, s0)], ∃ w, Pl e.2 w := fun e he => h.pa e (by rw [hp]; exact he)
    exact ⟨hm (h0, s0) (by simp), fun e he => hm e (List.mem_append_left _ he)⟩
  | put x z =>
    obtain ⟨n, q, _, _, rfl⟩ := ha
    exact h.grow h.now
  | drop x =>
    obtain ⟨n, _, _, rfl⟩ := ha
    exact h.grow h.now
  | turn x =>
    obtain ⟨v, w, _, hv, _, rfl⟩ := ha
    exact h.grow ⟨w, hv⟩
  | push x =>
    obtain ⟨v, w, _, hv, _, rfl⟩ := ha
    obtain ⟨c, hc⟩ := h.now
    exact h.grow ⟨_, hc.jn hv⟩
theorem PI.up {k : Nat} {b : Bst} (h : PI k b) : PI (k + 1) b := ⟨h.now.up, fun e he => (h.pa e he).up, by have := h.le; omega⟩
theorem PI.ub {k : Nat} {b : Bst} (h : PI k b) (g : PlB b) (hk : k ≤ 25) : UbB b := ⟨h.now.hi, h.now.le, h.now.sp, g.now, h.now.q.mono (by omega)⟩
end Z
namespace Z
open PySem PySem.Spec PyProof.Rows L2 RZ
open Evl (Ex)
/-! ### two benches and the books of both, in lists -/
structure W4 (K : PySem.W.Frag) (C l m x1 p1 x2 p2 y1 q1 y2 q2 : Addr) (b1 b2 c1 c2 : Bst) (G H : Hp) : Prop where
  a1 : BnAt K C x1 p1 G H b1
  a2 : BnAt K C x2 p2 G H b2
  s1 : SoAt K y1 q1 G H c1
  s2 : SoAt K y2 q2 G H c2
  gl : G l = some (.lst [.ref x1, .ref x2])
  gm : G m = some (.lst [.ref y1, .ref y2])
section
variable {K : PySem.W.Frag} {C l m x1 p1 x2 p2 y1 q1 y2 q2 pot : Addr} {b b1 b2 c c1 c2 : Bst} {G H G2 H2 : Hp} {us : List Addr} {T : Hp → Hp → Prop} {sl : List Sl} {E : XK} {rr : TS}
theorem W4.nxP (h : W4 K C l m x1 p1 x2 p2 y1 q1 y2 q2 b1 b2 c1 c2 G H) (n : NxP us G H G2 H2) (hn : ∀ a ∈ us, a ∉ [y1, q1, y2, q2, x1, p1, x2, p2]) : W4 K C l m x1 p1 x2 p2 y1 q1 y2 q2 b1 b2 c1 c2 G2 H2 := by
  have o : ∀ a, a ∈ [y1, q1, y2, q2, x1, p1, x2, p2] → a ∉ us := fun a ha hu => hn a hu ha
  exact ⟨h.a1.nxP n (o _ (by simp)) (o _ (by simp)), h.a2.nxP n (o _ (by simp)) (o _ (by simp)), h.s1.nxP n (o _ (by simp)) (o _ (by simp)), h.s2.nxP n (o _ (by simp)) (o _ (by simp)), n.g _ _ h.gl, n.g _ _ h.gm⟩
theorem W4.nx (h : W4 K C l m x1 p1 x2 p2 y1 q1 y2 q2 b1 b2 c1 c2 G H) (n : Nx G H G2 H2) : W4 K C l m x1 p1 x2 p2 y1 q1 y2 q2 b1 b2 c1 c2 G2 H2 := h.nxP (us := []) n.p (fun a ha => by cases ha)
theorem W4.here (h : W4 K C l m x1 p1 x2 p2 y1 q1 y2 q2 b1 b2 c1 c2 G H) : ∀ a ∈ [y1, q1, y2, q2, x1, p1, x2, p2], H a ≠ none := fun a ha => by
  simp only [List.mem_cons, List.not_mem_nil, or_false] at ha
  rcases ha with rfl | rfl | rfl | rfl | rfl | rfl | rfl | rfl
  · exact h.s1.here.1
  · exact h.s1.here.2
  · exact h.s2.here.1
  · exact h.s2.here.2
  · exact h.a1.here.1
  · exact h.a1.here.2
  · exact h.a2.here.1
  · exact h.a2.here.2
end
end Z
namespace Z
open PySem PySem.Spec PyProof.Rows L2 RZ
open Evl (Ex)
/-! ### how long what is told by a bench can be, to the sign -/
theorem beat_den {v b : Rat} (h : Pl v b) : b.den ∣ v.den := by
  have h1 : b.den * b.den = (1 - v * v).den := by rw [← h.e, den_sq]
  have h2 : (1 - v * v).den ∣ v.den * v.den := by
    have := sub_den 1 (v * v)
    rw [den_sq, show (1 : Rat).den = 1 from rfl, Nat.one_mul] at this
    exact this
  have h3 : b.den * b.den ∣ v.den * v.den := h1 ▸ h2
  exact (Nat.pow_dvd_pow_iff (n := 2) (by decide)).mp (by rwa [Nat.pow_two, Nat.pow_two])
theorem beat_le {v b : Rat} (h : Pl v b) : b ≤ 1 := by
  have h0 := h.p
  have he := h.e
  rcases (by grind : b ≤ 1 ∨ 1 < b) with z | z
  · exact z
  · exfalso
    have h1 : 0 < (b - 1) * b := Rat.mul_pos (by grind) h0
    have h2 : 0 ≤ v * v := by
      rcases (by grind : 0 ≤ v ∨ 0 ≤ -v) with y | y
      · exact Rat.mul_nonneg y y
      · have := Rat.mul_nonneg y y
        grind
    grind
theorem num_le_den {b : Rat} (h0 : 0 < b) (h1 : b ≤ 1) : b.num.natAbs ≤ b.den := by
  have hn : 0 < b.num := numpos.mpr h0
  have hd := den_z b
  have e := q_is b
  have dp : (0 : Rat) < (((b.den : Nat) : Int) : Rat) := by
    have := b.den_pos
    exact_mod_cast this
  have : ((b.num : Int) : Rat) ≤ (((b.den : Nat) : Int) : Rat) := by
    have e2 : ((b.num : Int) : Rat) = b * (((b.den : Nat) : Int) : Rat) := by
      generalize (((b.den : Nat) : Int) : Rat) = d at *
      grind
    rw [e2]
    have := Rat.mul_nonneg (show 0 ≤ 1 - b by grind) (show 0 ≤ (((b.den : Nat) : Int) : Rat) by grind)
    grind
  have : b.num ≤ ((b.den : Nat) : Int) := by exact_mod_cast this
  omega
theorem told_frac {v b : Rat} (h : Pl v b) : ∃ M : Int, M ≠ 0 ∧ M.natAbs ≤ v.den ∧ ∀ t p : Rat, (t - v * p) / b = ((t.num * (p.den : Nat) * (v.den : Nat) - v.num * p.num * (t.den : Nat) : Int) : Rat) / ((((t.den : Nat) : Int) * ((p.den : Nat) : Int) * M : Int) : Rat) := by
  obtain ⟨e, he⟩ := beat_den h
  have e0 : e ≠ 0 := fun z => by
    have := v.den_pos
    rw [he, z] at this
    omega
  have bn0 : b.num ≠ 0 := by
    have := numpos.mpr h.p
    omega
  have hle := num_le_den h.p (beat_le h)
  refine ⟨(e : Int) * b.num, Int.mul_ne_zero (by omega) bn0, ?_, fun t p => ?_⟩
  · rw [Int.natAbs_mul, Int.natAbs_natCast, he, Nat.mul_comm b.den e]
    exact Nat.mul_le_mul_left e hle
  · have hD : ((v.den : Nat) : Int) = ((b.den : Nat) : Int) * (e : Int) := by rw [he]; push_cast; rfl
    have q1 := q_is t
    have q2 := q_is p
    have q3 := q_is v
    have q4 := q_is b
    have z1 := den_z t
    have z2 := den_z p
    have z3 := den_z v
    have z4 := den_z b
    have z5 : ((e : Int) : Rat) ≠ 0 := by
      intro z
      have : (e : Int) = 0 := by exact_mod_cast z
      omega
    have z6 : ((b.num : Int) : Rat) ≠ 0 := by
      intro z
      have : b.num = 0 := by exact_mod_cast z
      exact bn0 this
    rw [hD] at q3 z3 ⊢
    rw [Rat.intCast_sub, Rat.intCast_mul, Rat.intCast_mul, Rat.intCast_mul, Rat.intCast_mul, Rat.intCast_mul, Rat.intCast_mul, Rat.intCast_mul, Rat.intCast_mul]
    rw [Rat.intCast_mul] at q3 z3
    have hb := h.ne
    generalize ((t.num : Int) : Rat) = tn at *
    generalize (((t.den : Nat) : Int) : Rat) = td at *
    generalize ((p.num : Int) : Rat) = pn at *
    generalize (((p.den : Nat) : Int) : Rat) = pd at *
    generalize ((v.num : Int) : Rat) = vn at *
    generalize (((b.den : Nat) : Int) : Rat) = bd at *
    generalize ((b.num : Int) : Rat) = bn at *
    generalize ((e : Int) : Rat) = ee at *
    clear hD he hle h
    subst q1 q2
    rw [q3, q4]
    grind
theorem told_bq {v b : Rat} (h : Pl v b) {n : Nat} (bv : Bq n v) {t p : Rat} {i j : Nat} (bt : Bq i t) (bp : Bq j p) : Bq (n + (i + j) + 1) ((t - v * p) / b) := by
  obtain ⟨M, m0, m1, hM⟩ := told_frac h
  rw [hM]
  have bm : Bt n M := Nat.lt_of_le_of_lt m1 bv.2
  have y0 : (((t.den : Nat) : Int) * ((p.den : Nat) : Int) * M : Int) ≠ 0 := Int.mul_ne_zero (Int.mul_ne_zero (den_ne t) (den_ne p)) m0
  refine bq_div y0 ?_ ?_
  · have a1 : Bt (i + j + n) (t.num * (p.den : Nat) * (v.den : Nat)) := bt_mul (bt_mul bt.1 bp.2) bv.2
    have a2 : Bt (n + j + i) (v.num * p.num * (t.den : Nat)) := bt_mul (bt_mul bv.1 bp.1) bt.2
    exact bt_sub (k := n + (i + j) + 1) a1 a2 (by omega) (by omega)
  · exact (bt_mul (bt_mul bt.2 bp.2) bm).mono (by omega)
theorem mv_sharp {v b : Rat} {q : Rat × Rat} (h : Pl v b) (bv : Bq 1800 v) (b1 : Bq 90 q.1) (b2 : Bq 4 q.2) : Bq 1896 (mvP v b (0, 0) q).1 ∧ Bq 1896 (mvP v b (0, 0) q).2 := by
  have z : ∀ a : Rat, a - 0 = a := fun a => by grind
  show Bq 1896 (((q.1 - 0) - v * (q.2 - 0)) / b) ∧ Bq 1896 (((q.2 - 0) - v * (q.1 - 0)) / b)
  rw [z, z]
  exact ⟨(told_bq h bv b1 b2).mono (by decide), (told_bq h bv b2 b1).mono (by decide)⟩
theorem den_told {ts : List (Rat × Rat)} {v b : Rat} (hb : ∀ p ∈ ts, Bq 90 p.1 ∧ Bq 4 p.2) (hn : ts.length ≤ 12) (h : Pl v b) (bv : Bq 1800 v) : DenOk (stQ (ts.map (mvP v b (0, 0))) 0) := by
  obtain ⟨M, m0, m1, hM⟩ := told_frac h
  obtain ⟨qs, hqs⟩ : ∃ qs : List Rat, qs = ts.map (·.1) := ⟨_, rfl⟩
  have lq : qs.length = ts.length := by rw [hqs, List.length_map]
  have bt : bot qs ≤ 2 ^ (90 * qs.length) := by
    have b := bot_le (m := 90) (qs := qs) (fun q hq => by
      rw [hqs] at hq
      obtain ⟨p, hp, rfl⟩ := List.mem_map.mp hq
      exact (hb p hp).1.2) qs.length
    rwa [List.take_length] at b
  have m2 : 0 < M.natAbs := Int.natAbs_pos.mpr m0
  refine ⟨bot qs * (360360 * M.natAbs), Nat.mul_pos (bot_pos qs) (Nat.mul_pos (by decide) m2), ?_, fun q hq => ?_⟩
  · have h1 : M.natAbs < 2 ^ 1800 := Nat.lt_of_le_of_lt m1 bv.2
    refine Nat.lt_of_le_of_lt (m := 2 ^ (90 * qs.length) * (2 ^ 19 * 2 ^ 1800)) (Nat.mul_le_mul bt (Nat.mul_le_mul (by decide) (Nat.le_of_lt h1))) ?_
    rw [← Nat.pow_add, ← Nat.pow_add]
    exact Nat.pow_lt_pow_right (by decide) (by omega)
  · obtain ⟨r, hr, rfl⟩ := List.mem_map.mp hq
    obtain ⟨p, hp, rfl⟩ := List.mem_map.mp hr
    obtain ⟨h1, h2⟩ := hb p hp
    have e : (mvP v b (0, 0) p).1 - 0 * (mvP v b (0, 0) p).2 = (p.1 - v * p.2) / b := by
      show ((p.1 - 0) - v * (p.2 - 0)) / b - 0 * _ = _
      have z : ∀ a : Rat, a - 0 = a := fun a => by grind
      rw [Rat.zero_mul, z, z, z]
    show ((mvP v b (0, 0) p).1 - 0 * (mvP v b (0, 0) p).2).den ∣ _
    rw [e, hM]
    have d := quo_den (t := p.1.num * (p.2.den : Nat) * (v.den : Nat) - v.num * p.2.num * (p.1.den : Nat)) (b := ((p.1.den : Nat) : Int) * ((p.2.den : Nat) : Int) * M) (Int.mul_ne_zero (Int.mul_ne_zero (den_ne _) (den_ne _)) m0)
    rw [Int.natAbs_mul, Int.natAbs_mul, Int.natAbs_natCast, Int.natAbs_natCast, Nat.mul_assoc] at d
    exact Nat.dvd_trans d (Nat.mul_dvd_mul (bot_dvd (by rw [hqs]; exact List.mem_map.mpr ⟨p, hp, rfl⟩)) (Nat.mul_dvd_mul_right (small_dvd _ p.2.den_pos h2.2) _))
/-! ### wider words and stands -/
def R_lagV (ds : List Dt) (d : Dt) : Prop := ∃ a b c e : Rat, ds = [hapD a b, hapD c e] ∧ Bq 1900 a ∧ Bq 1900 b ∧ Bq 1900 c ∧ Bq 1900 e ∧ d = hapD (c - a) (e - b)
def R_kindV (ds : List Dt) (d : Dt) : Prop := ∃ a b c e : Rat, ds = [hapD a b, hapD c e] ∧ Bq 1900 a ∧ Bq 1900 b ∧ Bq 1900 c ∧ Bq 1900 e ∧ d = .str (wordS (c - a) (e - b))
def StB (ts : List (Rat × Rat)) (v : Rat) : Prop := Bq 4400 v ∧ ∀ p ∈ ts, Bq 4400 p.1 ∧ Bq 4400 p.2 ∧ Bq 4400 (v * p.2) ∧ Bq 2900 (p.1 - v * p.2)
theorem UbB.st {b : Bst} (h : UbB b) : StB (tsB b) b.speed := ⟨h.q.mono (by decide), fun p hp => by
  obtain ⟨h1, h2⟩ := h.ts p hp
  have m := bq_mul h.q h2
  exact ⟨h1.mono (by decide), h2.mono (by decide), m.mono (by decide), (bq_sub h1 m).mono (by decide)⟩⟩
/-! ### what is seen of a bench -/
def btB (b : Bst) : Rat := ratOf (beatD b.speed)
theorem btB_is {b : Bst} {w : Rat} (h : Pl b.speed w) : btB b = w := by
  unfold btB
  rw [h.beat, ratOf_fq]
theorem UbB.bt {b : Bst} (h : UbB b) : Pl b.speed (btB b) := by
  obtain ⟨w, hw⟩ := h.pl
  rw [btB_is hw]
  exact hw
def toB (b : Bst) : List (Rat × Rat) := (tsB b).map (mvP b.speed (btB b) (0, 0))
def seenD (b : Bst) : Dt := .lst [namesD b, fq b.speed, ordB b, hapsD (toB b)]
theorem seenD_eq {b b2 : Bst} (h1 : srtN (b.haps.map (·.1)) = srtN (b2.haps.map (·.1))) (h2 : ∀ n ∈ srtN (b.haps.map (·.1)), getH b.haps n = getH b2.haps n) (h3 : b.speed = b2.speed) : seenD b = seenD b2 := by
  have e1 : namesD b = namesD b2 := by unfold namesD; rw [h1]
  have e2 : tsB b = tsB b2 := by
    unfold tsB
    rw [← h1]
    exact List.map_congr_left fun n hn => by rw [h2 n hn]
  have e3 : btB b = btB b2 := by unfold btB; rw [h3]
  have e4 : toB b = toB b2 := by unfold toB; rw [e2, e3, h3]
  have e5 : ordB b = ordB b2 := by
    unfold ordB rowB nmA
    rw [e2, h3, h1]
  unfold seenD
  rw [e1, e4, e5, h3]
theorem UbB.to {b : Bst} (h : UbB b) : ∀ p ∈ toB b, Bq 1896 p.1 ∧ Bq 1896 p.2 := fun p hp => by
  obtain ⟨q, hq, rfl⟩ := List.mem_map.mp hp
  obtain ⟨h1, h2⟩ := h.ts q hq
  exact mv_sharp h.bt h.q h1 h2
theorem toB_len (b : Bst) : (toB b).length = b.haps.length := by
  unfold toB
  rw [List.length_map, tsB_len]
end Z
namespace Z
open PySem PySem.Spec PyProof.Rows L2 RZ
open PySem.NumText TL
open Evl (Ex)
/-! ### a desk: an object that is kept and holds a bench -/
def dkF (y : Addr) : List (Str × V) := putF "_bench" (.ref y) []
def DkO (D z y : Addr) (G : Hp) : Prop := ∃ dz, G z = some (.ins D dz (dkF y))
theorem DkO.mono {D z y : Addr} {G G2 : Hp} (e : Ex G G2) (h : DkO D z y G) : DkO D z y G2 := by
  obtain ⟨dz, h⟩ := h
  exact ⟨dz, e _ _ h⟩
structure DkAt (K : PySem.W.Frag) (D C z y p : Addr) (G H : Hp) (b : Bst) : Prop where
  o : DkO D z y G
  b : BnAt K C y p G H b
section
variable {K : PySem.W.Frag} {D C z y p : Addr} {G H G2 H2 : Hp} {b b' : Bst} {us : List Addr}
theorem DkAt.nxP (h : DkAt K D C z y p G H b) (n : NxP us G H G2 H2) (hy : y ∉ us) (hp : p ∉ us) : DkAt K D C z y p G2 H2 b := ⟨h.o.mono n.g, h.b.nxP n hy hp⟩
theorem DkAt.nx (h : DkAt K D C z y p G H b) (n : Nx G H G2 H2) : DkAt K D C z y p G2 H2 b := ⟨h.o.mono n.g, h.b.nx n⟩
end
/-! ### a bench that an expression tells -/
/-! ### promises of a desk's methods: a deed or an answer, or a refusal -/
/-! ### a desk asked within its own methods -/
end Z
namespace Z
open PySem PySem.Spec PyProof.Rows L2 RZ
open PySem.NumText TL
open Evl (Ex)
/-! ### rows of words -/
inductive Row
  | put (n : Str) (p : Rat × Rat)
  | drop (n : Str)
  | turn (q : Rat)
  | push (q : Rat)
  | undo
  | names
  | speed
  | tell (n : Str)
  | order
  | kind (n m : Str)
def Row.w : Row → Str
  | .put .. => "put"
  | .drop .. => "drop"
  | .turn .. => "turn"
  | .push .. => "push"
  | .undo => "undo"
  | .names => "names"
  | .speed => "speed"
  | .tell .. => "tell"
  | .order => "order"
  | .kind .. => "kind"
def Row.t : Row → List Dt
  | .put n p => [.str n, hpD p]
  | .drop n => [.str n]
  | .turn q => [fq q]
  | .push q => [fq q]
  | .undo => []
  | .names => []
  | .speed => []
  | .tell n => [.str n]
  | .order => []
  | .kind n m => [.str n, .str m]
def Row.nms : Row → List Str
  | .put n _ => [n]
  | .drop n => [n]
  | .tell n => [n]
  | .kind n m => [n, m]
  | _ => []
def Row.ok (r : Row) : Prop := ∀ n ∈ r.nms, isNm (.str n) = true
/-- a deed's row -/
def Row.de : Row → Option Deed
  | .put n p => some (.put (.str n) (hpD p))
  | .drop n => some (.drop (.str n))
  | .turn q => some (.turn (fq q))
  | .push q => some (.push (fq q))
  | .undo => some .undo
  | _ => none
theorem isNm_chars {n : Str} (h : isNm (.str n) = true) : (∀ c ∈ tl n, 97 ≤ c ∧ c ≤ 122) ∧ 1 ≤ n.length ∧ n.length ≤ 8 := by
  have h : ((decide (1 ≤ n.length) && decide (n.length ≤ 8)) && n.cps.toList.all fun c => decide (c ∈ abcS.cps.toList)) = true := h
  rw [Bool.and_eq_true, Bool.and_eq_true, decide_eq_true_iff, decide_eq_true_iff, List.all_eq_true] at h
  refine ⟨fun c hc => ?_, h.1.1, h.1.2⟩
  have := of_decide_eq_true (h.2 c hc)
  have e : abcS.cps.toList = [97, 98, 99, 100, 101, 102, 103, 104, 105, 106, 107, 108, 109, 110, 111, 112, 113, 114, 115, 116, 117, 118, 119, 120, 121, 122] := by decide +kernel
  rw [e] at this
  simp only [List.mem_cons, List.not_mem_nil, or_false] at this
  omega
/-! ### words put together, or none -/
/-! ### a refusal's word and its class -/
end Z
namespace Z
open PySem PySem.Spec PyProof.Rows L2 RZ
open PySem.NumText TL
open Evl (Ex)
/-! ### what a desk answers -/
def nmsB (b : Bst) : List Str := srtN (b.haps.map (·.1))
def hapB (b : Bst) (n : Str) : Rat × Rat := (getH b.haps n).getD (0, 0)
theorem namesD_is (b : Bst) : namesD b = .lst ((nmsB b).map Dt.str) := rfl
theorem nmsB_mem {b : Bst} (h : UbB b) {n : Str} (hn : n ∈ nmsB b) : isNm (.str n) = true ∧ ∃ q, getH b.haps n = some q := by
  have hm : n ∈ b.haps.map (·.1) := srtN_mem.mp hn
  obtain ⟨e, he, rfl⟩ := List.mem_map.mp hm
  exact ⟨(h.hi e he).1, getH_mem hm⟩
theorem nmsB_len (b : Bst) : (nmsB b).length = b.haps.length := by
  unfold nmsB
  rw [srtN_len, List.length_map]
theorem nm_small {n : Str} (h : isNm (.str n) = true) : n.length ≤ 8 ∧ ∀ c ∈ tl n, c < 0x110000 := ⟨(isNm_chars h).2.2, fun c hc => by
  have := (isNm_chars h).1 c hc
  omega⟩
theorem hapB_bq {b : Bst} (h : UbB b) {n : Str} {q : Rat × Rat} (hq : getH b.haps n = some q) : hapB b n = q ∧ Bq 90 q.1 ∧ Bq 4 q.2 := by
  unfold hapB
  rw [hq]
  exact ⟨rfl, (h.hi _ (getH_in hq)).2.2.2⟩
section
variable {K : PySem.W.Frag} {S : Hp → Hp → Prop} {sl : List Sl} {tr : TA} {xs : List Dt} {te to : TE} {a b : Str} {r : V → List V → Hp → VK → Prop} {y z : Dt}
theorem eb_lst (h : EbA K S tr sl xs) (hn : xs.length ≤ 100000 := by exact Nat.le_of_ble_eq_true rfl) : Eb K S (tLst tr) sl (.lst xs) := fun G H σ k f s Q q =>
  h G H σ k f s _ fun vs G1 H1 n1 r1 => ⟨by rw [r1.length]; exact sz_ok hn, fun p hp => q _ _ _ (n1.trans (Nx.new n1.k hp)) (.lst (.inl (.inl upd_same)) (r1.mono (Ex.new (free_of n1.k hp))))⟩
end
end Z
namespace Z
open PySem PySem.Spec PyProof.Rows L2 RZ
open PySem.NumText TL
open Evl (Ex)
/-! ### a desk told a row, in a law -/
/-! ### lists taken apart; a choice that draws -/
/-- sizes of what a row tells -/
def RowB : Row → Prop
  | .put _ p => Bq 200 p.1 ∧ Bq 200 p.2
  | .turn q => Bq 200 q
  | .push q => Bq 200 q
  | _ => True
end Z
namespace Z
open PySem PySem.Spec PyProof.Rows L2 RZ
open PySem.NumText TL
open Evl (Ex)
/-! ### a list that grows where a world stands, and is handed back -/
section
variable {K : PySem.W.Frag} {q : Addr} {S S2 : Hp → Hp → Prop} {ds ds2 as : List Dt} {t u : TS} {sl : List Sl} {d : Dt} {i : Nat} {ta : TA} {N : List Sl → Prop} {te tl' : TE} {us : List Addr}
theorem bn_forD (W : Nat → Hp → Hp → Prop) (I : Nat → List Sl → Prop) (hS : Stb (W 0)) (h : Eb K (W 0) tl' sl (.lst as)) (hn : as.length ≤ 90000) (h0 : I 0 sl) (hs : ∀ (k : Nat) (a : Dt) s, as[k]? = some a → I k s → Bn K us (W k) (W (k + 1)) t (s.set i (.d a)) (I (k + 1))) :
    Bn K us (W 0) (W as.length) (tFor (iList K tl') (gName i) t) sl (I as.length) := fun G H σ k f s D qq =>
  h G H σ k f s _ fun v G1 H1 n1 r1 => by
    cases r1 with
    | lst hl rs =>
      rename_i a xs
      have hlen := rs.length
      refine ⟨a, rfl, ⟨_, Evl.ex_l n1.k hl⟩, for_list (K := K) (a := a) (xs := xs) (fun k σ' H' => ∃ G' s', I k s' ∧ NxP us G H G' H' ∧ Ex G1 G' ∧ W k G' H' ∧ FrD K G' σ' s') ⟨G1, sl, h0, n1.p, Ex.refl _, hS _ _ _ _ s n1, FrD.mono n1.g f⟩ (fun k σ' H' _ ⟨G', s', i', n', e', _⟩ => Evl.ex_l n'.k (Evl.ex_l e' hl)) ?_ ?_⟩
      · rintro k y σ2 H2 hi ⟨G2, s2, i2, n2, e2, w2, f2⟩
        have hi2 : k < xs.length := (List.getElem?_eq_some_iff.mp hi).1
        have hd : as[k]? = some as[k] := List.getElem?_eq_getElem (by omega)
        obtain ⟨v, hv, rv⟩ := rs.get hd
        rw [hi] at hv
        cases hv
        exact hs k _ s2 hd i2 G2 H2 _ n2.k (frd_set (.d (rv.mono e2)) _ f2) w2 _ fun σ3 s3 G3 H3 i3 n3 w3 f3 => ⟨G3, s3, i3, n2.trans n3, e2.trans n3.g, w3, f3⟩
      · rintro σ2 H2 ⟨G2, s2, i2, n2, e2, w2, f2⟩
        rw [hlen] at i2 w2
        exact qq σ2 s2 G2 H2 i2 n2 w2 f2
end
/-- the books with the place of their past told -/
structure SoRq (K : PySem.W.Frag) (y p : Addr) (G H : Hp) (b : Bst) : Prop where
  ex : ∃ a s pv, H y = some (.dK (stD a s p)) ∧ DicR K G a b.haps ∧ Rp K G s (fq b.speed) ∧ H p = some (.lst pv) ∧ pv.length = b.past.length ∧ G p = none
  gy : G y = none
section
variable {K : PySem.W.Frag} {y q p : Addr} {G H G2 H2 : Hp} {b : Bst} {S2 : Hp → Hp → Prop} {us : List Addr} {t : TS} {sl : List Sl} {d : Dt}
theorem SoRq.r (h : SoRq K y p G H b) : SoR K y G H b := by
  obtain ⟨a, s, pv, h1, h2⟩ := h.ex
  exact ⟨⟨a, s, p, pv, h1, h2⟩, h.gy⟩
theorem SoRq.here (h : SoRq K y p G H b) : H y ≠ none ∧ H p ≠ none := by
  obtain ⟨a, s, pv, h1, _, _, h4, _⟩ := h.ex
  exact ⟨(by rw [h1]; intro z; cases z), by rw [h4]; intro z; cases z⟩
theorem SoRq.nxL (h : SoRq K y p G H b) (n : NxL q [] G H G2 H2) (ne : y ≠ q) (np : p ≠ q) : SoRq K y p G2 H2 b := by
  obtain ⟨a, s, pv, h1, h2, h3, h4, h5, h6⟩ := h.ex
  exact ⟨⟨a, s, pv, n.h _ _ (by simp [ne]) h1, h2.mono n.g, h3.mono n.g, n.h _ _ (by simp [np]) h4, h5, n.f _ np h6 (by rw [h4]; intro z; cases z)⟩, n.f _ ne h.gy (by rw [h1]; intro z; cases z)⟩
theorem SoRq.nxP (h : SoRq K y p G H b) (n : NxP [q] G H G2 H2) (ne : y ≠ q) (np : p ≠ q) : SoRq K y p G2 H2 b := h.nxL ⟨n.g, n.k, fun a o ha e => n.h a o ha e, n.t, fun a _ h1 h2 => n.f a h1 h2⟩ ne np
theorem SoRq.nx (h : SoRq K y p G H b) (n : Nx G H G2 H2) : SoRq K y p G2 H2 b := by
  obtain ⟨a, s, pv, h1, h2, h3, h4, h5, h6⟩ := h.ex
  exact ⟨⟨a, s, pv, n.h _ _ h1, h2.mono n.g, h3.mono n.g, n.h _ _ h4, h5, n.f _ h6 (by rw [h4]; intro z; cases z)⟩, n.f _ h.gy (by rw [h1]; intro z; cases z)⟩
end
end Z
namespace Z
open PySem PySem.Spec PyProof.Rows L2 RZ
open PySem.NumText TL
open Evl (Ex)
/-! ### two desks made -/
/-! ### two desks and the books of both, in lists -/
structure D4 (K : PySem.W.Frag) (D C l m z1 z2 x1 p1 x2 p2 y1 q1 y2 q2 : Addr) (b1 b2 c1 c2 : Bst) (G H : Hp) : Prop where
  o1 : DkO D z1 x1 G
  o2 : DkO D z2 x2 G
  a1 : BnAt K C x1 p1 G H b1
  a2 : BnAt K C x2 p2 G H b2
  s1 : SoAt K y1 q1 G H c1
  s2 : SoAt K y2 q2 G H c2
  gl : G l = some (.lst [.ref z1, .ref z2])
  gm : G m = some (.lst [.ref y1, .ref y2])
section
variable {K : PySem.W.Frag} {D C l m z1 z2 x1 p1 x2 p2 y1 q1 y2 q2 pot : Addr} {b b1 b2 c c1 c2 : Bst} {G H G2 H2 : Hp} {us : List Addr} {T : Hp → Hp → Prop} {sl : List Sl} {E : XK} {rr : TS}
theorem D4.nxP (h : D4 K D C l m z1 z2 x1 p1 x2 p2 y1 q1 y2 q2 b1 b2 c1 c2 G H) (n : NxP us G H G2 H2) (hn : ∀ a ∈ us, a ∉ [y1, q1, y2, q2, x1, p1, x2, p2]) : D4 K D C l m z1 z2 x1 p1 x2 p2 y1 q1 y2 q2 b1 b2 c1 c2 G2 H2 := by
  have o : ∀ a, a ∈ [y1, q1, y2, q2, x1, p1, x2, p2] → a ∉ us := fun a ha hu => hn a hu ha
  exact ⟨h.o1.mono n.g, h.o2.mono n.g, h.a1.nxP n (o _ (by simp)) (o _ (by simp)), h.a2.nxP n (o _ (by simp)) (o _ (by simp)), h.s1.nxP n (o _ (by simp)) (o _ (by simp)), h.s2.nxP n (o _ (by simp)) (o _ (by simp)), n.g _ _ h.gl, n.g _ _ h.gm⟩
theorem D4.nx (h : D4 K D C l m z1 z2 x1 p1 x2 p2 y1 q1 y2 q2 b1 b2 c1 c2 G H) (n : Nx G H G2 H2) : D4 K D C l m z1 z2 x1 p1 x2 p2 y1 q1 y2 q2 b1 b2 c1 c2 G2 H2 := h.nxP (us := []) n.p (fun a ha => by cases ha)
theorem D4.here (h : D4 K D C l m z1 z2 x1 p1 x2 p2 y1 q1 y2 q2 b1 b2 c1 c2 G H) : ∀ a ∈ [y1, q1, y2, q2, x1, p1, x2, p2], H a ≠ none := fun a ha => by
  simp only [List.mem_cons, List.not_mem_nil, or_false] at ha
  rcases ha with rfl | rfl | rfl | rfl | rfl | rfl | rfl | rfl
  · exact h.s1.here.1
  · exact h.s1.here.2
  · exact h.s2.here.1
  · exact h.s2.here.2
  · exact h.a1.here.1
  · exact h.a1.here.2
  · exact h.a2.here.1
  · exact h.a2.here.2
end
end Z
namespace Z
open PySem PySem.Spec PyProof.Rows L2 RZ
open Evl (Ex)
/-! ### one desk, its books and a pot -/
structure Un5 (x p y q pot : Addr) : Prop where
  xy : x ≠ y
  xq : x ≠ q
  py : p ≠ y
  pq : p ≠ q
  ox : pot ≠ x
  op : pot ≠ p
  oy : pot ≠ y
  oq : pot ≠ q
structure D1 (K : PySem.W.Frag) (D C z x p y q pot : Addr) (b c : Bst) (G H : Hp) : Prop where
  d : DkAt K D C z x p G H b
  s : SoAt K y q G H c
  t : Pots [pot] G H
section
variable {K : PySem.W.Frag} {D C z x p y q pot l : Addr} {b b' c c' : Bst} {G H G2 H2 : Hp} {us : List Addr}
theorem BnAt.nxL (h : BnAt K C x p G H b) (n : NxL l [] G H G2 H2) (h1 : x ≠ l) (h2 : p ≠ l) : BnAt K C x p G2 H2 b := by
  obtain ⟨dx, a, s, pv, e1, e2, e3, e4, e5⟩ := h.ex
  exact ⟨⟨dx, a, s, pv, n.h _ _ (by simp [h1]) e1, e2.mono n.g, e3.mono n.g, n.h _ _ (by simp [h2]) e4, L2.Paired.mapP e5 fun _ _ r => PstR.mono n.g r⟩, n.f _ h1 h.gx (by rw [e1]; intro z; cases z), n.f _ h2 h.gp (by rw [e4]; intro z; cases z)⟩
theorem SoAt.nxL (h : SoAt K y q G H b) (n : NxL l [] G H G2 H2) (h1 : y ≠ l) (h2 : q ≠ l) : SoAt K y q G2 H2 b := by
  obtain ⟨a, s, pv, e1, e2, e3, e4, e5⟩ := h.ex
  exact ⟨⟨a, s, pv, n.h _ _ (by simp [h1]) e1, e2.mono n.g, e3.mono n.g, n.h _ _ (by simp [h2]) e4, L2.Paired.mapP e5 fun _ _ r => PstR.mono n.g r⟩, n.f _ h1 h.gy (by rw [e1]; intro z; cases z), n.f _ h2 h.gp (by rw [e4]; intro z; cases z)⟩
theorem pots_nxL (h : Pots [pot] G H) (n : NxL l [] G H G2 H2) (h1 : pot ≠ l) : Pots [pot] G2 H2 := fun a ha => by
  obtain ⟨g, m, e⟩ := h a ha
  rw [List.mem_singleton] at ha
  subst ha
  exact ⟨n.f _ h1 g (by rw [e]; intro z; cases z), m, n.h _ _ (by simp [h1]) e⟩
theorem D1.nx (h : D1 K D C z x p y q pot b c G H) (n : Nx G H G2 H2) : D1 K D C z x p y q pot b c G2 H2 := ⟨h.d.nx n, stb_so _ _ _ _ h.s n, h.t.nx n⟩
theorem D1.nxL (h : D1 K D C z x p y q pot b c G H) (hl : l ∉ [y, q, x, p, pot]) (n : NxL l [] G H G2 H2) : D1 K D C z x p y q pot b c G2 H2 := by
  simp only [List.mem_cons, List.not_mem_nil, or_false, not_or] at hl
  obtain ⟨h1, h2, h3, h4, h5⟩ := hl
  exact ⟨⟨h.d.o.mono n.g, h.d.b.nxL n (Ne.symm h3) (Ne.symm h4)⟩, h.s.nxL n (Ne.symm h1) (Ne.symm h2), pots_nxL h.t n (Ne.symm h5)⟩
theorem D1.A (u : Un5 x p y q pot) (h : D1 K D C z x p y q pot b c G H) (n : NxP [x, p] G H G2 H2) (h2 : BnAt K C x p G2 H2 b') : D1 K D C z x p y q pot b' c G2 H2 :=
  ⟨⟨h.d.o.mono n.g, h2⟩, h.s.nxP n (by simp [Ne.symm u.xy, Ne.symm u.py]) (by simp [Ne.symm u.xq, Ne.symm u.pq]), pots_keep h.t n (by simp [u.ox, u.op])⟩
theorem D1.S (u : Un5 x p y q pot) (h : D1 K D C z x p y q pot b c G H) (n : NxP [y, q] G H G2 H2) (h2 : SoAt K y q G2 H2 c') : D1 K D C z x p y q pot b c' G2 H2 :=
  ⟨h.d.nxP n (by simp [u.xy, u.xq]) (by simp [u.py, u.pq]), h2, pots_keep h.t n (by simp [u.oy, u.oq])⟩
theorem D1.P (u : Un5 x p y q pot) (h : D1 K D C z x p y q pot b c G H) (n : NxP [pot] G H G2 H2) (h2 : Pots [pot] G2 H2) : D1 K D C z x p y q pot b c G2 H2 :=
  ⟨h.d.nxP n (by simp [Ne.symm u.ox]) (by simp [Ne.symm u.op]), h.s.nxP n (by simp [Ne.symm u.oy]) (by simp [Ne.symm u.oq]), h2⟩
theorem D1.here (h : D1 K D C z x p y q pot b c G H) : ∀ a ∈ [y, q, x, p, pot], H a ≠ none := fun a ha => by
  simp only [List.mem_cons, List.not_mem_nil, or_false] at ha
  rcases ha with rfl | rfl | rfl | rfl | rfl
  · exact h.s.here.1
  · exact h.s.here.2
  · exact h.d.b.here.1
  · exact h.d.b.here.2
  · obtain ⟨_, m, e⟩ := h.t a (by simp)
    rw [e]
    intro z
    cases z
end
/-! ### statements where a world stands -/
section
variable {K : PySem.W.Frag} {us ps : List Addr} {S S1 S2 : Hp → Hp → Prop} {sl : List Sl} {t rr rest : TS} {te tb te1 te2 tb1 tb2 : TE} {ta : TA} {N : List Sl → Prop} {i j : Nat} {x y x2 y2 : Dt} {r r2 : R2}
/-- for k in range(a drawn number), where a world goes on -/
theorem bn_forEp {W : Nat → Hp → Hp → Prop} {M : Nat} (h : EpA K ta sl ps fun xs => ∃ n : Nat, xs = [.int (n : Int)] ∧ n ≤ M) (hM : M ≤ 100000) (hS : ∀ G H, S G H → Pots ps G H) (hp : ∀ G H G2 H2, S G H → NxP ps G H G2 H2 → Pots ps G2 H2 → W 0 G2 H2) (hu : ∀ a ∈ ps, a ∈ us)
    (hs : ∀ k : Nat, k < M → Bn K us (W k) (W (k + 1)) t (sl.set j (.d (.int k))) fun s => Paired Wk s sl) (hE : ∀ k ≤ M, ∀ G H, W k G H → S2 G H) : Bn K us S S2 (tFor (iRng1 ta) (gName j) t) sl fun s => s = sl := fun G H σ k f s D q => h G H σ k f (hS _ _ s) _ fun vs xs G1 H1 hR n1 m1 r1 => by
  obtain ⟨n, rfl, hn⟩ := hR
  obtain ⟨v, rfl, r2⟩ := rps1 r1
  cases r2
  have n1' : NxP us G H G1 H1 := ⟨n1.g, n1.k, fun c o hc e => n1.h c o (fun z => hc (hu c z)) e, n1.t, n1.f⟩
  refine ⟨(n : Nat), rfl, by omega, by omega, for_range (lo := 0) (n := (n : Int).toNat) (fun i σ' H' => ∃ G', NxP us G H G' H' ∧ W i G' H' ∧ FrD K G' σ' sl) ⟨G1, n1', hp _ _ _ _ s n1 m1, FrD.mono n1.g f⟩ ?_ ?_⟩
  · rintro i σ2 H2 hi ⟨G2, n2, s2, f2⟩
    have e : (0 : Int) + (i : Int) = (i : Int) := Int.zero_add _
    rw [e]
    exact hs i (by omega) G2 H2 _ n2.k (frd_set (.d (.int i)) j f2) s2 _ fun σ3 sl3 G3 H3 w3 n3 s3 f3 => ⟨G3, n2.trans n3, s3, frd_wk f3 w3⟩
  · rintro σ2 H2 ⟨G2, n2, s2, f2⟩
    exact q σ2 sl G2 H2 rfl n2 (hE _ (by omega) _ _ s2) f2
/-- a test of two comparisons, neither of which holds -/
theorem bn_or2N (h1 : Ed K us S S1 te1 sl x) (e1 : Ev K tb1 sl y) (hr : R2D K r x y (.bl false)) (hS1 : Stb S1) (h2 : Ed K us S1 S2 te2 sl x2) (e2 : Ev K tb2 sl y2) (hr2 : R2D K r2 x2 y2 (.bl false)) (hS2 : Stb S2) (g : N sl) : Bn K us S S2 (tIfS (tOr (tTest (tOp r te1 tb1)) (tTest (tOp r2 te2 tb2))) rr tNext) sl N := fun G H σ k f s D q =>
  h1 G H σ k f s _ fun v G1 H1 n1 s1 r1 => e1 G1 H1 σ n1.k (FrD.mono n1.g f) _ fun v2 G2 H2 n2 rr2 => hr G2 H2 n2.k v v2 (r1.mono n2.g) rr2 _ fun v3 G3 H3 n3 r3 => by
    cases r3
    have n23 := n2.trans n3
    have g13 := n1.g.trans n23.g
    refine ⟨false, rfl, ?_⟩
    refine h2 G3 H3 σ n3.k (FrD.mono g13 f) (hS1 _ _ _ _ s1 n23) _ fun v4 G4 H4 n4 s4 r4 => e2 G4 H4 σ n4.k (FrD.mono (g13.trans n4.g) f) _ fun v5 G5 H5 n5 r5 => hr2 G5 H5 n5.k v4 v5 (r4.mono n5.g) r5 _ fun v6 G6 H6 n6 r6 => ?_
    cases r6
    have n56 := n5.trans n6
    exact ⟨false, rfl, q σ sl G6 H6 g (((n1.trans n23.p).trans n4).trans n56.p) (hS2 _ _ _ _ s4 n56) (FrD.mono ((g13.trans n4.g).trans n56.g) f)⟩
/-- books made in a turn -/
theorem bn_mkS {F : Addr → Addr → Hp → Hp → Prop} (hF : Fr K te F) (hS : Stb S) (hS0 : ∀ G H, S G H → ∀ a ∈ us, H a ≠ none) (h : ∀ x p, x ∉ us → p ∉ us → x ≠ p → Bn K (x :: p :: us) (fun G H => S G H ∧ F x p G H) S2 rest (sl.set j (.raw (.ref x))) N) : Bn K us S S2 (tSeq (tAsg te (gName j)) rest) sl N := fun G H σ k f s D q =>
  hF G H σ k _ fun x p G2 H2 hx hp ne n so => by
    have nx : x ∉ us := fun z => hS0 G H s x z hx
    have np : p ∉ us := fun z => hS0 G H s p z hp
    refine h x p nx np ne G2 H2 _ n.k (frd_set (.raw _) j (FrD.mono n.g f)) ⟨hS _ _ _ _ s n.nx, so⟩ D fun σ3 s3 G3 H3 i3 n3 w3 f3 => ?_
    refine q σ3 s3 G3 H3 i3 ⟨n.g.trans n3.g, n3.k, fun a o ha e => ?_, fun a h2 => n3.t a (n.t a h2), fun a h1 h2 => n3.f a (n.f a h1 h2) (n.t a h2)⟩ w3 f3
    have h1 : a ≠ x := fun z => by rw [z, hx] at e; cases e
    have h2 : a ≠ p := fun z => by rw [z, hp] at e; cases e
    exact n3.h a o (by simp [h1, h2, ha]) (n.h a o (by simp) e)
end
end Z
namespace Z
open PySem PySem.Spec PyProof.Rows L2 RZ
open PySem.NumText TL
open Evl (Ex)
theorem bn_ofIpW {K : PySem.W.Frag} {us ps : List Addr} {S : Hp → Hp → Prop} {t : TS} {sl : List Sl} {N : List Sl → Prop} (hSP : ∀ G H, S G H → Pots ps G H) (hp : ∀ G H G2 H2, S G H → NxP ps G H G2 H2 → Pots ps G2 H2 → S G2 H2) (hu : ∀ a ∈ ps, a ∈ us) (h : Ip K t sl ps N) : Bn K us S S t sl N := fun G H σ k f s D q =>
  h G H σ k f (hSP _ _ s) D fun σ2 sl2 G2 H2 w n2 m2 f2 => q σ2 sl2 G2 H2 w ⟨n2.g, n2.k, fun c o hc e => n2.h c o (fun z => hc (hu c z)) e, n2.t, n2.f⟩ (hp _ _ _ _ s n2 m2) f2
/-! ### what a desk is to answer -/
/-! ### a turn by minus three fifths -/
end Z
namespace Z
open PySem PySem.Spec PyProof.Rows L2 RZ
open PySem.NumText TL
open Evl (Ex)
/-! ### what has not too many figures can be read -/
/-- sizes of a bench whose answers are read again -/
structure UbN (b : Bst) : Prop where
  u : UbB b
  n : Bq 1428 b.speed
theorem PI.un {k : Nat} {b : Bst} (h : PI k b) (g : PlB b) (hk : k ≤ 20) : UbN b := ⟨h.ub g (by omega), h.now.q.mono (by omega)⟩
/-! ### calls of what a desk says -/
/-! ### a desk held against a bench -/
/-! ### told of haps with more figures -/
/-! ### a hap far away, with forty figures -/
def farH : Rat × Rat := (⟨10 ^ 39 + 1, 10 ^ 39, by decide +kernel, by decide +kernel⟩, ⟨1 - 10 ^ 39, 10 ^ 39 + 7, by decide +kernel, by decide +kernel⟩)
/-- a bench that has but that hap and stands -/
structure FarB (b : Bst) : Prop where
  h : b.haps = [(("c" : Str), farH)]
  s : b.speed = 0
theorem FarB.get {b : Bst} (h : FarB b) : getH b.haps "c" = some farH := by
  rw [h.h]
  decide +kernel
theorem FarB.pl {b : Bst} (h : FarB b) : Pl b.speed 1 := by
  rw [h.s]
  exact pl_zero
theorem FarB.bq {b : Bst} (h : FarB b) : Bq 1800 b.speed := by
  rw [h.s]
  exact bq_zero.mono (by decide)
end Z
namespace Z
open PySem PySem.Spec PyProof.Rows L2 RZ
open PySem.NumText TL
open Evl (Ex)
/-! ### a desk, a bench, a list of rows, a pot -/
structure Un6 (x p y q l pot : Addr) : Prop where
  xy : x ≠ y
  xq : x ≠ q
  py : p ≠ y
  pq : p ≠ q
  lx : l ≠ x
  lp : l ≠ p
  ly : l ≠ y
  lq : l ≠ q
  ol : pot ≠ l
  ox : pot ≠ x
  op : pot ≠ p
  oy : pot ≠ y
  oq : pot ≠ q
structure D2 (K : PySem.W.Frag) (D C z x p y q l pot : Addr) (b c : Bst) (ds : List Dt) (G H : Hp) : Prop where
  d : DkAt K D C z x p G H b
  s : BnAt K C y q G H c
  l : Ls K l ds G H
  t : Pots [pot] G H
section
variable {K : PySem.W.Frag} {D C z x p y q l pot : Addr} {b b' c c' : Bst} {ds ds' : List Dt} {G H G2 H2 : Hp} {us : List Addr}
theorem D2.nx (h : D2 K D C z x p y q l pot b c ds G H) (n : Nx G H G2 H2) : D2 K D C z x p y q l pot b c ds G2 H2 := ⟨h.d.nx n, h.s.nx n, h.l.nx n, h.t.nx n⟩
theorem D2.nxP (h : D2 K D C z x p y q l pot b c ds G H) (n : NxP us G H G2 H2) (hu : ∀ a ∈ us, a ∉ [l, y, q, x, p, pot]) : D2 K D C z x p y q l pot b c ds G2 H2 := by
  have o : ∀ a, a ∈ [l, y, q, x, p, pot] → a ∉ us := fun a ha hz => hu a hz ha
  exact ⟨h.d.nxP n (o _ (by simp)) (o _ (by simp)), h.s.nxP n (o _ (by simp)) (o _ (by simp)), h.l.np n (o _ (by simp)), pots_keep h.t n (o _ (by simp))⟩
theorem D2.A (u : Un6 x p y q l pot) (h : D2 K D C z x p y q l pot b c ds G H) (n : NxP [x, p] G H G2 H2) (h2 : BnAt K C x p G2 H2 b') : D2 K D C z x p y q l pot b' c ds G2 H2 :=
  ⟨⟨h.d.o.mono n.g, h2⟩, h.s.nxP n (by simp [Ne.symm u.xy, Ne.symm u.py]) (by simp [Ne.symm u.xq, Ne.symm u.pq]), h.l.np n (by simp [u.lx, u.lp]), pots_keep h.t n (by simp [u.ox, u.op])⟩
theorem D2.L (u : Un6 x p y q l pot) (h : D2 K D C z x p y q l pot b c ds G H) (n : NxP [l] G H G2 H2) (h2 : Ls K l ds' G2 H2) : D2 K D C z x p y q l pot b c ds' G2 H2 :=
  ⟨h.d.nxP n (by simp [Ne.symm u.lx]) (by simp [Ne.symm u.lp]), h.s.nxP n (by simp [Ne.symm u.ly]) (by simp [Ne.symm u.lq]), h2, pots_keep h.t n (by simp [u.ol])⟩
theorem D2.P (u : Un6 x p y q l pot) (h : D2 K D C z x p y q l pot b c ds G H) (n : NxP [pot] G H G2 H2) (h2 : Pots [pot] G2 H2) : D2 K D C z x p y q l pot b c ds G2 H2 :=
  ⟨h.d.nxP n (by simp [Ne.symm u.ox]) (by simp [Ne.symm u.op]), h.s.nxP n (by simp [Ne.symm u.oy]) (by simp [Ne.symm u.oq]), h.l.np n (by simp [Ne.symm u.ol]), h2⟩
theorem D2.here (h : D2 K D C z x p y q l pot b c ds G H) : ∀ a ∈ [l, y, q, x, p, pot], H a ≠ none := fun a ha => by
  simp only [List.mem_cons, List.not_mem_nil, or_false] at ha
  rcases ha with rfl | rfl | rfl | rfl | rfl | rfl
  · obtain ⟨_, vs, e, _⟩ := h.l
    rw [e]
    intro z
    cases z
  · exact h.s.here.1
  · exact h.s.here.2
  · exact h.d.b.here.1
  · exact h.d.b.here.2
  · obtain ⟨_, m, e⟩ := h.t a (by simp)
    rw [e]
    intro z
    cases z
end
/-! ### statements -/
section
variable {K : PySem.W.Frag} {us : List Addr} {S S1 S2 : Hp → Hp → Prop} {sl : List Sl} {t u rest : TS} {te tb te2 : TE} {ta : TA} {tc : TT} {N : List Sl → Prop} {i j : Nat} {x y d : Dt} {r : R2} {v : Bool} {l : Addr} {ds : List Dt} {D C : Addr} {E : XK}
theorem bn_ifb (hS : Stb S) (h : EbT K S tc sl v) (ht : v = true → Bn K us S S2 t sl N) (hf : v = false → Bn K us S S2 u sl N) : Bn K us S S2 (tIfS tc t u) sl N := fun G H σ k f s Ds q =>
  h G H σ k f s _ fun G1 H1 n1 => by
    have fin : ∀ {w : TS}, Bn K us S S2 w sl N → w Ds σ H1 := fun hw => hw G1 H1 σ n1.k (FrD.mono n1.g f) (hS _ _ _ _ s n1) Ds fun σ2 sl2 G2 H2 m2 n2 => q σ2 sl2 G2 H2 m2 (n1.p.trans n2)
    cases v with
    | true => exact fin (ht rfl)
    | false => exact fin (hf rfl)
theorem bn_next (g : N sl) : Bn K us S S tNext sl N := fun G H σ k f s Ds q => q σ sl G H g (NxP.refl k) s f
/-- values: both, with a world that changes -/
theorem ed_and {x2 : Bool} (h1 : Ed K us S S1 te sl (.bl true)) (h2 : Ed K us S1 S2 te2 sl (.bl x2)) : Ed K us S S2 (tAndV te te2) sl (.bl x2) := fun G H σ k f s Q q =>
  h1 G H σ k f s _ fun v G1 H1 n1 s1 r1 => by
    cases r1
    exact ⟨true, rfl, h2 G1 H1 σ n1.k (FrD.mono n1.g f) s1 _ fun w G2 H2 n2 s2 r2 => q w G2 H2 (n1.trans n2) s2 r2⟩
theorem ed_op (h1 : Ed K us S S1 te sl x) (hS1 : Stb S1) (h2 : Ev K tb sl y) (hr : R2D K r x y d) : Ed K us S S1 (tOp r te tb) sl d := fun G H σ k f s Q q =>
  h1 G H σ k f s _ fun v G1 H1 n1 s1 r1 => h2 G1 H1 σ n1.k (FrD.mono n1.g f) _ fun w G2 H2 n2 r2 => hr G2 H2 n2.k v w (r1.mono n2.g) r2 _ fun u G3 H3 n3 r3 => by
    have n23 := n2.trans n3
    exact q u G3 H3 (n1.trans n23.p) (hS1 _ _ _ _ s1 n23) r3
theorem br_w2 {S3 : Hp → Hp → Prop} (h : Br K us S S2 t sl d) (w : ∀ G H, S2 G H → S3 G H) : Br K us S S3 t sl d := fun G H σ k f s Ds q => h G H σ k f s Ds fun v G2 H2 n2 s2 r2 => q v G2 H2 n2 (w _ _ s2) r2
theorem br_retE (h : Ed K us S S2 te sl d) : Br K us S S2 (tRet te) sl d := fun G H σ k f s Ds q => h G H σ k f s _ fun v G2 H2 n2 s2 r2 => q v G2 H2 n2 s2 r2
end
/-! ### rows of deeds, one behind another -/
structure StOk (a : Bst) (e : Row × Deed) (b : Bst) : Prop where
  r : e.1.de = some e.2
  k : DeedOk e.2
  n : e.1.ok
  s : RowB e.1
  u : e.2 ≠ .undo
  f : refw a e.2 = none
  a : Aft a e.2 b
theorem StOk.past {a b : Bst} {e : Row × Deed} (h : StOk a e b) : b.past = a.past ++ [(a.haps, a.speed)] := by
  obtain ⟨r, de⟩ := e
  have ha := h.a
  have hu := h.u
  cases de with
  | put x y => obtain ⟨_, _, _, _, rfl⟩ := ha; rfl
  | drop x => obtain ⟨_, _, _, rfl⟩ := ha; rfl
  | turn x => obtain ⟨_, _, _, _, _, rfl⟩ := ha; rfl
  | push x => obtain ⟨_, _, _, _, _, rfl⟩ := ha; rfl
  | undo => exact absurd rfl hu
theorem StOk.done {a b : Bst} {e : Row × Deed} (h : StOk a e b) : DoneR a e.2 .non b := .inr ⟨h.f, rfl, h.a⟩
end Z
namespace Z
open PySem PySem.Spec PyProof.Rows L2
theorem tupZ_ok {K : PySem.W.Frag} {a : Addr} {vs : List V} (h : tupZ K a vs = true) (H : Hp) : SqX K H a vs := by
  unfold tupZ at h
  cases q : K.lookup a with
  | none =>
    rw [q] at h
    cases h
  | some o =>
    obtain ⟨oc, od, dt, osl⟩ := o
    rw [q] at h
    cases oc with
    | type c =>
      cases od with
      | none =>
        cases dt with
        | seq its n =>
          obtain ⟨h1, h2⟩ := He.ba (show (decide (c = "tuple") && (decide (its.size ≤ sizeLine) && He.relAll vs its.toList)) = true from h)
          obtain ⟨h3, h4⟩ := He.ba h2
          exact .inr ⟨_, its, n, q, congrArg Value.type (of_decide_eq_true h1), rfl, rfl, of_decide_eq_true h3, He.relAll_ok h4⟩
        | _ => cases h
      | some a => cases dt <;> cases h
    | _ => cases od <;> cases dt <;> cases h
end Z
namespace Z
open PySem PySem.Spec PyProof.Rows L2 RZ
/-! ### a def that is called where no repr is under way -/
structure FnG (P : Program) (w : World) (K : PySem.W.Frag) (mg : Str → Option Value) (base : Heap) (CX : CXT) (k : Nat) (f : Addr) (fd : FuncData) (ps : List Str) (sp : L2.Sp) : Prop where
  len : ∀ vs H Q E, sp vs H Q E → vs.length = ps.length
  run : ∀ (A : Around) (outer : List Env) (s : Shared) (H : Hp) (args : Args) (us : List Value) (vs : List V) (Q : VK) (E : XK), A.guards = some [] → Room k A → Env0 P w K mg base A outer s H → BindsTo s fd args (ps.zip us) → Vals vs us → sp vs H Q E →
    codeAny (model P w) A (.call (.ref f) args) (CR CX outer P w H s Q E) s
section
variable {P : Program} {w : World} {K : PySem.W.Frag} {mg : Str → Option Value} {base : Heap} {k : Nat} {x : Str} {st : Stmt} {N ps : List Str}
theorem fn_pureG {R : List Dt → Dt → Prop} {t : TS} {f : Addr} {fd : FuncData} (F : Fun K x x st f fd) (S : FnScope N ps (defScope st)) (hl : ∀ ds d, R ds d → ds.length = ps.length)
    (h1 : ∀ (f : Addr) (cdv : Value) (A : Around) (outer : List Env) (s : Shared) (H : Hp) (E : XK), A.guards = some [] → Room k (A.deeper (envOfC x (defScope st) s.heap.objs.size f cdv)) → PSs (cxOf CX0 P w K mg base N x (defScope st) f cdv A outer s H E).nox (defBody st) t)
    (h2 : ∀ ds d, R ds d → Rt K t (ds.map Sl.d ++ List.replicate (N.length - ps.length) .no) d) : FnG P w K mg base CX0 (k + 1) f fd ps (spP K R) := by
  have ln : ∀ vs H Q E, spP K R vs H Q E → vs.length = ps.length := fun vs H Q E h => by
    obtain ⟨ds, d, G, _, r, hR, _⟩ := h
    rw [r.length]
    exact hl ds d hR
  obtain ⟨oc, od, kV, doc, pm, an, cdv, ct, osl, rfl, lk, hcd⟩ := F.ex
  refine ⟨ln, fun A outer s H args us vs Q E hg hr e0 hb r hsp => ?_⟩
  have hlen := ln _ _ _ _ hsp
  have KX : K.In s.heap := e0.mod.kin.keeps fun b o e => (e0.bs b o e).1
  have lim : s.heap.NoLimit := e0.mod.nolimit.keeps fun b o e => (e0.bs b o e).1
  have knd : ∀ y ∈ ps.zip us, (defScope st).names.lookup y.1 = some .local ∨ ((defScope st).names.lookup y.1 = some .cell ∧ ((cellsFrom (s.heap.objs.size + 1) (defScope st).names []).lookup y.1).isSome = true) := fun y hy =>
    (S.par y.1 (List.of_mem_zip (a := y.1) (b := y.2) hy).1).imp id fun q => ⟨q, PySem.W.cellsFrom_some _ _ _ (.inl q)⟩
  refine codeAny_call_function hr.depth (KX _ _ lk) rfl S.co S.gen rfl (PySem.W.codeRec_of KX hcd) (hb _ _ _ _ (wpAny_newFunctionEnv_cells S.kind knd fun env he s1 z => ?_))
  subst he
  refine ⟨lim.keeps z.toInCall.keep, codeAny_func ?_⟩
  have ht := (h1 f cdv A outer s H E hg (hr.deeper _)).nox
  have hq : t { nx := fun _ H' => Q .non H', rt := Q } (L2.start N vs) H := by
    obtain ⟨ds, d, G, kG, rr, hR, q⟩ := hsp
    exact h2 ds d hR G H _ kG (start_ok rr (hl ds d hR)) _ q
  have I : Inv (cxOf CX0 P w K mg base N x (defScope st) f cdv A outer s H E) [] (L2.start N vs) H s1 := inv_start S hr.hd e0 hlen r z
  refine wpAny_mono (ht.run [] s1 (L2.start N vs) H _ I hq) (fun fl s' hs => ?_) fun e s' hs => hs
  cases fl with
  | ret u =>
    obtain ⟨v, σ', H', J, rv, q⟩ := hs
    exact ⟨v, H', J.os, J.bare, J.base, J.hok, rv, q⟩
  | next =>
    obtain ⟨σ', H', J, q⟩ := hs
    exact ⟨.non, H', J.os, J.bare, J.base, J.hok, rfl, q⟩
  | brk =>
    obtain ⟨_, _, _, q⟩ := hs
    exact q.elim
  | cont =>
    obtain ⟨_, _, _, q⟩ := hs
    exact q.elim
end
/-! ### the law itself -/
theorem law_callG {P : Program} {w : World} {K : PySem.W.Frag} {mg mb : Str → Option Value} {k : Nat} {fa a : Addr} {fd : FuncData} {x : Str} {sp : L2.Sp} {s1 : Shared} {vs : List Value} {ns : List Int}
    (KX : K.In s1.heap) (hns : s1.heap.Ns mainGlobals mg) (hb : s1.heap.Ns builtinsNs mb) (hbb : ∀ x : Str, x ≠ "__name__" → mb x = bootBuiltins x) (hlim : s1.heap.NoLimit) (hgen : s1.gens = #[])
    (ha : s1.heap.get? a = some { cls := .type "list", data := .seq vs.toArray }) (hi : IntsAre vs ns) (hl : ns.length ≤ sizeLine) (hr : Room k callerA) (hg : callerA.guards = some [])
    (F : ∀ base : Heap, K.In base → base.Ns mainGlobals mg → FnG P w K mg base CX0 k fa fd [x] sp) (hbind : ∀ (s : Shared) (u : Value), BindsTo s fd ⟨[u], []⟩ [(x, u)])
    (hsp : ∀ H : Hp, Only H → SqL K H a (ns.map V.int) → sp [.ref a] H (fun v _ => v = .bl true) fun _ _ _ => False) :
    codeAny (model P w) callerA (.call (.ref fa) ⟨[.ref a], []⟩) (fun r s' => r = .ok (.ret (.bool true)) ∧ OldK s1.heap s'.heap ∧ s'.os = s1.os ∧ AllBare s'.gens) s1 := by
  have rv := vals_ints hi
  have lenV := hi.length
  have main : ∀ H : Hp, Only H → SqL K H a (ns.map V.int) → HOk P w H s1.heap → (∀ b, H b ≠ none → b = a) → (H a ≠ none → K.lookup a = none) →
      codeAny (model P w) callerA (.call (.ref fa) ⟨[.ref a], []⟩) (fun r s' => r = .ok (.ret (.bool true)) ∧ OldK s1.heap s'.heap ∧ s'.os = s1.os ∧ AllBare s'.gens) s1 := by
    intro H hO hS hok hA hK
    have below : ∀ {b : Addr} {o : Obj}, s1.heap.get? b = some o → H b = none → (hidT s1.heap H).get? b = some o := fun e n => hidT_get e n
    have isA : ∀ {b : Addr} {u : HO}, H b = some u → b = a := fun {b u} q => hA b (by rw [q]; intro z; cases z)
    have noA : ∀ {b : Addr} {o : Obj} {es : Array DictEntry} {ep : Nat}, s1.heap.get? b = some o → o.data = .dict es ep → H b = none := fun {b o es ep} e d => by
      cases q : H b with
      | none => rfl
      | some u =>
        rw [isA q, ha] at e
        rw [← Option.some.inj e] at d
        cases d
    have nsB : ∀ {b : Addr} {m : Str → Option Value}, s1.heap.Ns b m → (hidT s1.heap H).Ns b m := fun {b m} ⟨o, es, ep, e, d, r⟩ => ⟨o, es, ep, below e (noA e d), d, r⟩
    have kB : K.In (hidT s1.heap H) := fun b o e => below (KX b o e) (by
      cases q : H b with
      | none => rfl
      | some u =>
        have eb := isA q
        rw [eb, hK (by rw [← eb, q]; intro z; cases z)] at e
        cases e)
    have hM : Mod K mg (hidT s1.heap H) := ⟨kB, nsB hns, ⟨mb, nsB hb, hbb⟩, let ⟨mc, h1, h2⟩ := hlim; ⟨mc, nsB h1, h2⟩⟩
    have e0 : Env0 P w K mg (hidT s1.heap H) callerA [] s1 H := ⟨rfl, hM, fun b o e => of_hidT e, Nat.le_of_eq (hidT_size _ _), trivial, fun b hb => (by cases hb), hok, .of_eq hgen⟩
    refine codeAny_mono ((F _ kB (nsB hns)).run callerA [] s1 H ⟨[.ref a], []⟩ [.ref a] [.ref a] _ _ hg hr e0 (hbind s1 (.ref a)) (.cons rfl .nil) (hsp H hO hS)) fun r s' h => ?_
    cases r with
    | error e => exact h.elim
    | ok fl =>
      cases fl with
      | ret u =>
        obtain ⟨v, H', os, bare, un, hok', r', q⟩ := h
        obtain rfl : v = .bl true := q
        obtain rfl : u = Value.bool true := r'
        refine ⟨rfl, OldK.of_keep fun b o e => ?_, os, bare⟩
        cases q : H b with
        | none => exact un.keep b o e q (by intro z; cases z) (by simp)
        | some u =>
          rcases hO b with z | ⟨ob, xs, z⟩
          · rw [q] at z
            cases z
          · obtain ⟨e1, _⟩ := hok b _ z
            obtain ⟨e2, _⟩ := hok' b _ (un.frzs b ob _ z)
            rw [e] at e1
            rw [Option.some.inj e1]
            exact e2
      | _ => exact (show False from h).elim
  cases hk : K.lookup a with
  | some o =>
    have e := KX a o hk
    rw [ha] at e
    obtain rfl := Option.some.inj e
    exact main (fun _ => none) (fun _ => .inl rfl) (.inr ⟨_, vs.toArray, _, hk, rfl, rfl, rfl, by rw [List.size_toArray, lenV]; exact hl, by simpa using rv⟩) (fun b u z => (by cases z)) (fun b z => absurd rfl z) fun z => absurd rfl z
  | none =>
    have at_ : ∀ {b : Addr} {u : HO}, (fun b => if b = a then some (HO.frz { cls := .type "list", data := .seq vs.toArray } (.lst (ns.map V.int))) else none) b = some u → b = a ∧ u = .frz { cls := .type "list", data := .seq vs.toArray } (.lst (ns.map V.int)) := fun {b u} z => by
      by_cases hb : b = a
      · exact ⟨hb, (Option.some.inj ((if_pos hb).symm.trans z)).symm⟩
      · cases (if_neg hb).symm.trans z
    refine main (fun b => if b = a then some (.frz { cls := .type "list", data := .seq vs.toArray } (.lst (ns.map V.int))) else none) (fun b => ?_) (.inl (.inr ⟨_, if_pos rfl⟩)) (fun b u z => ?_) (fun b z => ?_) fun _ => hk
    · by_cases hb : b = a
      · exact .inr ⟨_, _, if_pos hb⟩
      · exact .inl (if_neg hb)
    · obtain ⟨rfl, rfl⟩ := at_ z
      exact ⟨ha, by rw [List.length_map]; exact hl, vs, _, rv, ha⟩
    · by_cases hb : b = a
      · exact hb
      · exact absurd (if_neg hb) z
theorem walk_G {l : PySem.W.OpenLaw} {n k : Nat} {q : Program} {loose : List Str} {XP : (Str → Option Value) → Heap → Prop} {YP : World → Heap → Prop} {d : DefRec} {x : Str}
    (hn : l.most = some n) (hn2 : n ≤ sizeLine) (hdf : d.params.defaults = []) (hr : Room k callerA) (hg : callerA.guards = some [])
    (F : ∀ (w : World) (mg : Str → Option Value) (fa : Addr) (h : Heap), YP w h → h.Ns mainGlobals mg → mg d.name = some (.ref fa) →
      ∃ (K : PySem.W.Frag) (fd : FuncData) (sp : L2.Sp), K.In h ∧ (∀ (s : Shared) (u : Value), BindsTo s fd ⟨[u], []⟩ [(x, u)]) ∧
        (∀ (H : Hp) (a : Addr) (ns : List Int), ns.length ≤ n → Only H → SqL K H a (ns.map V.int) → sp [.ref a] H (fun v _ => v = .bl true) fun _ _ _ => False) ∧ ∀ base : Heap, K.In base → base.Ns mainGlobals mg → FnG l.prog w K mg base CX0 k fa fd [x] sp) :
    PySem.W.WalkO q loose XP YP l.row.toRowW d [] (fun f vs => PySem.call f vs) := Att.attach_call hn hdf fun w s0 s1 mg mb fa o pm cd doc a vs ns G Y ho hd hcd hmg hobj hints hlen hgn => by
  obtain ⟨K, fd, sp, KX, hb, hsp, hF⟩ := F w mg fa _ Y G.T.g hmg
  exact law_callG KX G.T.g G.T.b G.T.builtins G.T.nolimit hgn hobj hints (Nat.le_trans hlen hn2) hr hg hF hb fun H hO hS => hsp H a ns hlen hO hS
/-! ### repr of data -/
def rRepr (K : PySem.W.Frag) : List V → Hp → VK → Prop := fun xs H Q => ∃ (a : Addr) (p : PyData), xs = [.ref a] ∧ Dp K H (.ref a) p ∧ p.showable = true ∧ p.hasDict = false ∧ p.depth ≤ 20 ∧ p.shown.length ≤ sizeLine ∧ Q (.str p.shown) H
theorem call_reprG {X : Cx} {K : PySem.W.Frag} (eK : X.K = K) (hg : X.A.guards = some []) (hu : X.A.units + 64 < cLine) : CallR X (.builtin "repr") (rRepr K) := by
  subst eK
  intro pins s σ H xs us Q I r h
  obtain ⟨a, p, rfl, dp, hs, hd, hp, hz, q⟩ := h
  obtain ⟨u, rfl, ru⟩ := vals1 r
  obtain ⟨as, rd⟩ := dp.reads I p _ u ru
  cases ru
  exact repr_of_reads' rd hs (PyData.noDict_hsm hd) hg (by omega) (fun b o e => e) (fun h' u tk k => ⟨.str p.shown, H, I.kept (t' := tk) k, ⟨u, rfl⟩, q⟩) hz
theorem rc_repr {K : PySem.W.Frag} {d : Dt} {p : PyData} (hd : py d = some p) (h0 : (∃ ds, d = .lst ds) ∨ ∃ ds, d = .tup ds) (hs : p.showable = true) (hn : p.hasDict = false) (hp : p.depth ≤ 20) (hz : p.shown.length ≤ sizeLine) : RcD K (rRepr K) [d] (.str p.shown) := fun G H k vs r Q q => by
  obtain ⟨v, rfl, rv⟩ := rps1 r
  obtain ⟨a, rfl⟩ : ∃ a, v = .ref a := by
    rcases h0 with ⟨ds, rfl⟩ | ⟨ds, rfl⟩ <;> cases rv <;> exact ⟨_, rfl⟩
  exact ⟨a, p, rfl, (rv.mono k).dp hd, hs, hn, hp, hz, q _ G H (.refl k) (.str _)⟩
end Z
namespace Z
open PySem PySem.Spec PyProof.Rows L2 RZ
open Evl (Ex)
/-! ### a def that asks a bench -/
def spBnS (K : PySem.W.Frag) (C : Addr) (R : Bst → List Dt → Dt → Prop) : L2.Sp := fun vs H Q _ => ∃ y ws ds b G d, vs = .ref y :: ws ∧ Ex G H ∧ Rps K G ws ds ∧ BnR K C y G H b ∧ R b ds d ∧ ∀ v G2 H2, Nx G H G2 H2 → Rp K G2 v d → Q v H2
section
variable {P : Program} {w : World} {K : PySem.W.Frag} {mg : Str → Option Value} {base : Heap} {x : Str} {st : Stmt} {N ps : List Str} {k : Nat} {C : Addr} {t : TS}
theorem Dd.askN {R : Bst → List Dt → Dt → Prop} (D : Dd K mg x st ps) (S : FnScope N ps (defScope st)) (hl : ∀ b ds d, R b ds d → ds.length + 1 = ps.length)
    (h1 : ∀ (f : Addr) (cdv : Value) (A : Around) (outer : List Env) (s : Shared) (H : Hp) (E : XK), Room k (A.deeper (envOfC x (defScope st) s.heap.objs.size f cdv)) → PSs (cxOf CX0 P w K mg base N x (defScope st) f cdv A outer s H E).nox (defBody st) t)
    (h2 : ∀ y b ds d, R b ds d → Br K [] (fun G H => BnR K C y G H b) (fun G H => BnR K C y G H b) t (Sl.raw (.ref y) :: (ds.map Sl.d ++ List.replicate (N.length - ps.length) .no)) d) : Has P w K mg base CX0 (k + 1) x ps (spBnS K C R) := by
  refine D.any S (fun vs H Q E h => ?_) h1 fun vs H Q E h => ?_
  · obtain ⟨y, ws, ds, b, G, d, rfl, _, r, _, hR, _⟩ := h
    show ws.length + 1 = _
    rw [r.length]
    exact hl b ds d hR
  · obtain ⟨y, ws, ds, b, G, d, rfl, kk, r, hB, hR, qq⟩ := h
    exact h2 y b ds d hR G H _ kk (start_bn r (hl b ds d hR)) hB _ fun v G2 H2 n2 b2 r2 => qq v G2 H2 n2.nx r2
end
section
variable {K : PySem.W.Frag} {S : Hp → Hp → Prop} {sl : List Sl} {te : TE} {tr : TA} {xs : List Dt} {d : Dt} {C y : Addr} {b : Bst} {E : XK}
theorem eb_askN {R : Bst → List Dt → Dt → Prop} (hS : Stb S) (he : Er K S te sl (.ref y)) (hB : ∀ G H, S G H → BnR K C y G H b) (h : EbA K S tr sl xs) (hr : R b xs d) : Eb K S (tCall (spBnS K C R) [] E (tCons te tr)) sl d := fun G H σ k f s Q qq => by
  refine he G H σ k f s _ ?_
  exact h G H σ k f s _ fun vs G1 H1 n1 r1 => ⟨y, vs ++ [], xs, b, G1, d, rfl, n1.k, rps_nil r1, hB G1 H1 (hS _ _ _ _ s n1), hr, fun v G2 H2 n2 r2 => qq v G2 H2 (n1.trans n2) r2⟩
end
end Z
namespace Z
open PySem PySem.Spec PyProof.Rows L2 RZ
open Evl (Ex)
/-! ### what is seen of a bench, as data -/
theorem dep_all {n : Nat} : ∀ {ps : List PyData}, (∀ p ∈ ps, p.depth ≤ n) → PyData.depthAll ps ≤ n
  | [], _ => Nat.zero_le _
  | p :: ps, h => by
    have h1 := h p List.mem_cons_self
    have h2 := dep_all fun q m => h q (List.mem_cons_of_mem _ m)
    rw [PyData.depthAll]
    omega
theorem dep_lst {n : Nat} {ps : List PyData} (h : ∀ p ∈ ps, p.depth ≤ n) : (PyData.list ps).depth ≤ n + 1 := by
  have := dep_all h
  rw [PyData.depth]
  omega
theorem sh_lay {p : PyData} (h : SeqAt.shaped p = true) : p.canLay0 = true := by
  unfold SeqAt.shaped at h
  rw [Bool.and_eq_true] at h
  exact h.1
def namesP (b : Bst) : PyData := .list ((nmsB b).map PyData.str)
def ordP (b : Bst) : PyData := .list ((rsg (stQ (tsB b) b.speed)).map fun q => PyData.list ((atQ (tsB b) b.speed q).map fun k => PyData.str ((nmsB b).getD k ⟨#[]⟩)))
def seenP (b : Bst) : PyData := .list [namesP b, .tuple [.int b.speed.num, .int (b.speed.den : Nat)], ordP b, .list ((toB b).map hapP)]
theorem py_seenP (b : Bst) : py (seenD b) = some (seenP b) := by
  have h1 : py (namesD b) = some (namesP b) := by unfold namesD; rw [py, pys_strs]; rfl
  have h2 : py (ordB b) = some (ordP b) := by unfold ordB; rw [py, pys_rowsB]; rfl
  have h3 : py (hapsD (toB b)) = some (.list ((toB b).map hapP)) := by unfold hapsD; rw [py, pys_haps]
  have h4 : py (fq b.speed) = some (.tuple [.int b.speed.num, .int (b.speed.den : Nat)]) := rfl
  unfold seenD
  rw [py, pys, pys, pys, pys, pys, h1, h2, h3, h4]
  rfl
theorem sh_seen {b : Bst} (h : UbB b) : SeqAt.shaped (seenP b) = true := by
  obtain ⟨pn, n1, n2⟩ := py_names h
  obtain ⟨po, o1, o2⟩ := py_ord h
  obtain ⟨ph, e1, e2⟩ := py_hapsD (toB b)
  have h1 : py (namesD b) = some (namesP b) := by unfold namesD; rw [py, pys_strs]; rfl
  have h2 : py (ordB b) = some (ordP b) := by unfold ordB; rw [py, pys_rowsB]; rfl
  have h3 : py (hapsD (toB b)) = some (.list ((toB b).map hapP)) := by unfold hapsD; rw [py, pys_haps]
  rw [h1] at n1
  rw [h2] at o1
  rw [h3] at e1
  cases n1
  cases o1
  cases e1
  have d1 : (namesP b).depth ≤ 1 := dep_lst fun p hp => by
    obtain ⟨s, _, rfl⟩ := List.mem_map.mp hp
    simp [PyData.depth]
  have d2 : (ordP b).depth ≤ 2 := dep_lst fun p hp => by
    obtain ⟨s, _, rfl⟩ := List.mem_map.mp hp
    refine dep_lst fun p hp => ?_
    obtain ⟨s, _, rfl⟩ := List.mem_map.mp hp
    simp [PyData.depth]
  have d3 : (PyData.list ((toB b).map hapP)).depth ≤ 3 := dep_lst fun p hp => by
    obtain ⟨s, _, rfl⟩ := List.mem_map.mp hp
    simp [hapP, PyData.depth, PyData.depthAll]
  refine sh_lst fun p hp => ?_
  simp only [List.mem_cons, List.not_mem_nil, or_false] at hp
  rcases hp with rfl | rfl | rfl | rfl
  · exact ⟨sh_lay n2, by omega⟩
  · exact ⟨rfl, by simp [PyData.depth, PyData.depthAll]⟩
  · exact ⟨sh_lay o2, by omega⟩
  · exact ⟨sh_lay e2, by omega⟩
/-! ### a bench that is pushed, turned, and comes back -/
def spTr (K : PySem.W.Frag) (C : Addr) : L2.Sp := fun vs H Q _ => ∃ x y p q wd v wv b G, vs = [.ref x, .ref y, wd] ∧ Ex G H ∧ BnAt K C x p G H b ∧ SoAt K y q G H b ∧ (x ≠ y ∧ x ≠ q ∧ p ≠ y ∧ p ≠ q) ∧ Rp K G wd (fq v) ∧ Pl v wv ∧ Bq 67 v ∧ UbB b ∧ Bq 1700 b.speed ∧ b.past.length ≤ 80000 ∧ ∀ G2 H2, NxP [x, p] G H G2 H2 → BnAt K C x p G2 H2 b → Q (.bl true) H2
theorem Dd.trB {P : Program} {w : World} {K : PySem.W.Frag} {mg : Str → Option Value} {base : Heap} {x : Str} {st : Stmt} {N ps : List Str} {k : Nat} {C : Addr} {t : TS} (D : Dd K mg x st ps) (S : FnScope N ps (defScope st)) (hl : 3 = ps.length)
    (h1 : ∀ (f : Addr) (cdv : Value) (A : Around) (outer : List Env) (s : Shared) (H : Hp) (E : XK), Room k (A.deeper (envOfC x (defScope st) s.heap.objs.size f cdv)) → PSs (cxOf CX0 P w K mg base N x (defScope st) f cdv A outer s H E).nox (defBody st) t)
    (h2 : ∀ x y p q v wv b, (x ≠ y ∧ x ≠ q ∧ p ≠ y ∧ p ≠ q) → Pl v wv → Bq 67 v → UbB b → Bq 1700 b.speed → b.past.length ≤ 80000 → Br K [x, p] (fun G H => BnAt K C x p G H b ∧ SoAt K y q G H b) (fun G H => BnAt K C x p G H b ∧ SoAt K y q G H b) t (Sl.raw (.ref x) :: Sl.raw (.ref y) :: .d (fq v) :: List.replicate (N.length - ps.length) .no) (.bl true)) : Has P w K mg base CX0 (k + 1) x ps (spTr K C) := by
  refine D.any S (fun vs H Q E h => ?_) h1 fun vs H Q E h => ?_
  · obtain ⟨x, y, p, q, wd, v, wv, b, G, rfl, _⟩ := h
    exact hl
  · obtain ⟨x, y, p, q, wd, v, wv, b, G, rfl, kk, hB, hS, un, r, hv, bv, hU, bs, hp, qq⟩ := h
    refine h2 x y p q v wv b un hv bv hU bs hp G H _ kk ?_ ⟨hB, hS⟩ _ fun v G2 H2 n2 m2 r2 => by
      cases r2
      exact qq G2 H2 n2 m2.1
    unfold L2.start
    show FrD K G (([V.ref x, .ref y, wd].map some) ++ List.replicate (N.length - 3) none) _
    rw [hl]
    exact .cons (.raw _) (.cons (.raw _) (.cons (.d r) (frd_start (vs := []) (ds := []) _ .nil)))
end Z
namespace Z
open PySem PySem.Spec PyProof.Rows L2 RZ
open Evl (Ex)
section
variable {K : PySem.W.Frag} {us : List Addr} {S S2 : Hp → Hp → Prop} {sl : List Sl} {te : TE} {ds : List Dt} {d x : Dt} {F : Addr → Addr → Hp → Hp → Prop} {rest : TS} {j : Nat} {tr : TA} {xs : List Dt} {E : XK}
/-- something made anew beside what stands -/
theorem br_frM (h1 : Fr K te F) (hS : Stb S) (h : ∀ x p, (∀ a, (∀ G H, S G H → H a ≠ none) → a ≠ x ∧ a ≠ p) → x ≠ p → Br K (x :: p :: us) (fun G H => S G H ∧ F x p G H) S2 rest (sl.set j (.raw (.ref x))) d) : Br K us S S2 (tSeq (tAsg te (gName j)) rest) sl d := fun G H σ k f s D q => by
  refine h1 G H σ k _ fun x p G2 H2 hx hp ne n so => ?_
  refine h x p (fun a ha => ⟨fun z => ha G H s (z ▸ hx), fun z => ha G H s (z ▸ hp)⟩) ne G2 H2 _ n.k (frd_set (.raw _) j (FrD.mono n.g f)) ⟨hS _ _ _ _ s n.nx, so⟩ D fun v G3 H3 n3 s3 r3 => ?_
  refine q v G3 H3 ⟨n.g.trans n3.g, n3.k, fun a o ha e => ?_, fun a h2 => n3.t a (n.t a h2), fun a h1 h2 => n3.f a (n.f a h1 h2) (n.t a h2)⟩ s3 r3
  have h1 : a ≠ x := fun z => by rw [z, hx] at e; cases e
  have h2 : a ≠ p := fun z => by rw [z, hp] at e; cases e
  exact n3.h a o (by simp [h1, h2, ha]) (n.h a o (by simp) e)
theorem eb_revL (h : Eb K S te sl (.lst ds)) : Eb K S (tRevL K te) sl (.lst ds.reverse) := fun G H σ k f s Q q =>
  h G H σ k f s _ fun v G1 H1 n1 r1 => by
    cases r1 with
    | lst hs rs => exact ⟨_, _, rfl, Evl.ex_l n1.k hs, fun p hp => q _ _ _ (n1.trans (.new n1.k hp)) (.lst (.inl (.inl upd_same)) (rps_rev (rs.mono (Ex.new (free_of n1.k hp)))))⟩
theorem eb_callT {W : Wt} {R B : List Dt → Dt → Prop} {X : List Dt → Value → Prop} (h : EbA K S tr sl xs) (hr : R xs x) : Eb K S (tCall (spT K W R B X) [] E tr) sl x := fun G H σ k f s Q q =>
  h G H σ k f s _ fun vs G1 H1 n1 r1 => ⟨xs, G1, n1.k, rps_nil r1, .inl ⟨x, hr, fun v G2 H2 n2 r2 _ => q v G2 H2 (n1.trans n2) r2⟩⟩
end
theorem br_slw {K : PySem.W.Frag} {us : List Addr} {S S2 : Hp → Hp → Prop} {t : TS} {sl sl0 : List Sl} {d : Dt} (w : Paired Wk sl sl0) (h : Br K us S S2 t sl0 d) : Br K us S S2 t sl d := fun G H σ k f => h G H σ k (frd_wk f w)
theorem nodup_of {α β : Type} (f : α → β) {l : List α} (h : (l.map f).Nodup) : l.Nodup := List.Pairwise.of_map f (fun a b h e => h (congrArg f e)) h
/-! ### names in order -/
theorem srtN_pair (l : List Str) : (srtN l).Pairwise fun a b => leS a b = true := List.pairwise_mergeSort (le := leS) (fun a b c h g => leS_tr h g) (fun a b => by rcases leS_tot a b with h | h <;> rw [h]; rfl; exact Bool.or_true _) l
theorem srtN_perm {l m : List Str} (p : l.Perm m) : srtN l = srtN m := srtS_one ((List.mergeSort_perm l leS).trans (p.trans (List.mergeSort_perm m leS).symm)) (srtN_pair l) (srtN_pair m)
theorem srtN_nodup {l : List Str} (h : l.Nodup) : (srtN l).Nodup := (List.mergeSort_perm l leS).nodup_iff.mpr h
/-! ### a bench filled in another order -/
def fill (b : Bst) (l : List Str) : Hps := l.map fun n => (n, hapB b n)
theorem fill_names (b : Bst) (l : List Str) : (fill b l).map (·.1) = l := by
  unfold fill
  rw [List.map_map]
  exact List.map_id' l
theorem fill_get {b : Bst} : ∀ {l : List Str} {n : Str}, n ∈ l → getH (fill b l) n = some (hapB b n)
  | m :: l, n, h => by
    unfold getH fill
    rw [List.map_cons, List.find?_cons]
    by_cases e : m = n
    · subst e
      rw [show decide (((m, hapB b m) : Str × (Rat × Rat)).1 = m) = true from decide_eq_true rfl]
      rfl
    · rw [show decide (((m, hapB b m) : Str × (Rat × Rat)).1 = n) = false from decide_eq_false e]
      rcases List.mem_cons.mp h with z | z
      · exact absurd z.symm e
      · exact fill_get z
theorem fill_put {b : Bst} {l : List Str} {n : Str} (h : n ∉ l) : putH (fill b l) n (hapB b n) = fill b (l ++ [n]) := by
  unfold putH
  have h0 : (fill b l).any (fun e => decide (e.1 = n)) = false := by
    rw [List.any_eq_false]
    intro e he
    obtain ⟨m, hm, rfl⟩ := List.mem_map.mp he
    intro z
    exact h (of_decide_eq_true z ▸ hm)
  rw [if_neg (by rw [h0]; decide)]
  unfold fill
  rw [List.map_append]
  rfl
def oth (b : Bst) (k : Nat) : Bst := ⟨fill b ((nmsB b).reverse.take k), 0, (List.range k).map fun i => (fill b ((nmsB b).reverse.take i), 0)⟩
theorem oth_succ {b : Bst} (nd : (b.haps.map (·.1)).Nodup) {k : Nat} {n : Str} (h : (nmsB b).reverse[k]? = some n) : oth b (k + 1) = ⟨putH (oth b k).haps n (hapB b n), (oth b k).speed, (oth b k).past ++ [((oth b k).haps, (oth b k).speed)]⟩ := by
  have nr : (nmsB b).reverse.Nodup := (List.reverse_perm _).nodup_iff.mpr (srtN_nodup nd)
  have et : (nmsB b).reverse.take (k + 1) = (nmsB b).reverse.take k ++ [n] := by
    rw [List.take_add_one, h]
    rfl
  have hn : n ∉ (nmsB b).reverse.take k := fun z => by
    have := nr.sublist (List.take_sublist (k + 1) _)
    rw [et] at this
    exact (List.nodup_append.mp this).2.2 n z n (by simp) rfl
  unfold oth
  rw [show ((fill b ((nmsB b).reverse.take k))) = fill b ((nmsB b).reverse.take k) from rfl, fill_put hn, et, List.range_succ, List.map_append]
  rfl
theorem oth_len (b : Bst) (k : Nat) : (oth b k).haps.length ≤ k ∧ (oth b k).past.length = k := by
  unfold oth fill
  constructor
  · show (List.map _ _).length ≤ k
    rw [List.length_map, List.length_take]
    omega
  · show (List.map _ _).length = k
    rw [List.length_map, List.length_range]
/-- filled, and turned to the bench's speed -/
def refil (b : Bst) : Bst := ⟨(oth b (nmsB b).length).haps, b.speed, (oth b (nmsB b).length).past ++ [((oth b (nmsB b).length).haps, 0)]⟩
theorem refil_haps (b : Bst) : (refil b).haps = fill b (nmsB b).reverse := by
  show fill b ((nmsB b).reverse.take (nmsB b).length) = _
  rw [List.take_of_length_le (by rw [List.length_reverse]; exact Nat.le_refl _)]
theorem refil_ub {b : Bst} (h : UbB b) : UbB (refil b) := ⟨fun e he => by
  rw [refil_haps] at he
  obtain ⟨n, hn, rfl⟩ := List.mem_map.mp he
  obtain ⟨nm, q, hq⟩ := nmsB_mem h (List.mem_reverse.mp hn)
  have hi := h.hi _ (getH_in hq)
  rw [(hapB_bq h hq).1]
  exact hi, by rw [refil_haps, fill, List.length_map, List.length_reverse, nmsB_len]; exact h.le, h.sp, h.pl, h.q⟩
theorem refil_seen {b : Bst} (h : UbB b) : seenD (refil b) = seenD b := by
  have e : srtN ((refil b).haps.map (·.1)) = srtN (b.haps.map (·.1)) := by
    rw [refil_haps, fill_names]
    exact srtN_perm ((List.reverse_perm _).trans (List.mergeSort_perm _ _))
  refine seenD_eq e (fun n hn => ?_) rfl
  rw [e] at hn
  have hn2 : n ∈ (nmsB b).reverse := List.mem_reverse.mpr hn
  rw [refil_haps, fill_get hn2]
  exact (getHD (srtN_mem.mp hn)).symm
/-! ### stands as data -/
theorem py_standP (ts : List (Rat × Rat)) (v : Rat) : ∃ p, py (standD ts v) = some p ∧ SeqAt.shaped p = true := by
  have h1 : ∀ l : List Nat, pys (numsD l) = some (l.map fun k : Nat => PyData.int (k : Int)) := fun l => by
    induction l with
    | nil => rfl
    | cons a l ih =>
      show pys (Dt.int (a : Nat) :: numsD l) = _
      rw [pys, ih]
      rfl
  have h2 : ∀ l : List Rat, pys (l.map fun q => Dt.lst (numsD (atQ ts v q))) = some (l.map fun q => PyData.list ((atQ ts v q).map fun k : Nat => PyData.int (k : Int))) := fun l => by
    induction l with
    | nil => rfl
    | cons a l ih =>
      rw [List.map_cons, pys, ih, py, h1]
      rfl
  refine ⟨_, by unfold standD; rw [py, h2], sh_rows (fun q => atQ ts v q) _⟩
/-! ### a def that holds a bench against its books, names all unlike -/
def spRs (K : PySem.W.Frag) (C : Addr) : L2.Sp := fun vs H Q _ => ∃ x y p b G, vs = [.ref x, .ref y] ∧ Ex G H ∧ BnR K C x G H b ∧ SoAt K y p G H b ∧ UbB b ∧ (b.haps.map (·.1)).Nodup ∧ ∀ G2 H2, Nx G H G2 H2 → Q (.bl true) H2
theorem Dd.rsB {P : Program} {w : World} {K : PySem.W.Frag} {mg : Str → Option Value} {base : Heap} {x : Str} {st : Stmt} {N ps : List Str} {k : Nat} {C : Addr} {t : TS} (D : Dd K mg x st ps) (S : FnScope N ps (defScope st)) (hl : 2 = ps.length)
    (h1 : ∀ (f : Addr) (cdv : Value) (A : Around) (outer : List Env) (s : Shared) (H : Hp) (E : XK), Room k (A.deeper (envOfC x (defScope st) s.heap.objs.size f cdv)) → PSs (cxOf CX0 P w K mg base N x (defScope st) f cdv A outer s H E).nox (defBody st) t)
    (h2 : ∀ x y p b, UbB b → (b.haps.map (·.1)).Nodup → Br K [] (fun G H => BnR K C x G H b ∧ SoAt K y p G H b) (fun _ _ => True) t (Sl.raw (.ref x) :: Sl.raw (.ref y) :: List.replicate (N.length - ps.length) .no) (.bl true)) : Has P w K mg base CX0 (k + 1) x ps (spRs K C) := by
  refine D.any S (fun vs H Q E h => ?_) h1 fun vs H Q E h => ?_
  · obtain ⟨x, y, p, b, G, rfl, _⟩ := h
    exact hl
  · obtain ⟨x, y, p, b, G, rfl, kk, hB, hS, hU, nd, qq⟩ := h
    refine h2 x y p b hU nd G H _ kk ?_ ⟨hB, hS⟩ _ fun v G2 H2 n2 m2 r2 => by
      cases r2
      exact qq G2 H2 n2.nx
    unfold L2.start
    show FrD K G (([V.ref x, .ref y].map some) ++ List.replicate (N.length - 2) none) _
    rw [hl]
    exact .cons (.raw _) (.cons (.raw _) (frd_start (vs := []) (ds := []) _ .nil))
end Z
namespace Z
open PySem PySem.Spec PyProof.Rows L2 RZ
open Evl (Ex)
/-! ### a bench, its books, two lists that grow, a pot -/
structure W5 (K : PySem.W.Frag) (C l m y q x p pot : Addr) (b c : Bst) (ds es : List Dt) (G H : Hp) : Prop where
  a : BnAt K C x p G H b
  s : SoAt K y q G H c
  l : Ls K l ds G H
  m : Ls K m es G H
  t : Pots [pot] G H
section
variable {K : PySem.W.Frag} {C l m y q x p pot : Addr} {b c b' c' : Bst} {ds es ds' : List Dt} {G H G2 H2 : Hp} {us : List Addr}
theorem Ls.keep (h : Ls K l ds G H) (n : NxP us G H G2 H2) (hl : l ∉ us) : Ls K l ds G2 H2 := by
  obtain ⟨g, vs, e, r⟩ := h
  exact ⟨n.f _ g (by rw [e]; intro z; cases z), vs, n.h _ _ hl e, r.mono n.g⟩
theorem Ls.here (h : Ls K l ds G H) : H l ≠ none := by
  obtain ⟨g, vs, e, r⟩ := h
  rw [e]
  intro z
  cases z
theorem W5.nx (h : W5 K C l m y q x p pot b c ds es G H) (n : Nx G H G2 H2) : W5 K C l m y q x p pot b c ds es G2 H2 := ⟨h.a.nx n, h.s.nx n, h.l.nx n, h.m.nx n, h.t.nx n⟩
theorem stb_w5 : Stb fun G H => W5 K C l m y q x p pot b c ds es G H := fun _ _ _ _ h n => h.nx n
theorem W5.here (h : W5 K C l m y q x p pot b c ds es G H) : ∀ a ∈ [l, m, y, q, x, p, pot], H a ≠ none := fun a ha => by
  simp only [List.mem_cons, List.not_mem_nil, or_false] at ha
  rcases ha with rfl | rfl | rfl | rfl | rfl | rfl | rfl
  · exact h.l.here
  · exact h.m.here
  · exact h.s.here.1
  · exact h.s.here.2
  · exact h.a.here.1
  · exact h.a.here.2
  · obtain ⟨_, n, e⟩ := h.t _ (List.mem_singleton.mpr rfl)
    rw [e]
    intro z
    cases z
theorem W5.A (u : [l, m, y, q, x, p, pot].Nodup) (h : W5 K C l m y q x p pot b c ds es G H) (n : NxP [x, p] G H G2 H2) (h2 : BnAt K C x p G2 H2 b') : W5 K C l m y q x p pot b' c ds es G2 H2 := by
  simp only [List.nodup_cons, List.mem_cons, not_or, List.not_mem_nil, or_false] at u
  obtain ⟨⟨_, _, _, a1, a2, _⟩, ⟨_, _, b1, b2, _⟩, ⟨_, c1, c2, _⟩, ⟨d1, d2, _⟩, ⟨_, e1⟩, f1, _⟩ := u
  exact ⟨h2, h.s.nxP n (by simp [c1, c2]) (by simp [d1, d2]), h.l.keep n (by simp [a1, a2]), h.m.keep n (by simp [b1, b2]), pots_keep h.t n (by simp [Ne.symm e1, Ne.symm f1])⟩
theorem W5.S (u : [l, m, y, q, x, p, pot].Nodup) (h : W5 K C l m y q x p pot b c ds es G H) (n : NxP [y, q] G H G2 H2) (h2 : SoAt K y q G2 H2 c') : W5 K C l m y q x p pot b c' ds es G2 H2 := by
  simp only [List.nodup_cons, List.mem_cons, not_or, List.not_mem_nil, or_false] at u
  obtain ⟨⟨_, a1, a2, _⟩, ⟨b1, b2, _⟩, ⟨_, c1, c2, c3⟩, ⟨d1, d2, d3⟩, _⟩ := u
  exact ⟨h.a.nxP n (by simp [Ne.symm c1, Ne.symm d1]) (by simp [Ne.symm c2, Ne.symm d2]), h2, h.l.keep n (by simp [a1, a2]), h.m.keep n (by simp [b1, b2]), pots_keep h.t n (by simp [Ne.symm c3, Ne.symm d3])⟩
theorem W5.P (u : [l, m, y, q, x, p, pot].Nodup) (h : W5 K C l m y q x p pot b c ds es G H) (n : NxP [pot] G H G2 H2) (h2 : Pots [pot] G2 H2) : W5 K C l m y q x p pot b c ds es G2 H2 := by
  simp only [List.nodup_cons, List.mem_cons, not_or, List.not_mem_nil, or_false] at u
  obtain ⟨⟨_, _, _, _, _, a1⟩, ⟨_, _, _, _, b1⟩, ⟨_, _, _, c1⟩, ⟨_, _, d1⟩, ⟨_, e1⟩, f1, _⟩ := u
  exact ⟨h.a.nxP n (by simp [e1]) (by simp [f1]), h.s.nxP n (by simp [c1]) (by simp [d1]), h.l.keep n (by simp [a1]), h.m.keep n (by simp [b1]), h2⟩
theorem W5.L (u : [l, m, y, q, x, p, pot].Nodup) (h : W5 K C l m y q x p pot b c ds es G H) (n : NxP [l] G H G2 H2) (h2 : Ls K l ds' G2 H2) : W5 K C l m y q x p pot b c ds' es G2 H2 := by
  simp only [List.nodup_cons, List.mem_cons, not_or, List.not_mem_nil, or_false] at u
  obtain ⟨⟨a0, a1, a2, a3, a4, a5⟩, _⟩ := u
  exact ⟨h.a.nxP n (by simp [Ne.symm a3]) (by simp [Ne.symm a4]), h.s.nxP n (by simp [Ne.symm a1]) (by simp [Ne.symm a2]), h2, h.m.keep n (by simp [Ne.symm a0]), pots_keep h.t n (by simp [Ne.symm a5])⟩
theorem W5.M (u : [l, m, y, q, x, p, pot].Nodup) (h : W5 K C l m y q x p pot b c ds es G H) (n : NxP [m] G H G2 H2) (h2 : Ls K m ds' G2 H2) : W5 K C l m y q x p pot b c ds ds' G2 H2 := by
  simp only [List.nodup_cons, List.mem_cons, not_or, List.not_mem_nil, or_false] at u
  obtain ⟨⟨a0, _⟩, ⟨a1, a2, a3, a4, a5⟩, _⟩ := u
  exact ⟨h.a.nxP n (by simp [Ne.symm a3]) (by simp [Ne.symm a4]), h.s.nxP n (by simp [Ne.symm a1]) (by simp [Ne.symm a2]), h.l.keep n (by simp [a0]), h2, pots_keep h.t n (by simp [Ne.symm a5])⟩
end
section
variable {K : PySem.W.Frag} {us : List Addr} {S S2 : Hp → Hp → Prop} {sl : List Sl} {te t1 t2 : TE} {ds es : List Dt} {d d1 d2 x : Dt} {u : TS} {i j : Nat} {l m y q : Addr} {N : List Sl → Prop} {tc : TT} {w : Bool} {b : Bst}
/-- stood, words = ([..], [..]) -/
theorem bn_parL (hS : Stb S) (hS0 : ∀ G H, S G H → ∀ a ∈ us, H a ≠ none) (h1 : Eb K S t1 sl d1) (h2 : Eb K S t2 sl d2) (g : ∀ l m, l ∉ us → m ∉ us → l ≠ m → Bn K (l :: m :: us) (fun G H => S G H ∧ Ls K l [d1] G H ∧ Ls K m [d2] G H) S2 u ((sl.set i (.raw (.ref l))).set j (.raw (.ref m))) N) : Bn K us S S2 (tSeq (tPar i j (tCons (tLst (tCons t1 tNil)) (tCons (tLst (tCons t2 tNil)) tNil))) u) sl N := fun G H σ k f s D qq => by
  refine h1 G H σ k f s _ fun v1 G1 H1 n1 rv1 => ?_
  obtain ⟨vs, hvs⟩ : ∃ vs, vs = [v1] := ⟨_, rfl⟩
  have r1 : Rps K G1 vs [d1] := by rw [hvs]; exact .cons rv1 .nil
  refine ⟨sz_ok (by exact Nat.le_of_ble_eq_true rfl), fun l hl => ?_⟩
  rw [← hvs]
  have g1 : G1 l = none := free_of n1.k hl
  have nn : Nx G1 H1 G1 (upd H1 l (.lst vs)) := ⟨Ex.refl _, Ex.new hl, n1.k.trans (Ex.new hl), fun _ z _ => z⟩
  have s1 := hS _ _ _ _ (hS _ _ _ _ s n1) nn
  refine h2 G1 _ σ nn.k (FrD.mono n1.g f) s1 _ fun v2 G2 H2 n2 rv2 => ?_
  obtain ⟨ws, hws⟩ : ∃ ws, ws = [v2] := ⟨_, rfl⟩
  have r2 : Rps K G2 ws [d2] := by rw [hws]; exact .cons rv2 .nil
  refine ⟨sz_ok (by exact Nat.le_of_ble_eq_true rfl), fun m hm => ?_⟩
  rw [← hws]
  have g2 : G2 m = none := free_of n2.k hm
  have nm : Nx G2 H2 G2 (upd H2 m (.lst ws)) := ⟨Ex.refl _, Ex.new hm, n2.k.trans (Ex.new hm), fun _ z _ => z⟩
  have hl0 : H l = none := none_of n1.h hl
  have hm1 : upd H1 l (.lst vs) m = none := none_of n2.h hm
  have nlm : l ≠ m := fun z => by rw [z, upd_same] at hm1; cases hm1
  have hm0 : H m = none := by
    rw [upd_ne (Ne.symm nlm)] at hm1
    exact none_of n1.h hm1
  have L1 : Ls K l [d1] G1 (upd H1 l (.lst vs)) := ⟨g1, vs, upd_same, r1⟩
  refine ⟨.ref l, .ref m, rfl, ?_⟩
  refine g l m (fun z => hS0 G H s l z hl0) (fun z => hS0 G H s m z hm0) nlm G2 (upd H2 m (.lst ws)) _ nm.k (frd_set (.raw _) j (frd_set (.raw _) i (FrD.mono (n1.g.trans n2.g) f))) ⟨hS _ _ _ _ (hS _ _ _ _ s1 n2) nm, (L1.nx n2).nx nm, ⟨g2, ws, upd_same, r2⟩⟩ D fun σ3 s3 G3 H3 i3 n3 w3 f3 => ?_
  have up : ∀ {a : Addr} {o : HO}, H a = some o → upd H2 m (.lst ws) a = some o := fun {a o} e => by
    have na : a ≠ l := fun z => by rw [z, hl0] at e; cases e
    have nb : a ≠ m := fun z => by rw [z, hm0] at e; cases e
    rw [upd_ne nb]
    exact n2.h a o (by rw [upd_ne na]; exact n1.h a o e)
  have un : ∀ {a : Addr}, H a ≠ none → upd H2 m (.lst ws) a ≠ none := fun {a} h => by
    cases e : H a with
    | none => exact absurd e h
    | some o =>
      rw [up e]
      intro z
      cases z
  have ug : ∀ {a : Addr}, G a = none → H a ≠ none → G2 a = none := fun {a} h h' => n2.f a (n1.f a h h') (by
    have na : a ≠ l := fun z => h' (by rw [z]; exact hl0)
    rw [upd_ne na]
    exact ne_none n1.h h')
  refine qq σ3 s3 G3 H3 i3 ⟨(n1.g.trans n2.g).trans n3.g, n3.k, fun a o ha e => ?_, fun a h => n3.t a (un h), fun a h h' => n3.f a (ug h h') (un h')⟩ w3 f3
  have na : a ≠ l := fun z => by rw [z, hl0] at e; cases e
  have nb : a ≠ m := fun z => by rw [z, hm0] at e; cases e
  exact n3.h a o (by simp [na, nb, ha]) (up e)
theorem bn_appE (hi : sl[i]? = some (.raw (.ref l))) (hS : Stb S) (h : Eb K S te sl d) (hL : ∀ G H, S G H → Ls K l ds G H) (hn : ds.length < 90000) (hu : l ∈ us) (hS2 : ∀ G H G2 H2, S G H → NxP [l] G H G2 H2 → Ls K l (ds ++ [d]) G2 H2 → S2 G2 H2) (g : N sl) : Bn K us S S2 (tDrop (tBM K "list" rAppend (tVar i) (tCons te tNil))) sl N := fun G H σ k f s Ds qq => by
  obtain ⟨lg, vs, lh, lr⟩ := hL G H s
  refine ⟨.ref l, frd_raw f hi, .inl ⟨rfl, vs, .inl (.inl lh)⟩, ?_⟩
  refine h G H σ k f s _ fun w G1 H1 n1 rw1 => ?_
  obtain ⟨lg1, vs1, lh1, lr1⟩ := hL _ _ (hS _ _ _ _ s n1)
  have hl := lr1.length
  refine ⟨l, vs1, w, rfl, rfl, lh1, Nat.lt_of_lt_of_le (m := 100000) (by omega) (by decide), ?_⟩
  have ne : ∀ {b : Addr} {o : HO}, G1 b = some o → b ≠ l := fun e1 z => by
    rw [z, lg1] at e1
    cases e1
  have n2 : ∀ {us : List Addr}, l ∈ us → NxP us G1 H1 G1 (upd H1 l (.lst (vs1 ++ [w]))) := fun hu => ⟨Ex.refl _, fun b o e1 => by
    rw [upd_ne (ne e1)]
    exact n1.k b o e1, fun b o hb e1 => by
    rw [upd_ne (fun z => hb (by rw [z]; exact hu))]
    exact e1, fun b hb => by
    by_cases z : b = l
    · rw [z, upd_same]
      intro y
      cases y
    · rw [upd_ne z]
      exact hb, fun b h1 _ => h1⟩
  exact qq σ sl G1 _ g (n1.p.trans (n2 hu)) (hS2 _ _ _ _ (hS _ _ _ _ s n1) (n2 (by simp)) ⟨lg1, _, upd_same, lr1.snoc rw1⟩) (FrD.mono n1.g f)
/-- an own list looked at as it stands -/
theorem frd_view {G : Hp} {v : V} {s2 : Sl} (hs : SlOk K G (some v) s2) : ∀ {σ : L2.St} {sl : List Sl} {i : Nat}, FrD K G σ sl → sl[i]? = some (.raw v) → FrD K G σ (sl.set i s2)
  | _, _, _, .nil, e => by simp at e
  | _, _, 0, .cons r t, e => by
    rw [List.getElem?_cons_zero] at e
    cases Option.some.inj e
    cases r
    exact .cons hs t
  | _, _, i + 1, .cons r t, e => .cons r (frd_view hs t (by simpa using e))
def flat : Dt → Bool
  | .int _ => true
  | .str _ => true
  | .bl _ => true
  | _ => false
theorem flat_rp {G G2 : Hp} {v : V} {x : Dt} (h : flat x = true) (r : Rp K G v x) : Rp K G2 v x := by
  cases x with
  | int i => cases r; exact .int _
  | str s => cases r; exact .str _
  | bl b => cases r; exact .bl _
  | _ => cases h
theorem view_ok {G H : Hp} (k : Ex G H) (h : Ls K l ds G H) : ∃ vs, Ex (upd G l (.lst vs)) H ∧ Ex G (upd G l (.lst vs)) ∧ Rp K (upd G l (.lst vs)) (.ref l) (.lst ds) := by
  obtain ⟨g, vs, e, r⟩ := h
  refine ⟨vs, fun c o z => ?_, Ex.new g, .lst (.inl (.inl upd_same)) (r.mono (Ex.new g))⟩
  by_cases hc : c = l
  · subst hc
    rw [upd_same] at z
    rw [e]
    exact z
  · rw [upd_ne hc] at z
    exact k c o z
theorem eb_view (hi : sl[i]? = some (.raw (.ref l))) (hL : ∀ G H, S G H → Ls K l ds G H) (h : Ev K te (sl.set i (.d (.lst ds))) x) (hx : flat x = true) : Eb K S te sl x := fun G H σ k f s Q qq => by
  obtain ⟨vs, k1, g1, r1⟩ := view_ok k (hL _ _ s)
  exact h _ H σ k1 (frd_view (.d r1) (FrD.mono g1 f) hi) Q fun v G2 H2 n2 r2 => qq v G H2 ⟨Ex.refl _, n2.h, g1.trans (n2.g.trans n2.k), fun _ z _ => z⟩ (flat_rp hx r2)
theorem ebt_view2 (hij : i ≠ j) (hlm : l ≠ m) (hi : sl[i]? = some (.raw (.ref l))) (hj : sl[j]? = some (.raw (.ref m))) (hL : ∀ G H, S G H → Ls K l ds G H) (hM : ∀ G H, S G H → Ls K m es G H) (h : EvT K tc ((sl.set i (.d (.lst ds))).set j (.d (.lst es))) w) : EbT K S tc sl w := fun G H σ k f s Q qq => by
  obtain ⟨vs, k1, g1, r1⟩ := view_ok k (hL _ _ s)
  have M : Ls K m es (upd G l (.lst vs)) H := by
    obtain ⟨g, ws, e, r⟩ := hM _ _ s
    exact ⟨by rw [upd_ne (Ne.symm hlm)]; exact g, ws, e, r.mono g1⟩
  obtain ⟨ws, k2, g2, r2⟩ := view_ok k1 M
  exact h _ H σ k2 (frd_view (.d r2) (FrD.mono g2 (frd_view (.d r1) (FrD.mono g1 f) hi)) (by rw [List.getElem?_set_ne hij]; exact hj)) Q fun G2 H2 n2 => qq G H2 ⟨Ex.refl _, n2.h, (g1.trans g2).trans (n2.g.trans n2.k), fun _ z _ => z⟩
/-- stood[:-1] of an own list: a new list -/
theorem eb_cut {th : TE} (hi : sl[i]? = some (.raw (.ref l))) (hL : ∀ G H, S G H → Ls K l (ds ++ [d]) G H) (hb : Ev K th sl (.int (-1))) (hS : Stb S) : Eb K S (tSl (rSlL K) (tVar i) tNoPart (tPart th)) sl (.lst ds) := fun G H σ k f s Q qq => by
  refine ⟨.ref l, frd_raw f hi, ?_⟩
  refine hb G H σ k f _ fun w G1 H1 n1 r1 => ?_
  cases r1
  obtain ⟨g, vs, e, r⟩ := hL _ _ (hS _ _ _ _ s n1)
  have hlen := r.length
  rw [List.length_append] at hlen
  have hlen : vs.length = ds.length + 1 := hlen
  have e1 : HT.sIx vs.length vs.length (some (-1 : Int)) = vs.length - 1 := by
    show (if (-1 : Int) < 0 then ((-1 : Int) + (vs.length : Int)).toNat else min (-1 : Int).toNat vs.length) = _
    rw [if_pos (by decide)]
    omega
  have e2 : cutV vs none (some (-1 : Int)) = vs.take ds.length := by
    unfold cutV
    rw [e1, hlen]
    rfl
  refine ⟨-1, rfl, l, vs, rfl, .inl (.inl e), fun p hp => ?_⟩
  rw [e2]
  have rt : Rps K G1 (vs.take ds.length) ds := by
    have key : ∀ {vs : List V} {ds : List Dt} {d : Dt}, Rps K G1 vs (ds ++ [d]) → Rps K G1 (vs.take ds.length) ds := fun {vs ds d} => by
      intro h
      induction ds generalizing vs with
      | nil =>
        cases h with
        | cons a t => exact .nil
      | cons x ds ih =>
        cases h with
        | cons a t => exact .cons a (ih t)
    exact key r
  exact qq _ _ _ (n1.trans (.new n1.k hp)) (.lst (.inl (.inl upd_same)) (rt.mono (Ex.new (free_of n1.k hp))))
/-- len(state['past']) -/
theorem es_lenP (hB : ∀ G H, S G H → SoR K y G H b) (hi : sl[i]? = some (.raw (.ref y))) : Eb K S (tCB (rLenS K) (tCons (tDGet (tVar i) (tC (.str "past"))) tNil)) sl (.int (b.past.length : Nat)) := fun G H σ k f s Q qq => by
  obtain ⟨a, sp, p, pv, e1, e2, e3, e4, e5, _⟩ := (hB _ _ s).ex
  refine ⟨.ref y, frd_raw f hi, y, .ref p, rfl, st_past (a := a) (s := sp) ▸ DGet.k (k := .inr "past") e1, p, pv, rfl, .inl (.inl (.inl e4)), ?_⟩
  rw [e5]
  exact qq _ G H (.refl k) (.int _)
theorem eb_lenLs (hL : ∀ G H, S G H → Ls K l ds G H) (hi : sl[i]? = some (.raw (.ref l))) : Eb K S (tCB (rLenS K) (tCons (tVar i) tNil)) sl (.int (ds.length : Nat)) := fun G H σ k f s Q qq => by
  obtain ⟨g, vs, e, r⟩ := hL _ _ s
  refine ⟨.ref l, frd_raw f hi, l, vs, rfl, .inl (.inl (.inl e)), ?_⟩
  rw [r.length]
  exact qq _ G H (.refl k) (.int _)
/-- seen(Bench()) -/
theorem eb_askF {C : Addr} {E : XK} {R : Bst → List Dt → Dt → Prop} (hF : Fr K te fun x p G H => BnAt K C x p G H ⟨[], 0, []⟩) (hr : R ⟨[], 0, []⟩ [] d) : Eb K S (tCall (spBnS K C R) [] E (tCons te tNil)) sl d := fun G H σ k f s Q qq => by
  refine hF G H σ k _ fun x p G2 H2 hx hp ne n so => ?_
  exact ⟨x, [], [], ⟨[], 0, []⟩, G2, d, rfl, n.k, .nil, so.r, hr, fun v G3 H3 n3 r3 => qq v G3 H3 (n.nx.trans n3) r3⟩
theorem eb_rs {C x : Addr} {E : XK} {sx sy : Nat} (hix : sl[sx]? = some (.raw (.ref x))) (hiy : sl[sy]? = some (.raw (.ref y))) (hB : ∀ G H, S G H → BnR K C x G H b) (hT : ∀ G H, S G H → SoAt K y q G H b) (hU : UbB b) (nd : (b.haps.map (·.1)).Nodup) : Eb K S (tCall (spRs K C) [] E (tCons (tVar sx) (tCons (tVar sy) tNil))) sl (.bl true) := fun G H σ k f s Q qq =>
  ⟨.ref x, frd_raw f hix, .ref y, frd_raw f hiy, x, y, q, b, G, rfl, k, hB _ _ s, hT _ _ s, hU, nd, fun G2 H2 n2 => qq _ G2 H2 n2 (.bl _)⟩
end
end Z
namespace Z
open PySem PySem.Spec PyProof.Rows L2 RZ
open PyProof
open Evl (Ex)
/-! ### how long what is shown can be -/
theorem piled_le {m : Nat} : ∀ {ts : List Str}, (∀ t ∈ ts, t.length ≤ m) → piled ts ≤ (m + 2) * ts.length
  | [], _ => Nat.zero_le _
  | t :: r, h => by
    have h1 := h t List.mem_cons_self
    have h2 := piled_le fun q hq => h q (List.mem_cons_of_mem _ hq)
    rw [piled_cons, List.length_cons, Nat.mul_succ]
    omega
theorem lstT_len {m : Nat} {ts : List Str} (h : ∀ t ∈ ts, t.length ≤ m) : (listText ts).length ≤ (m + 2) * ts.length + 4 := by
  have hp := piled_le h
  unfold listText
  rw [strLen_append]
  cases ts with
  | nil => exact Nat.le_of_ble_eq_true rfl
  | cons t r =>
    have e := textFrom_length_pos r 1 ((("[" : Str) ++ (if 0 > 0 then ", " else "" : String)) ++ t) (by decide)
    have e2 : (textFrom 0 "[" (t :: r)).length = (((("[" : Str) ++ (if 0 > 0 then ", " else "" : String)) ++ t)).length + piled r := e
    rw [e2, strLen_append, strLen_append]
    rw [piled_cons] at hp
    have z1 : (("[" : Str)).length = 1 := rfl
    have z2 : (((if 0 > 0 then ", " else "" : String)) : Str).length = 0 := rfl
    have z3 : (("]" : String) : Str).length = 1 := rfl
    omega
theorem tupT_len {m : Nat} {ts : List Str} (h : ∀ t ∈ ts, t.length ≤ m) : (tupleText ts).length ≤ (m + 2) * ts.length + 4 := by
  have hp := piled_le h
  unfold tupleText
  rw [strLen_append, strLen_append]
  have z1 : (("(" : Str)).length = 1 := rfl
  have z2 : (((if ts.length == 1 then ",)" else ")" : String)) : Str).length ≤ 2 := by split <;> exact Nat.le_of_ble_eq_true rfl
  cases ts with
  | nil =>
    have z3 : (Str.join ", " []).length = 0 := rfl
    omega
  | cons t r =>
    have := join_length_add (t :: r) (by simp)
    omega
end Z
namespace Z
open PySem PySem.Spec PyProof.Rows L2 RZ
open PyProof
open Evl (Ex)
/-! ### what is seen can be shown -/
theorem shAll_map : ∀ ps : List PyData, PyData.shownAll ps = ps.map PyData.shown
  | [] => rfl
  | p :: ps => by rw [PyData.shownAll, shAll_map ps]; rfl
theorem swAll : ∀ {ps : List PyData}, (∀ p ∈ ps, p.showable = true) → PyData.showableAll ps = true
  | [], _ => rfl
  | p :: ps, h => by rw [PyData.showableAll, h p List.mem_cons_self, swAll fun q m => h q (List.mem_cons_of_mem _ m)]; rfl
theorem shw_lst {m : Nat} {ps : List PyData} (h : ∀ p ∈ ps, p.shown.length ≤ m) : (PyData.list ps).shown.length ≤ (m + 2) * ps.length + 4 := by
  rw [PyData.shown, shAll_map]
  have := lstT_len (m := m) (ts := ps.map PyData.shown) fun t ht => by
    obtain ⟨p, hp, rfl⟩ := List.mem_map.mp ht
    exact h p hp
  rwa [List.length_map] at this
theorem shw_tup {m : Nat} {ps : List PyData} (h : ∀ p ∈ ps, p.shown.length ≤ m) : (PyData.tuple ps).shown.length ≤ (m + 2) * ps.length + 4 := by
  rw [PyData.shown, shAll_map]
  have := tupT_len (m := m) (ts := ps.map PyData.shown) fun t ht => by
    obtain ⟨p, hp, rfl⟩ := List.mem_map.mp ht
    exact h p hp
  rwa [List.length_map] at this
theorem log_b19 {i : Int} (h : Bt 1900 i) : i.natAbs.log2 < 1920 := by
  by_cases z : i.natAbs = 0
  · rw [z]
    decide
  · exact (Nat.log2_lt z).mpr (Nat.lt_of_lt_of_le h (Nat.pow_le_pow_right (by decide) (by decide)))
theorem shw_int {i : Int} (h : Bt 1900 i) : (PyData.int i).showable = true ∧ (PyData.int i).shown.length ≤ 1921 := by
  have l := log_b19 h
  refine ⟨decide_eq_true l, ?_⟩
  rw [PyData.shown]
  show (Str.ofString (toString i)).length ≤ 1921
  rw [PySem.ofString_length]
  exact int_text_length_le (k := 1920) (by decide) l
theorem shw_frac {q : Rat} (h : Bq 1900 q) : (PyData.tuple [.int q.num, .int (q.den : Nat)]).showable = true ∧ (PyData.tuple [.int q.num, .int (q.den : Nat)]).shown.length ≤ 3850 := by
  obtain ⟨a1, a2⟩ := shw_int h.1
  obtain ⟨b1, b2⟩ := shw_int (i := ((q.den : Nat) : Int)) h.2
  refine ⟨?_, ?_⟩
  · rw [PyData.showable]
    refine swAll fun p hp => ?_
    simp only [List.mem_cons, List.not_mem_nil, or_false] at hp
    rcases hp with rfl | rfl <;> assumption
  · refine Nat.le_trans (shw_tup (m := 1921) fun p hp => ?_) (by exact Nat.le_of_ble_eq_true rfl)
    simp only [List.mem_cons, List.not_mem_nil, or_false] at hp
    rcases hp with rfl | rfl <;> assumption
theorem shw_hap {q : Rat × Rat} (h1 : Bq 1900 q.1) (h2 : Bq 1900 q.2) : (hapP q).showable = true ∧ (hapP q).shown.length ≤ 7708 := by
  obtain ⟨a1, a2⟩ := shw_frac h1
  obtain ⟨b1, b2⟩ := shw_frac h2
  unfold hapP
  refine ⟨?_, ?_⟩
  · rw [PyData.showable]
    refine swAll fun p hp => ?_
    simp only [List.mem_cons, List.not_mem_nil, or_false] at hp
    rcases hp with rfl | rfl <;> assumption
  · refine Nat.le_trans (shw_tup (m := 3850) fun p hp => ?_) (by exact Nat.le_of_ble_eq_true rfl)
    simp only [List.mem_cons, List.not_mem_nil, or_false] at hp
    rcases hp with rfl | rfl <;> assumption
theorem shw_nm {n : Str} (h : isNm (.str n) = true) : (PyData.str n).shown.length ≤ 82 := by
  obtain ⟨h8, hc⟩ := nm_small h
  rw [PyData.shown]
  have := PySem.StrLaws.reprText_len n fun c m => Nat.lt_of_lt_of_le (hc c m) (by decide)
  omega
theorem le_lst {m k n : Nat} {l : Nat} (h : l ≤ (m + 2) * n + 4) (hn : n ≤ k) : l ≤ (m + 2) * k + 4 := Nat.le_trans h (Nat.add_le_add_right (Nat.mul_le_mul_left _ hn) 4)
theorem seen_show {b : Bst} (h : UbB b) : (seenP b).showable = true ∧ (seenP b).hasDict = false ∧ (seenP b).depth ≤ 20 ∧ (seenP b).shown.length ≤ sizeLine := by
  have h12 := h.le
  have ln := nmsB_len b
  have nm : ∀ n ∈ nmsB b, (PyData.str n).shown.length ≤ 82 := fun n hn => shw_nm (nmsB_mem h hn).1
  have l1 : (namesP b).shown.length ≤ 1012 := le_lst (shw_lst (m := 82) fun p hp => by
    obtain ⟨s, hs, rfl⟩ := List.mem_map.mp hp
    exact nm s hs) (k := 12) (by rw [List.length_map]; omega)
  have l3 : (PyData.list ((toB b).map hapP)).shown.length ≤ 92524 := le_lst (shw_lst (m := 7708) fun p hp => by
    obtain ⟨q, hq, rfl⟩ := List.mem_map.mp hp
    obtain ⟨b1, b2⟩ := h.to q hq
    exact (shw_hap (b1.mono (by decide)) (b2.mono (by decide))).2) (k := 12) (by rw [List.length_map, toB_len]; omega)
  have l2 : (ordP b).shown.length ≤ 12172 := le_lst (shw_lst (m := 1012) fun p hp => by
    obtain ⟨q, hq, rfl⟩ := List.mem_map.mp hp
    refine le_lst (shw_lst (m := 82) fun p hp => ?_) (k := 12) (by rw [List.length_map]; have := atQ_len (tsB b) b.speed q; rw [tsB_len] at this; omega)
    obtain ⟨k, hk, rfl⟩ := List.mem_map.mp hp
    have hlt : k < (nmsB b).length := by
      have := atQ_lt hk
      rw [tsB_len] at this
      omega
    refine nm _ ?_
    rw [List.getD_eq_getElem?_getD, List.getElem?_eq_getElem hlt, Option.getD_some]
    exact List.getElem_mem hlt) (k := 12) (by
      rw [List.length_map]
      have := rsg_len (stQ (tsB b) b.speed)
      have lz : (stQ (tsB b) b.speed).length = (tsB b).length := List.length_map ..
      rw [tsB_len] at lz
      omega)
  obtain ⟨f1, f2⟩ := shw_frac (h.q.mono (n := 1800) (m := 1900) (by decide))
  refine ⟨?_, PyData.hasDict_of_canLay _ (sh_lay (sh_seen h)), ?_, ?_⟩
  · unfold seenP
    rw [PyData.showable]
    refine swAll fun p hp => ?_
    simp only [List.mem_cons, List.not_mem_nil, or_false] at hp
    rcases hp with rfl | rfl | rfl | rfl
    · unfold namesP
      rw [PyData.showable]
      exact swAll fun p hp => by
        obtain ⟨s, hs, rfl⟩ := List.mem_map.mp hp
        rfl
    · exact f1
    · unfold ordP
      rw [PyData.showable]
      exact swAll fun p hp => by
        obtain ⟨s, hs, rfl⟩ := List.mem_map.mp hp
        rw [PyData.showable]
        exact swAll fun p hp => by
          obtain ⟨s, hs, rfl⟩ := List.mem_map.mp hp
          rfl
    · rw [PyData.showable]
      exact swAll fun p hp => by
        obtain ⟨q, hq, rfl⟩ := List.mem_map.mp hp
        obtain ⟨b1, b2⟩ := h.to q hq
        exact (shw_hap (b1.mono (by decide)) (b2.mono (by decide))).1
  · refine Nat.le_trans (dep_lst (n := 3) fun p hp => ?_) (by decide)
    simp only [List.mem_cons, List.not_mem_nil, or_false] at hp
    rcases hp with rfl | rfl | rfl | rfl
    · refine Nat.le_trans (dep_lst (n := 0) fun p hp => ?_) (by decide)
      obtain ⟨s, _, rfl⟩ := List.mem_map.mp hp
      simp [PyData.depth]
    · simp [PyData.depth, PyData.depthAll]
    · refine Nat.le_trans (dep_lst (n := 1) fun p hp => ?_) (by decide)
      obtain ⟨s, _, rfl⟩ := List.mem_map.mp hp
      refine dep_lst fun p hp => ?_
      obtain ⟨s, _, rfl⟩ := List.mem_map.mp hp
      simp [PyData.depth]
    · refine Nat.le_trans (dep_lst (n := 2) fun p hp => ?_) (by decide)
      obtain ⟨s, _, rfl⟩ := List.mem_map.mp hp
      simp [hapP, PyData.depth, PyData.depthAll]
  · refine Nat.le_trans (shw_lst (m := 92524) fun p hp => ?_) (by show (92524 + 2) * 4 + 4 ≤ 2 ^ 24; decide)
    simp only [List.mem_cons, List.not_mem_nil, or_false] at hp
    rcases hp with rfl | rfl | rfl | rfl <;> omega
def textD (b : Bst) : Dt := .str (seenP b).shown
theorem rc_seen {K : PySem.W.Frag} {b : Bst} (h : UbB b) : RcD K (rRepr K) [seenD b] (textD b) := by
  obtain ⟨h1, h2, h3, h4⟩ := seen_show h
  exact rc_repr (py_seenP b) (.inl ⟨_, rfl⟩) h1 h2 h3 h4
end Z
namespace Z
open PySem PySem.Spec PyProof.Rows L2 RZ
open Evl (Ex)
/-! ### all that a bench stood like -/
def stP (e : Hps × Rat) : Bst := ⟨e.1, e.2, []⟩
def allB (b : Bst) : List (Hps × Rat) := b.past ++ [(b.haps, b.speed)]
def seens (b : Bst) : List Dt := (allB b).map fun e => seenD (stP e)
def texts (b : Bst) : List Dt := (allB b).map fun e => textD (stP e)
theorem seen_st (b : Bst) : seenD b = seenD (stP (b.haps, b.speed)) := seenD_eq rfl (fun _ _ => rfl) rfl
theorem text_st (b : Bst) : textD b = textD (stP (b.haps, b.speed)) := by
  have h1 := py_seenP b
  rw [seen_st, py_seenP] at h1
  unfold textD
  rw [Option.some.inj h1]
theorem seens_len (b : Bst) : (seens b).length = b.past.length + 1 := by
  unfold seens allB
  rw [List.length_map, List.length_append, List.length_singleton]
theorem texts_len (b : Bst) : (texts b).length = b.past.length + 1 := by
  unfold texts allB
  rw [List.length_map, List.length_append, List.length_singleton]
theorem seens_last (b : Bst) : seens b = (b.past.map fun e => seenD (stP e)) ++ [seenD b] := by
  unfold seens allB
  rw [List.map_append, seen_st b]
  rfl
theorem texts_last (b : Bst) : texts b = (b.past.map fun e => textD (stP e)) ++ [textD b] := by
  unfold texts allB
  rw [List.map_append, text_st b]
  rfl
/-- what is so of a bench after so many drawn deeds, none of them undone -/
structure In83 (k : Nat) (b : Bst) : Prop where
  pi : PI k b
  pl : PlB b
  nd : (b.haps.map (·.1)).Nodup
  hd : (allB b)[0]? = some ([], 0)
theorem In83.zero : In83 0 ⟨[], 0, []⟩ := ⟨pi_zero, plb_zero, List.nodup_nil, rfl⟩
theorem In83.up {k : Nat} {b : Bst} (h : In83 k b) : In83 (k + 1) b := ⟨h.pi.up, h.pl, h.nd, h.hd⟩
theorem putH_nd {hs : Hps} {n : Str} {q : Rat × Rat} (h : (hs.map (·.1)).Nodup) : ((putH hs n q).map (·.1)).Nodup := by
  unfold putH
  split
  · have e : (hs.map fun e => if e.1 = n then (e.1, q) else e).map (·.1) = hs.map (·.1) := by
      rw [List.map_map]
      refine List.map_congr_left fun e _ => ?_
      show (if e.1 = n then (e.1, q) else e).1 = e.1
      split <;> rfl
    rw [e]
    exact h
  · rename_i z
    rw [List.map_append]
    refine List.nodup_append.mpr ⟨h, by simp, fun a ha c hc e => ?_⟩
    simp only [List.map_cons, List.map_nil, List.mem_singleton] at hc
    obtain ⟨g, hg, rfl⟩ := List.mem_map.mp ha
    exact z (List.any_eq_true.mpr ⟨g, hg, decide_eq_true (e.trans hc)⟩)
theorem dropH_nd {hs : Hps} {n : Str} (h : (hs.map (·.1)).Nodup) : ((dropH hs n).map (·.1)).Nodup := h.sublist (List.filter_sublist.map _)
theorem all_grow {b b' : Bst} (h : b'.past = b.past ++ [(b.haps, b.speed)]) : allB b' = allB b ++ [(b'.haps, b'.speed)] := by
  unfold allB
  rw [h]
theorem done_grow {b b' : Bst} {de : Deed} {d : Dt} (hd : DoneR b de d b') (hu : de ≠ .undo) (nd : (b.haps.map (·.1)).Nodup) : b' = b ∨ (b'.past = b.past ++ [(b.haps, b.speed)] ∧ (b'.haps.map (·.1)).Nodup) := by
  rcases hd with ⟨w, _, _, rfl⟩ | ⟨_, _, ha⟩
  · exact .inl rfl
  · right
    cases de with
    | undo => exact absurd rfl hu
    | put x z =>
      obtain ⟨n, q, _, _, rfl⟩ := ha
      exact ⟨rfl, putH_nd nd⟩
    | drop x =>
      obtain ⟨n, _, _, rfl⟩ := ha
      exact ⟨rfl, dropH_nd nd⟩
    | turn x =>
      obtain ⟨v, w, _, _, _, rfl⟩ := ha
      exact ⟨rfl, nd⟩
    | push x =>
      obtain ⟨v, w, _, _, _, rfl⟩ := ha
      exact ⟨rfl, nd⟩
theorem In83.step {k : Nat} {b b' : Bst} {de : Deed} {d : Dt} (h : In83 k b) (ok : DeedOk de) (hd : DoneR b de d b') (hu : de ≠ .undo) : In83 (k + 1) b' ∧ (b' = b ∨ (b'.past = b.past ++ [(b.haps, b.speed)] ∧ seens b' = seens b ++ [seenD b'] ∧ texts b' = texts b ++ [textD b'])) := by
  have p := pi_step h.pi ok hd
  have q := plb_step h.pl hd
  rcases done_grow hd hu h.nd with rfl | ⟨e, nd⟩
  · exact ⟨⟨p, q, h.nd, h.hd⟩, .inl rfl⟩
  · have g := all_grow e
    refine ⟨⟨p, q, nd, ?_⟩, .inr ⟨e, ?_, ?_⟩⟩
    · rw [g, List.getElem?_append_left (by unfold allB; rw [List.length_append, List.length_singleton]; omega)]
      exact h.hd
    · unfold seens
      rw [g, List.map_append, seen_st b']
      rfl
    · unfold texts
      rw [g, List.map_append, text_st b']
      rfl
theorem In83.ub {k : Nat} {b : Bst} (h : In83 k b) (hk : k ≤ 25) : UbB b := h.pi.ub h.pl hk
theorem In83.q {k : Nat} {b : Bst} (h : In83 k b) (hk : k ≤ 23) : Bq 1700 b.speed := h.pi.now.q.mono (by omega)
theorem In83.uba {k : Nat} {b : Bst} (h : In83 k b) (hk : k ≤ 25) {e : Hps × Rat} (he : e ∈ allB b) : UbB (stP e) := by
  unfold allB at he
  rcases List.mem_append.mp he with z | z
  · have s := h.pi.pa e z
    exact ⟨s.hi, s.le, s.sp, h.pl.pa e z, s.q.mono (by omega)⟩
  · rw [List.mem_singleton.mp z]
    have s := h.pi.now
    exact ⟨s.hi, s.le, s.sp, h.pl.now, s.q.mono (by omega)⟩
/-- the bench as it stood after so many deeds -/
def bk (b : Bst) (i : Nat) : Bst := ⟨((allB b).getD i ([], 0)).1, ((allB b).getD i ([], 0)).2, b.past.take i⟩
theorem bk_top (b : Bst) : bk b b.past.length = b := by
  unfold bk allB
  rw [List.getD_eq_getElem?_getD, List.getElem?_append_right (Nat.le_refl _), Nat.sub_self, List.take_length]
  rfl
theorem bk_past {b : Bst} {i : Nat} (h : i < b.past.length) : (bk b (i + 1)).past = (bk b i).past ++ [((bk b i).haps, (bk b i).speed)] := by
  unfold bk allB
  show b.past.take (i + 1) = b.past.take i ++ [_]
  rw [List.take_add_one, List.getElem?_eq_getElem h, List.getD_eq_getElem?_getD, List.getElem?_append_left h, List.getElem?_eq_getElem h]
  rfl
theorem bk_seen {b : Bst} {i : Nat} (h : i < b.past.length) : seenD (bk b i) = seenD (stP b.past[i]) := by
  rw [seen_st]
  unfold bk allB
  show seenD (stP ((List.getD _ i ([], 0)).1, (List.getD _ i ([], 0)).2)) = _
  rw [List.getD_eq_getElem?_getD, List.getElem?_append_left h, List.getElem?_eq_getElem h]
  rfl
theorem bk_in (b : Bst) {i : Nat} (h : i ≤ b.past.length) : ((bk b i).haps, (bk b i).speed) ∈ allB b := by
  unfold bk
  have hl : i < (allB b).length := by unfold allB; rw [List.length_append, List.length_singleton]; omega
  show ((List.getD _ i ([], 0)).1, (List.getD _ i ([], 0)).2) ∈ _
  rw [List.getD_eq_getElem?_getD, List.getElem?_eq_getElem hl]
  exact List.getElem_mem hl
theorem bk_ub {k : Nat} {b : Bst} (h : In83 k b) (hk : k ≤ 25) {i : Nat} (hi : i ≤ b.past.length) : UbB (bk b i) := by
  have u := h.uba hk (bk_in b hi)
  exact ⟨u.hi, u.le, u.sp, u.pl, u.q⟩
theorem bk_zero {k : Nat} {b : Bst} (h : In83 k b) : bk b 0 = ⟨[], 0, []⟩ := by
  unfold bk
  rw [List.getD_eq_getElem?_getD, h.hd]
  rfl
end Z
namespace Z
open PySem PySem.Spec PyProof.Rows L2 RZ
open PyProof
open PySem.Builtin PySem.Builtin.Str
/-! ### what is shown is made of signs -/
def gdS (s : Str) : Prop := ∀ c ∈ s.cps.toList, c < 0x110000
theorem gdS_app {a b : Str} (h1 : gdS a) (h2 : gdS b) : gdS (a ++ b) := fun c hc => by
  have e : (a ++ b).cps.toList = a.cps.toList ++ b.cps.toList := by
    show (a.cps ++ b.cps).toList = _
    rw [Array.toList_append]
  rw [e] at hc
  rcases List.mem_append.mp hc with z | z
  · exact h1 c z
  · exact h2 c z
theorem chr_ok (c : Char) : c.toNat < 0x110000 := by
  have h := c.valid
  rcases h with h | ⟨_, h⟩
  · have : c.toNat < 0xd800 := h
    omega
  · exact h
theorem gdS_of (s : String) : gdS (Str.ofString s) := fun c hc => by
  have e : (Str.ofString s).cps.toList = s.toList.map Char.toNat := TL.tl_ofString s
  rw [e] at hc
  obtain ⟨d, _, rfl⟩ := List.mem_map.mp hc
  exact chr_ok d
theorem gdS_from : ∀ (ts : List Str) (k : Nat) (acc : Str), gdS acc → (∀ t ∈ ts, gdS t) → gdS (textFrom k acc ts)
  | [], _, _, h, _ => h
  | t :: r, k, acc, h, g => gdS_from r (k + 1) _ (gdS_app (gdS_app h (gdS_of _)) (g t List.mem_cons_self)) fun q m => g q (List.mem_cons_of_mem _ m)
theorem gdS_lst {ts : List Str} (h : ∀ t ∈ ts, gdS t) : gdS (listText ts) := gdS_app (gdS_from ts 0 _ (gdS_of _) h) (gdS_of _)
theorem gdS_join : ∀ {ts : List Str}, (∀ t ∈ ts, gdS t) → gdS (Str.join ", " ts)
  | [], _ => fun c hc => by simp [Str.join, Str.empty] at hc
  | [x], h => h x List.mem_cons_self
  | x :: y :: r, h => by
    show gdS (x ++ ", " ++ Str.join ", " (y :: r))
    exact gdS_app (gdS_app (h x List.mem_cons_self) (gdS_of _)) (gdS_join fun q m => h q (List.mem_cons_of_mem _ m))
theorem gdS_tup {ts : List Str} (h : ∀ t ∈ ts, gdS t) : gdS (tupleText ts) := gdS_app (gdS_app (gdS_of _) (gdS_join h)) (gdS_of _)
theorem gdS_int (i : Int) : gdS (PyData.int i).shown := by
  rw [PyData.shown]
  exact gdS_of _
theorem hex_ok {w c : Nat} : ∀ d ∈ List.replicate (w - ((Nat.toDigits 16 c).map Char.toNat).length) 48 ++ (Nat.toDigits 16 c).map Char.toNat, d < 0x110000 := fun d hd => by
  rcases List.mem_append.mp hd with z | z
  · rw [(List.mem_replicate.mp z).2]
    decide
  · obtain ⟨e, _, rfl⟩ := List.mem_map.mp z
    exact chr_ok e
theorem rch_ok {q c : Nat} (hc : c < 0x110000) : ∀ d ∈ reprChar q c, d < 0x110000 := by
  unfold reprChar
  dsimp only
  intro d hd
  repeat' split at hd
  all_goals first
    | (simp only [List.mem_cons, List.not_mem_nil, or_false] at hd; omega)
    | (rcases List.mem_append.mp hd with z | z
       · simp only [List.mem_cons, List.not_mem_nil, or_false] at z; omega
       · exact hex_ok d z)
theorem gdS_repr {x : Str} (h : gdS x) : gdS (reprText x) := by
  have q0 : reprQuote x < 0x110000 := by
    unfold reprQuote
    split <;> decide
  have key : ∀ (l : List Nat) (acc : Array Nat), (∀ c ∈ l, c < 0x110000) → (∀ c ∈ acc.toList, c < 0x110000) → ∀ c ∈ (l.foldl (fun out c => out ++ (reprChar (reprQuote x) c).toArray) acc).toList, c < 0x110000 := fun l => by
    induction l with
    | nil => exact fun acc _ g => g
    | cons a l ih =>
      intro acc h g
      rw [List.foldl_cons]
      refine ih _ (fun c m => h c (List.mem_cons_of_mem _ m)) fun c m => ?_
      rw [Array.toList_append] at m
      rcases List.mem_append.mp m with z | z
      · exact g c z
      · exact rch_ok (h a List.mem_cons_self) c (by simpa using z)
  intro c hc
  unfold reprText at hc
  have hc : c ∈ ((x.cps.foldl (fun out c => out ++ (reprChar (reprQuote x) c).toArray) #[reprQuote x]).push (reprQuote x)).toList := hc
  rw [Array.toList_push, ← Array.foldl_toList] at hc
  rcases List.mem_append.mp hc with z | z
  · exact key x.cps.toList _ h (fun c m => by simp at m; rw [m]; exact q0) c z
  · rw [List.mem_singleton.mp z]
    exact q0
theorem gdS_pl {ps : List PyData} (h : ∀ p ∈ ps, gdS p.shown) : gdS (PyData.list ps).shown := by
  rw [PyData.shown, shAll_map]
  refine gdS_lst fun t ht => ?_
  obtain ⟨p, hp, rfl⟩ := List.mem_map.mp ht
  exact h p hp
theorem gdS_pt {ps : List PyData} (h : ∀ p ∈ ps, gdS p.shown) : gdS (PyData.tuple ps).shown := by
  rw [PyData.shown, shAll_map]
  refine gdS_tup fun t ht => ?_
  obtain ⟨p, hp, rfl⟩ := List.mem_map.mp ht
  exact h p hp
theorem gdS_fr (a b : Int) : gdS (PyData.tuple [.int a, .int b]).shown := gdS_pt fun p hp => by
  simp only [List.mem_cons, List.not_mem_nil, or_false] at hp
  rcases hp with rfl | rfl <;> exact gdS_int _
theorem gdS_seen {b : Bst} (h : UbB b) : gdS (seenP b).shown := by
  have nm : ∀ n ∈ nmsB b, gdS (PyData.str n).shown := fun n hn => by
    rw [PyData.shown]
    exact gdS_repr fun c m => (nm_small (nmsB_mem h hn).1).2 c m
  unfold seenP
  refine gdS_pl fun p hp => ?_
  simp only [List.mem_cons, List.not_mem_nil, or_false] at hp
  rcases hp with rfl | rfl | rfl | rfl
  · unfold namesP
    refine gdS_pl fun p hp => ?_
    obtain ⟨n, hn, rfl⟩ := List.mem_map.mp hp
    exact nm n hn
  · exact gdS_fr _ _
  · unfold ordP
    refine gdS_pl fun p hp => ?_
    obtain ⟨q, hq, rfl⟩ := List.mem_map.mp hp
    refine gdS_pl fun p hp => ?_
    obtain ⟨k, hk, rfl⟩ := List.mem_map.mp hp
    have hlt : k < (nmsB b).length := by
      have h1 := atQ_lt hk
      have h2 := nmsB_len b
      rw [tsB_len] at h1
      omega
    refine nm _ ?_
    rw [List.getD_eq_getElem?_getD, List.getElem?_eq_getElem hlt, Option.getD_some]
    exact List.getElem_mem hlt
  · refine gdS_pl fun p hp => ?_
    obtain ⟨q, hq, rfl⟩ := List.mem_map.mp hp
    unfold hapP
    refine gdS_pt fun p hp => ?_
    simp only [List.mem_cons, List.not_mem_nil, or_false] at hp
    rcases hp with rfl | rfl <;> exact gdS_fr _ _
theorem gdS_sh {s : Str} (h : gdS s) : SeqAt.shaped (.str s) = true := by
  unfold SeqAt.shaped
  rw [Bool.and_eq_true]
  refine ⟨?_, by simp [PyData.depth]⟩
  rw [PyData.canLay0]
  unfold PyData.strOk
  rw [← Array.all_toList]
  exact List.all_eq_true.mpr fun c hc => decide_eq_true (h c hc)
theorem py_texts {k : Nat} {b : Bst} (h : In83 k b) (hk : k ≤ 25) : ∃ p, py (.lst (texts b)) = some p ∧ SeqAt.shaped p = true := by
  have e : texts b = ((allB b).map fun e => (seenP (stP e)).shown).map Dt.str := by
    unfold texts textD
    rw [List.map_map]
    rfl
  refine ⟨_, by rw [e, py, pys_strs], sh_strs fun s hs => ?_⟩
  obtain ⟨a, ha, rfl⟩ := List.mem_map.mp hs
  exact gdS_sh (gdS_seen (h.uba hk ha))
end Z
namespace Z
open PySem PySem.Spec PyProof.Rows L2 RZ
open Evl (Ex)
section
variable {K : PySem.W.Frag} {us : List Addr} {S S1 S2 : Hp → Hp → Prop} {sl : List Sl} {te te1 te2 : TE} {rr : TS} {N : List Sl → Prop} {b : Bst} {d x : Dt}
theorem bn_notor (h1 : Eb K S te1 sl (.bl true)) (hS : Stb S) (h2 : Ed K us S S2 te2 sl (.bl true)) (g : N sl) : Bn K us S S2 (tIfS (tOr (tNot (tB te1)) (tNot (tB te2))) rr tNext) sl N := fun G H σ k f s D q =>
  h1 G H σ k f s _ fun v G1 H1 n1 r1 => by
    cases r1
    refine ⟨true, rfl, ?_⟩
    refine h2 G1 H1 σ n1.k (FrD.mono n1.g f) (hS _ _ _ _ s n1) _ fun w G2 H2 n2 s2 r2 => ?_
    cases r2
    exact ⟨true, rfl, q σ sl G2 H2 g (n1.p.trans n2) s2 (FrD.mono (n1.g.trans n2.g) f)⟩
theorem ed_trP {C x p y q pot : Addr} {E : XK} {tf : TE} {sx sy : Nat} (hix : sl[sx]? = some (.raw (.ref x))) (hiy : sl[sy]? = some (.raw (.ref y))) (hf : Ep K tf sl [pot] fun d => ∃ s, d = fq (pl s) ∧ 0 < s ∧ Bq 21 s) (hP : ∀ G H, S G H → Pots [pot] G H) (hpt : ∀ G H G2 H2, S G H → NxP [pot] G H G2 H2 → Pots [pot] G2 H2 → S G2 H2) (hB : ∀ G H, S G H → BnAt K C x p G H b) (hT : ∀ G H, S G H → SoAt K y q G H b) (un : x ≠ y ∧ x ≠ q ∧ p ≠ y ∧ p ≠ q) (hU : UbB b) (bs : Bq 1700 b.speed) (hp : b.past.length ≤ 80000) (hu : x ∈ us ∧ p ∈ us ∧ pot ∈ us) (hS2 : ∀ G H G2 H2, S G H → NxP [x, p] G H G2 H2 → BnAt K C x p G2 H2 b → S2 G2 H2) :
    Ed K us S S2 (tCall (spTr K C) [] E (tCons (tVar sx) (tCons (tVar sy) (tCons tf tNil)))) sl (.bl true) := fun G H σ k f s Q qq => by
  refine ⟨.ref x, frd_raw f hix, .ref y, frd_raw f hiy, ?_⟩
  refine hf G H σ k f (hP _ _ s) _ fun w d G1 H1 hd n1 m1 r1 => ?_
  obtain ⟨sq, rfl, s0, b0⟩ := hd
  have s1 := hpt _ _ _ _ s n1 m1
  refine ⟨x, y, p, q, w, pl sq, _, b, G1, rfl, n1.k, hB _ _ s1, hT _ _ s1, un, r1, pl_pl s0, (bq_pl b0 s0).mono (by decide), hU, bs, hp, fun G2 H2 n2 b2 => ?_⟩
  have n1' : NxP us G H G1 H1 := ⟨n1.g, n1.k, fun c o hc e => n1.h c o (fun z => hc (by rw [List.mem_singleton.mp z]; exact hu.2.2)) e, n1.t, n1.f⟩
  have n2' : NxP us G1 H1 G2 H2 := ⟨n2.g, n2.k, fun c o hc e => n2.h c o (fun z => hc (by
    simp only [List.mem_cons, List.not_mem_nil, or_false] at z
    rcases z with rfl | rfl
    · exact hu.1
    · exact hu.2.1)) e, n2.t, n2.f⟩
  exact qq _ G2 H2 (n1'.trans n2') (hS2 _ _ _ _ s1 n2 b2) (.bl _)
theorem ev_ofEb (h : Eb K (fun _ _ => True) te sl x) : Ev K te sl x := fun G H σ k f Q q => h G H σ k f trivial Q q
end
theorem In83.mono {k : Nat} {b : Bst} (h : In83 k b) : ∀ {m : Nat}, k ≤ m → In83 m b
  | 0, hm => (by rwa [Nat.le_zero.mp hm] at h)
  | m + 1, hm => by
    by_cases e : k = m + 1
    · rwa [← e]
    · exact (In83.mono h (by omega)).up
/-! ### three hundred turns and back -/
def v35 : Rat := ⟨3, 5, by decide, by decide⟩
theorem pv35 : Pl v35 (4 / 5) := by
  refine ⟨⟨by decide +kernel, by decide +kernel⟩, by decide +kernel, by decide +kernel⟩
theorem bv35 : Bq 67 v35 := ⟨by show Int.natAbs 3 < 2 ^ 67; decide +kernel, by show Int.natAbs 5 < 2 ^ 67; decide +kernel⟩
def at3 (k : Nat) : Rat := if k % 2 = 1 then v35 else 0
def b300 (k : Nat) : Bst := ⟨[], at3 k, (List.range k).map fun i => ([], at3 i)⟩
theorem b300_len (k : Nat) : (b300 k).past.length = k := by
  unfold b300
  rw [List.length_map, List.length_range]
theorem b300_past (k : Nat) : (b300 (k + 1)).past = (b300 k).past ++ [((b300 k).haps, (b300 k).speed)] := by
  unfold b300
  show List.map _ (List.range (k + 1)) = _
  rw [List.range_succ, List.map_append]
  rfl
theorem at3_pl (k : Nat) : ∃ w, Pl (at3 k) w := by
  unfold at3
  split
  · exact ⟨_, pv35⟩
  · exact ⟨_, pl_zero⟩
theorem at3_bq (k : Nat) : Bq 67 (at3 k) := by
  unfold at3
  split
  · exact bv35
  · exact bq_zero.mono (by decide)
theorem b300_sp (k : Nat) (h : k ≤ 300) : SpB (b300 k) := by
  obtain ⟨w, hw⟩ := at3_pl k
  exact ⟨by show 0 ≤ 90000; omega, by rw [b300_len]; omega, hw.s, (at3_bq k).mono (by decide)⟩
theorem spd_of {q : Rat} (s : Sp q) (b : Bq 67 q) : SpdB (fq q) := ⟨sz_fq (by show Int.natAbs _ < 2 ^ 9000; exact Nat.lt_of_lt_of_le b.2 (Nat.pow_le_pow_right (by decide) (by decide))), fun _ => ⟨q, rfl, s, b⟩⟩
theorem undo_done {b : Bst} {h0 : Hps} {s0 : Rat} {pt : List (Hps × Rat)} (hp : b.past = pt ++ [(h0, s0)]) : DoneR b .undo .non ⟨h0, s0, pt⟩ := .inr ⟨by
  show (if b.past.isEmpty = true then _ else _) = none
  rw [if_neg (by rw [hp]; cases pt <;> (intro z; cases z))], rfl, h0, s0, pt, hp, rfl⟩
theorem ref_pl {b : Bst} {v w : Rat} (h : Pl v w) : refw b (.turn (fq v)) = none := by
  show spdR (fq v) = none
  unfold spdR
  rw [if_neg (by rw [isSpD_of h.s]; decide), ratOf_fq, h.beat, if_neg (by intro z; cases z)]
theorem turn_done (k : Nat) : DoneR (b300 k) (.turn (fq (at3 (k + 1)))) .non (b300 (k + 1)) := by
  obtain ⟨w, hw⟩ := at3_pl (k + 1)
  refine .inr ⟨ref_pl hw, rfl, at3 (k + 1), w, rfl, hw, at3_bq _, ?_⟩
  have e := b300_past k
  show b300 (k + 1) = ⟨[], at3 (k + 1), (b300 k).past ++ [((b300 k).haps, (b300 k).speed)]⟩
  rw [← e]
  rfl
theorem back_done (k : Nat) : DoneR (b300 (k + 1)) .undo .non (b300 k) := undo_done (b300_past k)
theorem undo_none {b : Bst} (hp : b.past = []) : DoneR b .undo (.str "deed") b := .inl ⟨"deed", by
  show (if b.past.isEmpty = true then _ else _) = _
  rw [if_pos (by rw [hp]; rfl)], rfl, rfl⟩
end Z
namespace Z
open PySem PySem.Spec PyProof.Rows L2 RZ
open Evl (Ex)
/-! ### small tactics over the words of this text: walk_at "ev" evaluates an expression's reading, "et" a test's, "ea" arguments', "bq" "bt" sizes, "rok" what a callee promises -/
local macro_rules | `(tactic| walk_at "bt0") => `(tactic| first
  | with_reducible assumption
  | exact (And.left (by assumption : Bq _ _))
  | exact (And.right (by assumption : Bq _ _))
  | (with_reducible apply bt_mul; walk_at "bt0"; walk_at "bt0"))
local macro_rules | `(tactic| walk_at "bt") => `(tactic| (apply Bt.mono; walk_at "bt0"; decide))
local macro_rules | `(tactic| walk_at "bq0") => `(tactic| first
  | with_reducible assumption
  | (with_reducible apply bq_add; walk_at "bq0"; walk_at "bq0")
  | (with_reducible apply bq_sub; walk_at "bq0"; walk_at "bq0")
  | (with_reducible apply bq_mul; walk_at "bq0"; walk_at "bq0")
  | (with_reducible apply bq_neg; walk_at "bq0")
  | (with_reducible apply bq_jn; walk_at "bq0"; walk_at "bq0"; walk_at "ne")
  | exact bq_one
  | exact bq_zero
  | (with_reducible apply bq_quo; walk_at "bq0"; walk_at "bq0"; walk_at "ne"))
local macro_rules | `(tactic| walk_at "bq") => `(tactic| (apply Bq.mono; walk_at "bq0"; decide))
local macro_rules | `(tactic| walk_at "ne") => `(tactic| first | assumption | exact den_ne _ | omega | decide | (apply num_ne.mpr; assumption))
local macro_rules | `(tactic| walk_at "mul") => `(tactic| first
  | exact mulL ⟨by decide, by decide⟩
  | exact mulR ⟨by decide, by decide⟩
  | exact mulL ⟨by omega, by omega⟩
  | exact mulR ⟨by omega, by omega⟩
  | (apply mulok; walk_at "bt0"; walk_at "bt0"; decide))
local macro_rules | `(tactic| walk_at "r2") => `(tactic| first
  | exact r2_add
  | exact r2_sub
  | exact fx0
  | exact fx1
  | exact ix0
  | exact ix1
  | exact r2_lt
  | exact r2_le
  | exact r2_gt
  | exact r2_ge
  | exact r2_eqI
  | exact r2_neI
  | exact r2_eqF
  | exact r2_isN
  | exact r2_notN
  | exact r2_eqB
  | exact r2_neB
  | exact r2_isB
  | exact r2_notB
  | exact r2_eqS (by decide +kernel) (by decide +kernel)
  | exact r2_neS (by decide +kernel) (by decide +kernel)
  | (apply r2_mul; walk_at "mul")
  | (apply r2_mod; walk_at "ne")
  | exact r2_pow ⟨by decide, by decide, by decide⟩
  | exact r2_ixT rfl
  | exact r2_ixL rfl
  | exact r2_cat (by exact Nat.le_of_ble_eq_true rfl))
local macro_rules | `(tactic| walk_at "rc") => `(tactic| first
  | exact rc_abs | exact rc_max | exact rc_min | exact rc_gcd | exact rc_lenT | exact rc_lenL | exact rc_intB)
local macro_rules | `(tactic| walk_at "kb") => `(tactic| first
  | exact kb_ii | exact kb_ib | exact kb_tt | exact kb_bb | exact kb_ss | exact kb_is | assumption)
local macro_rules | `(tactic| walk_at "rok") => `(tactic| first
  | exact low_ok (by walk_at "ne") (by walk_at "bt")
  | exact sum_ok (by walk_at "bq") (by walk_at "bq")
  | exact gap_ok (by walk_at "bq") (by walk_at "bq")
  | exact prod_ok (by walk_at "bq") (by walk_at "bq")
  | exact less_ok (by walk_at "bq") (by walk_at "bq")
  | exact quot_ok (by walk_at "bq") (by walk_at "bq") (by walk_at "ne")
  | exact joined_ok (by walk_at "jb") (by walk_at "ne"))
local macro_rules | `(tactic| walk_at "jb") => `(tactic| first | assumption | (refine ⟨_, _, by walk_at "bq0", by walk_at "bq0", ?_⟩; decide))
local macro_rules | `(tactic| walk_at "btd") => `(tactic| first | assumption | (apply Bt.mono; exact And.right (by assumption : Bq _ _); decide))
local macro_rules | `(tactic| walk_at "ea") => `(tactic| first
  | exact ea_nil
  | (apply ea_cons; walk_at "ev"; walk_at "ea"))
local macro_rules | `(tactic| walk_at "ev") => `(tactic| first
  | exact ev_var rfl
  | exact ev_int
  | exact ev_bl
  | exact ev_str
  | exact ev_non
  | exact ev_dct
  | (apply ev_isi; walk_at "ev"; walk_at "kb")
  | (apply ev_op; walk_at "ev"; walk_at "ev"; walk_at "r2")
  | (apply ev_un; walk_at "ev"; exact r1_neg)
  | (apply ev_tup; walk_at "ea"; (exact Nat.le_of_ble_eq_true rfl))
  | (apply ev_lst; walk_at "ea"; (exact Nat.le_of_ble_eq_true rfl))
  | (apply ev_callX; walk_at "ea"; walk_at "rok")
  | (apply ev_call; walk_at "ea"; walk_at "rok")
  | (apply ev_cb; walk_at "ea"; walk_at "rc")
  | (apply ev_andV; walk_at "ev"; (intro _; walk_at "ev"))
  | (apply ev_orV; walk_at "ev"; (intro _; walk_at "ev"))
  | (apply ev_notV; walk_at "ev"))
local macro_rules | `(tactic| walk_at "et") => `(tactic| first
  | (apply et_test; walk_at "ev")
  | (apply et_B; walk_at "ev")
  | (apply et_not; walk_at "et")
  | (apply et_and; walk_at "et"; (intro _; walk_at "et"))
  | (apply et_or; walk_at "et"; (intro _; walk_at "et")))
local macro_rules | `(tactic| walk_at "nt") => `(tactic| first
  | (apply nt_asg; walk_at "ev")
  | (apply nt_par; walk_at "ea"))
local macro_rules | `(tactic| walk_at "wk") => `(tactic| first
  | exact .nil
  | (refine .cons (.same _) ?_; walk_at "wk")
  | (refine .cons (.no _) ?_; walk_at "wk"))
structure Txt (K : PySem.W.Frag) (mg : Str → Option Value) (ca fa ka : Nat → Addr) : Prop where
  d_is_whole : Dd K mg "is_whole" s_is_whole ["thing"]
  d_is_fraction : Dd K mg "is_fraction" s_is_fraction ["thing"]
  d_fraction : Dd K mg "fraction" s_fraction ["top", "bottom"]
  d_plus : Dd K mg "plus" s_plus ["one", "other"]
  d_less : Dd K mg "less" s_less ["one", "other"]
  d_times : Dd K mg "times" s_times ["one", "other"]
  d_by : Dd K mg "by" s_by ["one", "other"]
  d_is_less : Dd K mg "is_less" s_is_less ["one", "other"]
  d_rising : Dd K mg "rising" s_rising ["ones"]
  d_root_of : Dd K mg "root_of" s_root_of ["one"]
  d_is_hap : Dd K mg "is_hap" s_is_hap ["thing"]
  d_are_haps : Dd K mg "are_haps" s_are_haps ["thing", "most"]
  d_check_haps : Dd K mg "check_haps" s_check_haps ["thing", "most"]
  d_is_speed : Dd K mg "is_speed" s_is_speed ["thing"]
  d_check_speed : Dd K mg "check_speed" s_check_speed ["thing"]
  d_together : Dd K mg "together" s_together ["one", "other"]
  d_beat_or_none : Dd K mg "beat_or_none" s_beat_or_none ["speed"]
  d_is_plain : Dd K mg "is_plain" s_is_plain ["speed"]
  d_check_plain : Dd K mg "check_plain" s_check_plain ["speed"]
  d_beat_of : Dd K mg "beat_of" s_beat_of ["speed"]
  d_lapse_and_gap : Dd K mg "lapse_and_gap" s_lapse_and_gap ["one", "other"]
  d_kind_of : Dd K mg "kind_of" s_kind_of ["one", "other"]
  d_standing : Dd K mg "standing" s_standing ["haps", "speed"]
  d_order_at : Dd K mg "order_at" s_order_at ["haps", "speed"]
  d_is_seat : Dd K mg "is_seat" s_is_seat ["thing"]
  d_check_seat : Dd K mg "check_seat" s_check_seat ["thing"]
  d_check_hap : Dd K mg "check_hap" s_check_hap ["thing"]
  d_seen_from : Dd K mg "seen_from" s_seen_from ["speed", "lapse", "gap"]
  d_told_from : Dd K mg "told_from" s_told_from ["seat", "hap"]
  d_is_name : Dd K mg "is_name" s_is_name ["thing"]
  d_Bench___init__ : DdI K (ca 19) "Bench.__init__" s_Bench___init__ ["self"]
  cl_Bench : Cls K (ca 19)
  na_Bench__haps : NoAttr K (ca 19) "_haps"
  na_Bench__speed : NoAttr K (ca 19) "_speed"
  na_Bench__past : NoAttr K (ca 19) "_past"
  d_Bench__do : DdM K (ca 19) "_do" "Bench._do" s_Bench__do ["self", "haps", "speed"]
  d_Bench_put : DdM K (ca 19) "put" "Bench.put" s_Bench_put ["self", "name", "hap"]
  d_Bench__hap_of : DdM K (ca 19) "_hap_of" "Bench._hap_of" s_Bench__hap_of ["self", "name"]
  d_Bench_drop : DdM K (ca 19) "drop" "Bench.drop" s_Bench_drop ["self", "name"]
  d_Bench_turn : DdM K (ca 19) "turn" "Bench.turn" s_Bench_turn ["self", "speed"]
  d_Bench_push : DdM K (ca 19) "push" "Bench.push" s_Bench_push ["self", "speed"]
  d_Bench_undo : DdM K (ca 19) "undo" "Bench.undo" s_Bench_undo ["self"]
  d_Bench_names : DdM K (ca 19) "names" "Bench.names" s_Bench_names ["self"]
  d_Bench_speed : DdM K (ca 19) "speed" "Bench.speed" s_Bench_speed ["self"]
  d_Bench_tell : DdM K (ca 19) "tell" "Bench.tell" s_Bench_tell ["self", "name"]
  d_Bench_order : DdM K (ca 19) "order" "Bench.order" s_Bench_order ["self"]
  d_Bench_kind : DdM K (ca 19) "kind" "Bench.kind" s_Bench_kind ["self", "one", "other"]
  d__law_cell_at : Dd K mg "_law_cell_at" s__law_cell_at ["_law_script", "_law_k"]
  d__law_pot : Dd K mg "_law_pot" s__law_pot ["_law_cell"]
  d__law_take : Dd K mg "_law_take" s__law_take ["_law_pot_here", "_law_far"]
  d__law_fresh : Dd K mg "_law_fresh" s__law_fresh []
  d__law_named : Dd K mg "_law_named" s__law_named ["_law_pot_here"]
  d__law_low : Dd K mg "_law_low" s__law_low ["_law_top", "_law_bottom"]
  d__law_hap : Dd K mg "_law_hap" s__law_hap ["_law_pot_here"]
  d__law_stretch : Dd K mg "_law_stretch" s__law_stretch ["_law_pot_here"]
  d__law_fast : Dd K mg "_law_fast" s__law_fast ["_law_pot_here"]
  d__law_speed : Dd K mg "_law_speed" s__law_speed ["_law_pot_here"]
  d__law_deed : Dd K mg "_law_deed" s__law_deed ["_law_pot_here"]
  d__law_whole : Dd K mg "_law_whole" s__law_whole ["_law_thing"]
  d__law_good : Dd K mg "_law_good" s__law_good ["_law_thing"]
  d__law_is_it : Dd K mg "_law_is_it" s__law_is_it ["_law_thing"]
  d__law_named_well : Dd K mg "_law_named_well" s__law_named_well ["_law_thing"]
  d__law_is_fast : Dd K mg "_law_is_fast" s__law_is_fast ["_law_thing"]
  d__law_root : Dd K mg "_law_root" s__law_root ["_law_number"]
  d__law_rooted : Dd K mg "_law_rooted" s__law_rooted ["_law_one"]
  d__law_gap : Dd K mg "_law_gap" s__law_gap ["_law_one", "_law_other"]
  d__law_prod : Dd K mg "_law_prod" s__law_prod ["_law_one", "_law_other"]
  d__law_beat : Dd K mg "_law_beat" s__law_beat ["_law_speed_here"]
  d__law_refused_as : Dd K mg "_law_refused_as" s__law_refused_as ["_law_state", "_law_word", "_law_told"]
  d__law_sum : Dd K mg "_law_sum" s__law_sum ["_law_one", "_law_other"]
  d__law_quot : Dd K mg "_law_quot" s__law_quot ["_law_one", "_law_other"]
  d__law_joined : Dd K mg "_law_joined" s__law_joined ["_law_one", "_law_other"]
  d__law_kept : Dd K mg "_law_kept" s__law_kept ["_law_state", "_law_word", "_law_told"]
  d__law_kind_of : Dd K mg "_law_kind_of" s__law_kind_of ["_law_e"]
  d__law_done : Dd K mg "_law_done" s__law_done ["_law_bench", "_law_word", "_law_told"]
  d__law_seen : Dd K mg "_law_seen" s__law_seen ["_law_bench"]
  d__law_stands_right : Dd K mg "_law_stands_right" s__law_stands_right ["_law_bench", "_law_state"]
  d__law_turned_right : Dd K mg "_law_turned_right" s__law_turned_right ["_law_bench", "_law_state", "_law_speed_here"]
  d_law : Dd K mg "law" s_law ["_law_script"]
  m_ValueError : mg "ValueError" = none
  m_abs : mg "abs" = none
  m_all : mg "all" = none
  m_bool : mg "bool" = none
  m_dict : mg "dict" = none
  m_enumerate : mg "enumerate" = none
  m_int : mg "int" = none
  m_isinstance : mg "isinstance" = none
  m_len : mg "len" = none
  m_list : mg "list" = none
  m_max : mg "max" = none
  m_min : mg "min" = none
  m_range : mg "range" = none
  m_repr : mg "repr" = none
  m_set : mg "set" = none
  m_sorted : mg "sorted" = none
  m_str : mg "str" = none
  m_tuple : mg "tuple" = none
  g_gcd : mg "gcd" = some (.builtin "math.gcd")
  g_isqrt : mg "isqrt" = some (.builtin "math.isqrt")
  g_lcm : mg "lcm" = some (.builtin "math.lcm")
  c_MotionError : mg "MotionError" = some (.ref (ca 0))
  c_NoFraction : mg "NoFraction" = some (.ref (ca 1))
  x_NoFraction : Cl K mg "NoFraction" (ca 1)
  c_NoHap : mg "NoHap" = some (.ref (ca 2))
  x_NoHap : Cl K mg "NoHap" (ca 2)
  c_NoText : mg "NoText" = some (.ref (ca 3))
  c_NoSpeed : mg "NoSpeed" = some (.ref (ca 4))
  x_NoSpeed : Cl K mg "NoSpeed" (ca 4)
  c_TooMany : mg "TooMany" = some (.ref (ca 5))
  x_TooMany : Cl K mg "TooMany" (ca 5)
  c_NotPlain : mg "NotPlain" = some (.ref (ca 6))
  x_NotPlain : Cl K mg "NotPlain" (ca 6)
  c_NoStretch : mg "NoStretch" = some (.ref (ca 7))
  c_NoHaps : mg "NoHaps" = some (.ref (ca 8))
  x_NoHaps : Cl K mg "NoHaps" (ca 8)
  c_NoOrder : mg "NoOrder" = some (.ref (ca 9))
  c_NoStep : mg "NoStep" = some (.ref (ca 10))
  c_NoNumber : mg "NoNumber" = some (.ref (ca 11))
  c_NoSeat : mg "NoSeat" = some (.ref (ca 12))
  x_NoSeat : Cl K mg "NoSeat" (ca 12)
  c_NoRod : mg "NoRod" = some (.ref (ca 13))
  c_NoWay : mg "NoWay" = some (.ref (ca 14))
  c_NoFlash : mg "NoFlash" = some (.ref (ca 15))
  c_NoName : mg "NoName" = some (.ref (ca 16))
  x_NoName : Cl K mg "NoName" (ca 16)
  c_NoDeed : mg "NoDeed" = some (.ref (ca 17))
  x_NoDeed : Cl K mg "NoDeed" (ca 17)
  c_NoRow : mg "NoRow" = some (.ref (ca 18))
  c_Bench : mg "Bench" = some (.ref (ca 19))
  e_NoName : ExcC K (ca 16)
  v_NoName : PySem.W.kitOne K (.ref (ca 16)) (.type "ValueError") = some true
  r_NoName : PySem.W.exmOne K (.ref (ca 16)) (.ref (ca 0)) = some true
  k_NoName_NoDeed : PySem.W.kitOne K (.ref (ca 16)) (.ref (ca 17)) = some false
  k_NoName_NoFlash : PySem.W.kitOne K (.ref (ca 16)) (.ref (ca 15)) = some false
  k_NoName_NoFraction : PySem.W.kitOne K (.ref (ca 16)) (.ref (ca 1)) = some false
  k_NoName_NoHap : PySem.W.kitOne K (.ref (ca 16)) (.ref (ca 2)) = some false
  k_NoName_NoHaps : PySem.W.kitOne K (.ref (ca 16)) (.ref (ca 8)) = some false
  k_NoName_NoName : PySem.W.kitOne K (.ref (ca 16)) (.ref (ca 16)) = some true
  k_NoName_NoNumber : PySem.W.kitOne K (.ref (ca 16)) (.ref (ca 11)) = some false
  k_NoName_NoOrder : PySem.W.kitOne K (.ref (ca 16)) (.ref (ca 9)) = some false
  k_NoName_NoRod : PySem.W.kitOne K (.ref (ca 16)) (.ref (ca 13)) = some false
  k_NoName_NoRow : PySem.W.kitOne K (.ref (ca 16)) (.ref (ca 18)) = some false
  k_NoName_NoSeat : PySem.W.kitOne K (.ref (ca 16)) (.ref (ca 12)) = some false
  k_NoName_NoSpeed : PySem.W.kitOne K (.ref (ca 16)) (.ref (ca 4)) = some false
  k_NoName_NoStep : PySem.W.kitOne K (.ref (ca 16)) (.ref (ca 10)) = some false
  k_NoName_NoStretch : PySem.W.kitOne K (.ref (ca 16)) (.ref (ca 7)) = some false
  k_NoName_NoText : PySem.W.kitOne K (.ref (ca 16)) (.ref (ca 3)) = some false
  k_NoName_NotPlain : PySem.W.kitOne K (.ref (ca 16)) (.ref (ca 6)) = some false
  k_NoName_NoWay : PySem.W.kitOne K (.ref (ca 16)) (.ref (ca 14)) = some false
  k_NoName_TooMany : PySem.W.kitOne K (.ref (ca 16)) (.ref (ca 5)) = some false
  e_NoHap : ExcC K (ca 2)
  v_NoHap : PySem.W.kitOne K (.ref (ca 2)) (.type "ValueError") = some true
  r_NoHap : PySem.W.exmOne K (.ref (ca 2)) (.ref (ca 0)) = some true
  k_NoHap_NoDeed : PySem.W.kitOne K (.ref (ca 2)) (.ref (ca 17)) = some false
  k_NoHap_NoFlash : PySem.W.kitOne K (.ref (ca 2)) (.ref (ca 15)) = some false
  k_NoHap_NoFraction : PySem.W.kitOne K (.ref (ca 2)) (.ref (ca 1)) = some false
  k_NoHap_NoHap : PySem.W.kitOne K (.ref (ca 2)) (.ref (ca 2)) = some true
  k_NoHap_NoHaps : PySem.W.kitOne K (.ref (ca 2)) (.ref (ca 8)) = some false
  k_NoHap_NoName : PySem.W.kitOne K (.ref (ca 2)) (.ref (ca 16)) = some false
  k_NoHap_NoNumber : PySem.W.kitOne K (.ref (ca 2)) (.ref (ca 11)) = some false
  k_NoHap_NoOrder : PySem.W.kitOne K (.ref (ca 2)) (.ref (ca 9)) = some false
  k_NoHap_NoRod : PySem.W.kitOne K (.ref (ca 2)) (.ref (ca 13)) = some false
  k_NoHap_NoRow : PySem.W.kitOne K (.ref (ca 2)) (.ref (ca 18)) = some false
  k_NoHap_NoSeat : PySem.W.kitOne K (.ref (ca 2)) (.ref (ca 12)) = some false
  k_NoHap_NoSpeed : PySem.W.kitOne K (.ref (ca 2)) (.ref (ca 4)) = some false
  k_NoHap_NoStep : PySem.W.kitOne K (.ref (ca 2)) (.ref (ca 10)) = some false
  k_NoHap_NoStretch : PySem.W.kitOne K (.ref (ca 2)) (.ref (ca 7)) = some false
  k_NoHap_NoText : PySem.W.kitOne K (.ref (ca 2)) (.ref (ca 3)) = some false
  k_NoHap_NotPlain : PySem.W.kitOne K (.ref (ca 2)) (.ref (ca 6)) = some false
  k_NoHap_NoWay : PySem.W.kitOne K (.ref (ca 2)) (.ref (ca 14)) = some false
  k_NoHap_TooMany : PySem.W.kitOne K (.ref (ca 2)) (.ref (ca 5)) = some false
  e_NoSpeed : ExcC K (ca 4)
  v_NoSpeed : PySem.W.kitOne K (.ref (ca 4)) (.type "ValueError") = some true
  r_NoSpeed : PySem.W.exmOne K (.ref (ca 4)) (.ref (ca 0)) = some true
  k_NoSpeed_NoDeed : PySem.W.kitOne K (.ref (ca 4)) (.ref (ca 17)) = some false
  k_NoSpeed_NoFlash : PySem.W.kitOne K (.ref (ca 4)) (.ref (ca 15)) = some false
  k_NoSpeed_NoFraction : PySem.W.kitOne K (.ref (ca 4)) (.ref (ca 1)) = some false
  k_NoSpeed_NoHap : PySem.W.kitOne K (.ref (ca 4)) (.ref (ca 2)) = some false
  k_NoSpeed_NoHaps : PySem.W.kitOne K (.ref (ca 4)) (.ref (ca 8)) = some false
  k_NoSpeed_NoName : PySem.W.kitOne K (.ref (ca 4)) (.ref (ca 16)) = some false
  k_NoSpeed_NoNumber : PySem.W.kitOne K (.ref (ca 4)) (.ref (ca 11)) = some false
  k_NoSpeed_NoOrder : PySem.W.kitOne K (.ref (ca 4)) (.ref (ca 9)) = some false
  k_NoSpeed_NoRod : PySem.W.kitOne K (.ref (ca 4)) (.ref (ca 13)) = some false
  k_NoSpeed_NoRow : PySem.W.kitOne K (.ref (ca 4)) (.ref (ca 18)) = some false
  k_NoSpeed_NoSeat : PySem.W.kitOne K (.ref (ca 4)) (.ref (ca 12)) = some false
  k_NoSpeed_NoSpeed : PySem.W.kitOne K (.ref (ca 4)) (.ref (ca 4)) = some true
  k_NoSpeed_NoStep : PySem.W.kitOne K (.ref (ca 4)) (.ref (ca 10)) = some false
  k_NoSpeed_NoStretch : PySem.W.kitOne K (.ref (ca 4)) (.ref (ca 7)) = some false
  k_NoSpeed_NoText : PySem.W.kitOne K (.ref (ca 4)) (.ref (ca 3)) = some false
  k_NoSpeed_NotPlain : PySem.W.kitOne K (.ref (ca 4)) (.ref (ca 6)) = some false
  k_NoSpeed_NoWay : PySem.W.kitOne K (.ref (ca 4)) (.ref (ca 14)) = some false
  k_NoSpeed_TooMany : PySem.W.kitOne K (.ref (ca 4)) (.ref (ca 5)) = some false
  e_NotPlain : ExcC K (ca 6)
  v_NotPlain : PySem.W.kitOne K (.ref (ca 6)) (.type "ValueError") = some true
  r_NotPlain : PySem.W.exmOne K (.ref (ca 6)) (.ref (ca 0)) = some true
  k_NotPlain_NoDeed : PySem.W.kitOne K (.ref (ca 6)) (.ref (ca 17)) = some false
  k_NotPlain_NoFlash : PySem.W.kitOne K (.ref (ca 6)) (.ref (ca 15)) = some false
  k_NotPlain_NoFraction : PySem.W.kitOne K (.ref (ca 6)) (.ref (ca 1)) = some false
  k_NotPlain_NoHap : PySem.W.kitOne K (.ref (ca 6)) (.ref (ca 2)) = some false
  k_NotPlain_NoHaps : PySem.W.kitOne K (.ref (ca 6)) (.ref (ca 8)) = some false
  k_NotPlain_NoName : PySem.W.kitOne K (.ref (ca 6)) (.ref (ca 16)) = some false
  k_NotPlain_NoNumber : PySem.W.kitOne K (.ref (ca 6)) (.ref (ca 11)) = some false
  k_NotPlain_NoOrder : PySem.W.kitOne K (.ref (ca 6)) (.ref (ca 9)) = some false
  k_NotPlain_NoRod : PySem.W.kitOne K (.ref (ca 6)) (.ref (ca 13)) = some false
  k_NotPlain_NoRow : PySem.W.kitOne K (.ref (ca 6)) (.ref (ca 18)) = some false
  k_NotPlain_NoSeat : PySem.W.kitOne K (.ref (ca 6)) (.ref (ca 12)) = some false
  k_NotPlain_NoSpeed : PySem.W.kitOne K (.ref (ca 6)) (.ref (ca 4)) = some false
  k_NotPlain_NoStep : PySem.W.kitOne K (.ref (ca 6)) (.ref (ca 10)) = some false
  k_NotPlain_NoStretch : PySem.W.kitOne K (.ref (ca 6)) (.ref (ca 7)) = some false
  k_NotPlain_NoText : PySem.W.kitOne K (.ref (ca 6)) (.ref (ca 3)) = some false
  k_NotPlain_NotPlain : PySem.W.kitOne K (.ref (ca 6)) (.ref (ca 6)) = some true
  k_NotPlain_NoWay : PySem.W.kitOne K (.ref (ca 6)) (.ref (ca 14)) = some false
  k_NotPlain_TooMany : PySem.W.kitOne K (.ref (ca 6)) (.ref (ca 5)) = some false
  e_NoDeed : ExcC K (ca 17)
  v_NoDeed : PySem.W.kitOne K (.ref (ca 17)) (.type "ValueError") = some true
  r_NoDeed : PySem.W.exmOne K (.ref (ca 17)) (.ref (ca 0)) = some true
  k_NoDeed_NoDeed : PySem.W.kitOne K (.ref (ca 17)) (.ref (ca 17)) = some true
  k_NoDeed_NoFlash : PySem.W.kitOne K (.ref (ca 17)) (.ref (ca 15)) = some false
  k_NoDeed_NoFraction : PySem.W.kitOne K (.ref (ca 17)) (.ref (ca 1)) = some false
  k_NoDeed_NoHap : PySem.W.kitOne K (.ref (ca 17)) (.ref (ca 2)) = some false
  k_NoDeed_NoHaps : PySem.W.kitOne K (.ref (ca 17)) (.ref (ca 8)) = some false
  k_NoDeed_NoName : PySem.W.kitOne K (.ref (ca 17)) (.ref (ca 16)) = some false
  k_NoDeed_NoNumber : PySem.W.kitOne K (.ref (ca 17)) (.ref (ca 11)) = some false
  k_NoDeed_NoOrder : PySem.W.kitOne K (.ref (ca 17)) (.ref (ca 9)) = some false
  k_NoDeed_NoRod : PySem.W.kitOne K (.ref (ca 17)) (.ref (ca 13)) = some false
  k_NoDeed_NoRow : PySem.W.kitOne K (.ref (ca 17)) (.ref (ca 18)) = some false
  k_NoDeed_NoSeat : PySem.W.kitOne K (.ref (ca 17)) (.ref (ca 12)) = some false
  k_NoDeed_NoSpeed : PySem.W.kitOne K (.ref (ca 17)) (.ref (ca 4)) = some false
  k_NoDeed_NoStep : PySem.W.kitOne K (.ref (ca 17)) (.ref (ca 10)) = some false
  k_NoDeed_NoStretch : PySem.W.kitOne K (.ref (ca 17)) (.ref (ca 7)) = some false
  k_NoDeed_NoText : PySem.W.kitOne K (.ref (ca 17)) (.ref (ca 3)) = some false
  k_NoDeed_NotPlain : PySem.W.kitOne K (.ref (ca 17)) (.ref (ca 6)) = some false
  k_NoDeed_NoWay : PySem.W.kitOne K (.ref (ca 17)) (.ref (ca 14)) = some false
  k_NoDeed_TooMany : PySem.W.kitOne K (.ref (ca 17)) (.ref (ca 5)) = some false
  e_TooMany : ExcC K (ca 5)
  v_TooMany : PySem.W.kitOne K (.ref (ca 5)) (.type "ValueError") = some true
  r_TooMany : PySem.W.exmOne K (.ref (ca 5)) (.ref (ca 0)) = some true
  k_TooMany_NoDeed : PySem.W.kitOne K (.ref (ca 5)) (.ref (ca 17)) = some false
  k_TooMany_NoFlash : PySem.W.kitOne K (.ref (ca 5)) (.ref (ca 15)) = some false
  k_TooMany_NoFraction : PySem.W.kitOne K (.ref (ca 5)) (.ref (ca 1)) = some false
  k_TooMany_NoHap : PySem.W.kitOne K (.ref (ca 5)) (.ref (ca 2)) = some false
  k_TooMany_NoHaps : PySem.W.kitOne K (.ref (ca 5)) (.ref (ca 8)) = some false
  k_TooMany_NoName : PySem.W.kitOne K (.ref (ca 5)) (.ref (ca 16)) = some false
  k_TooMany_NoNumber : PySem.W.kitOne K (.ref (ca 5)) (.ref (ca 11)) = some false
  k_TooMany_NoOrder : PySem.W.kitOne K (.ref (ca 5)) (.ref (ca 9)) = some false
  k_TooMany_NoRod : PySem.W.kitOne K (.ref (ca 5)) (.ref (ca 13)) = some false
  k_TooMany_NoRow : PySem.W.kitOne K (.ref (ca 5)) (.ref (ca 18)) = some false
  k_TooMany_NoSeat : PySem.W.kitOne K (.ref (ca 5)) (.ref (ca 12)) = some false
  k_TooMany_NoSpeed : PySem.W.kitOne K (.ref (ca 5)) (.ref (ca 4)) = some false
  k_TooMany_NoStep : PySem.W.kitOne K (.ref (ca 5)) (.ref (ca 10)) = some false
  k_TooMany_NoStretch : PySem.W.kitOne K (.ref (ca 5)) (.ref (ca 7)) = some false
  k_TooMany_NoText : PySem.W.kitOne K (.ref (ca 5)) (.ref (ca 3)) = some false
  k_TooMany_NotPlain : PySem.W.kitOne K (.ref (ca 5)) (.ref (ca 6)) = some false
  k_TooMany_NoWay : PySem.W.kitOne K (.ref (ca 5)) (.ref (ca 14)) = some false
  k_TooMany_TooMany : PySem.W.kitOne K (.ref (ca 5)) (.ref (ca 5)) = some true
  v_LETTERS : ∃ u, mg "LETTERS" = some u ∧ RelV (.str "abcdefghijklmnopqrstuvwxyz") u
  v_LONGEST_NAME : ∃ u, mg "LONGEST_NAME" = some u ∧ RelV (.int (8)) u
  v_MOST_HAPS : ∃ u, mg "MOST_HAPS" = some u ∧ RelV (.int (8)) u
  v_MOST_NAMES : ∃ u, mg "MOST_NAMES" = some u ∧ RelV (.int (12)) u
  v_NOUGHT : mg "NOUGHT" = some (.ref (ka 4))
  w_NOUGHT : ∀ H, SqX K H (ka 4) [.int (0), .int (1)]
  v_ONE : mg "ONE" = some (.ref (ka 5))
  w_ONE : ∀ H, SqX K H (ka 5) [.int (1), .int (1)]
section
variable {P : Program} {w : World} {K : PySem.W.Frag} {mg : Str → Option Value} {base : Heap} {ca fa ka : Nat → Addr}
theorem ev_NOUGHT {sl : List Sl} (T : Txt K mg ca fa ka) : Ev K (tC (.ref (ka 4))) sl (fq 0) := ev_ii T.w_NOUGHT
local macro_rules | `(tactic| walk_at "ev") => `(tactic| exact ev_NOUGHT (by assumption))
theorem ev_ONE {sl : List Sl} (T : Txt K mg ca fa ka) : Ev K (tC (.ref (ka 5))) sl (fq 1) := ev_ii T.w_ONE
local macro_rules | `(tactic| walk_at "ev") => `(tactic| exact ev_ONE (by assumption))
def R_wh (ds : List Dt) (d : Dt) : Prop := ∃ x : Dt, ds = [x] ∧ d = .bl (isWh x)
theorem h_is_whole (T : Txt K mg ca fa ka) : Has P w K mg base CX0 1 "is_whole" ["thing"] (spP K R_wh) := by
  refine T.d_is_whole.pure sc_is_whole (fun ds d h => by obtain ⟨x, rfl, _⟩ := h; rfl) (fun f cdv A outer s H E hr => (pss_one (ps_ret (pe_and (pe_callB (isiK (K := K) rfl) (by rfl) T.m_isinstance (by decide +kernel) (pa_cons (pv 0) (pa_cons (pe_bltn (v := .ty "int") (by rfl) T.m_int (by decide +kernel) rfl) pa_nil))) (pe_one (pe_not (pe_callB (isiK (K := K) rfl) (by rfl) T.m_isinstance (by decide +kernel) (pa_cons (pv 0) (pa_cons (pe_bltn (v := .ty "bool") (by rfl) T.m_bool (by decide +kernel) rfl) pa_nil))))))))) ?_
  rintro ds d ⟨x, rfl, rfl⟩
  obtain ⟨a, b, ha, hb, e⟩ := kb_whole x
  rw [← e]
  exact rt_ret (ev_andV (ev_isi (ev_var rfl) ha) (fun _ => ev_notV (ev_isi (ev_var rfl) hb)))
def R_fr (ds : List Dt) (d : Dt) : Prop := ∃ x : Dt, ds = [x] ∧ d = .bl (isFr x)
theorem h_is_fraction (T : Txt K mg ca fa ka) : Has P w K mg base CX0 2 "is_fraction" ["thing"] (spP K R_fr) := by
  refine T.d_is_fraction.pure sc_is_fraction (fun ds d h => by obtain ⟨x, rfl, _⟩ := h; rfl) (fun f cdv A outer s H E hr => (pss_cons (ps_if (PW.pt (pw_or (pt_not (pt_val (pe_callB (isiK (K := K) rfl) (by rfl) T.m_isinstance (by decide +kernel) (pa_cons (pv 0) (pa_cons (pe_bltn (v := .ty "tuple") (by rfl) T.m_tuple (by decide +kernel) rfl) pa_nil))))) (pw_or1 (pt_cmpR (neK (K := K) rfl hr.units) (pe_callB (lenK (K := K) rfl) (by rfl) T.m_len (by decide +kernel) (pa_cons (pv 0) pa_nil)) pe_int (nomark _))))) (pss_one (ps_ret pe_bl)) pss_nil) (pss_cons (ps_asg (pv 0) (tupK (K := K) (n := 2) rfl rfl (pgs_cons (pg_name (i := 1) sc_is_fraction.nd rfl (Or.inl rfl)) (pgs_cons (pg_name (i := 2) sc_is_fraction.nd rfl (Or.inl rfl)) pgs_nil)))) (pss_one (ps_ret (pe_and (pe_h (h_is_whole T) hr (by decide) pass0 (pa_cons (pv 1) pa_nil)) (pe_and (pe_h (h_is_whole T) hr (by decide) pass0 (pa_cons (pv 2) pa_nil)) (pe_and (pe_cmpR op_gt (pv 2) pe_int (nomark _)) (pe_one (pe_cmpR (eqK (K := K) rfl hr.units) (pe_callBfun cr_gcd (by rfl) T.g_gcd (pa_cons (pv 1) (pa_cons (pv 2) pa_nil))) pe_int (nomark _))))))))))) ?_
  rintro ds d ⟨x, rfl, rfl⟩
  obtain ⟨c, hc, hiff⟩ := kb_tup x
  by_cases h : ∃ ds, x = .tup ds
  · obtain ⟨ds, rfl⟩ := h
    have c1 : c = true := hiff.mpr ⟨ds, rfl⟩
    subst c1
    refine rt_cond (et_or (et_not (et_B (ev_isi (ev_var rfl) hc))) (fun _ => et_test (ev_op (ev_cb (ea_cons (ev_var rfl) ea_nil) rc_lenT) ev_int r2_neI))) (fun hb => ?_) (fun hb => ?_)
    · refine rt_is (rt_ret ev_bl) ?_
      have hl : ds.length ≠ 2 := fun z => by
        rw [z] at hb
        simp at hb
      rw [isFr_len hl]
    · have hl : ds.length = 2 := by
        have : ((ds.length : Int) == 2) = true := by simpa using hb
        have := beq_iff_eq.mp this
        omega
      obtain ⟨a, b, rfl⟩ := two_of hl
      refine rt_seq (nt_unp (ev_var rfl)) ?_
      by_cases ha : isWh a = true
      · obtain ⟨t, rfl⟩ := isWh_iff.mp ha
        by_cases hb2 : isWh b = true
        · obtain ⟨u, rfl⟩ := isWh_iff.mp hb2
          refine rt_is (rt_ret (ev_andV (ev_call (ea_cons (ev_var rfl) ea_nil) (by exact ⟨_, rfl, rfl⟩)) (fun _ => ev_andV (ev_call (ea_cons (ev_var rfl) ea_nil) (by exact ⟨_, rfl, rfl⟩)) (fun _ => ev_andV (ev_op (ev_var rfl) ev_int r2_gt) (fun _ => ev_op (ev_cb (ea_cons (ev_var rfl) (ea_cons (ev_var rfl) ea_nil)) rc_gcd) ev_int r2_eqI))))) ?_
          rfl
        · have e : isFr (.tup [.int t, b]) = false := by
            cases b <;> first | rfl | exact absurd rfl hb2
          have hb3 : isWh b = false := by simpa using hb2
          rw [e]
          exact rt_is (rt_ret (ev_andV (ev_call (ea_cons (ev_var rfl) ea_nil) (by exact ⟨_, rfl, rfl⟩)) (fun _ => ev_andV (b := false) (ev_is (ev_call (ea_cons (ev_var rfl) ea_nil) (by exact ⟨_, rfl, rfl⟩)) (by rw [hb3])) (fun h => by cases h)))) rfl
      · have e : isFr (.tup [a, b]) = false := by
          cases a <;> first | rfl | exact absurd rfl ha
        have ha3 : isWh a = false := by simpa using ha
        rw [e]
        exact rt_is (rt_ret (ev_andV (b := false) (ev_is (ev_call (ea_cons (ev_var rfl) ea_nil) (by exact ⟨_, rfl, rfl⟩)) (by rw [ha3])) (fun h => by cases h))) rfl
  · have c0 : c = false := by
      cases c with
      | false => rfl
      | true => exact absurd (hiff.mp rfl) h
    subst c0
    have e : isFr x = false := by
      cases x <;> first | rfl | exact absurd ⟨_, rfl⟩ h
    rw [e]
    exact rt_cond (b := true) (et_is (et_or (b := true) (et_not (et_B (ev_isi (ev_var rfl) hc))) (fun h => by cases h)) rfl) (fun _ => rt_ret ev_bl) (fun h => by cases h)
def X_fraction (ca : Nat → Addr) (ds : List Dt) (c : Value) : Prop := ∃ t : Int, ds = [.int t, .int 0] ∧ c = .ref (ca 1)
theorem h_fraction (T : Txt K mg ca fa ka) : Has P w K mg base (L2.CX P w) 1 "fraction" ["top", "bottom"] (spX K R_low (X_fraction ca)) := by
  refine T.d_fraction.raises sc_fraction (fun ds d h => by obtain ⟨t, b, rfl, _⟩ := h; rfl) (fun ds d h => by obtain ⟨t, rfl, _⟩ := h; rfl) (fun f cdv A outer s H E hr => (pss_cons (ps_if (pt_cmpR (eqK (K := K) rfl hr.units) (pv 1) pe_int (nomark _)) (pss_one (ps_raise rfl (takes_of rfl rfl rfl rfl) (pmk_own PySem.F.excBase_ValueError T.x_NoFraction.x T.x_NoFraction.g T.x_NoFraction.k (raises_own T.x_NoFraction.b T.x_NoFraction.t) (by exact rfl)))) pss_nil) (pss_cons (ps_set (i := 2) sc_fraction.nd rfl (Or.inl rfl) (pe_callBfun cr_gcd (by rfl) T.g_gcd (pa_cons (pv 0) (pa_cons (pv 1) pa_nil)))) (pss_cons (ps_if (pt_cmpR op_lt (pv 1) pe_int (nomark _)) (pss_one (ps_set (i := 2) sc_fraction.nd rfl (Or.inl rfl) (pe_un un_neg (pv 2)))) pss_nil) (pss_one (ps_ret (pe_tup (pa_cons (pe_op op_fdivA (pv 0) (pv 2)) (pa_cons (pe_op op_fdivA (pv 1) (pv 2)) pa_nil))))))))) ?_ ?_
  · rintro ds d ⟨t, b, rfl, hb0, hb, rfl⟩
    have dk : ∀ i, CDivA i (dvs t b) := fun i => divok (dvs_ne hb0) (bt_dvs hb0 hb) (by decide)
    refine rx_no (by walk_at "et") (beq_eq_false_iff_ne.mpr hb0) (rx_rt ?_)
    refine rt_seq (nt_asg (ev_cb (ea_cons (ev_var rfl) (ea_cons (ev_var rfl) ea_nil)) rc_gcd)) (rt_seq (nt_if (sl2 := [.d (.int t), .d (.int b), .d (.int (dvs t b))]) (et_test (ev_op (ev_var rfl) ev_int r2_lt)) (fun h => ?_) (fun h => ?_)) (rt_is (rt_ret (ev_tup (ea_cons (ev_op (ev_var rfl) (ev_var rfl) (r2_div (dk _))) (ea_cons (ev_op (ev_var rfl) (ev_var rfl) (r2_div (dk _))) ea_nil)))) (low_fq hb0)))
    · refine nt_is (nt_asg (ev_un (ev_var rfl) r1_neg)) ?_
      have e : dvs t b = -((Nat.gcd t.natAbs b.natAbs : Nat) : Int) := if_pos (of_decide_eq_true h)
      rw [e]
      rfl
    · refine nt_is nt_next ?_
      have e : dvs t b = ((Nat.gcd t.natAbs b.natAbs : Nat) : Int) := if_neg (of_decide_eq_false h)
      rw [e]
      rfl
  · rintro ds c ⟨t, rfl, rfl⟩
    exact rx_raise (by walk_at "et") rfl
theorem h_plus (T : Txt K mg ca fa ka) : Has P w K mg base CX0 2 "plus" ["one", "other"] (spP K R_sum) := by
  refine T.d_plus.pure sc_plus (fun ds d h => by obtain ⟨x, y, rfl, _⟩ := h; rfl) (fun f cdv A outer s H E hr => (pss_one (ps_ret (pe_h (h_fraction T) hr (by decide) passL (pa_cons (pe_op op_add (pe_op op_mulA (pe_ix (ixK (K := K) rfl) (pv 0) pe_int (fun _ _ => rfl)) (pe_ix (ixK (K := K) rfl) (pv 1) pe_int (fun _ _ => rfl))) (pe_op op_mulA (pe_ix (ixK (K := K) rfl) (pv 1) pe_int (fun _ _ => rfl)) (pe_ix (ixK (K := K) rfl) (pv 0) pe_int (fun _ _ => rfl)))) (pa_cons (pe_op op_mulA (pe_ix (ixK (K := K) rfl) (pv 0) pe_int (fun _ _ => rfl)) (pe_ix (ixK (K := K) rfl) (pv 1) pe_int (fun _ _ => rfl))) pa_nil)))))) ?_
  rintro ds d ⟨x, y, rfl, bx, by_, rfl⟩
  refine rt_ret (ev_callX (ea_cons (ev_op (ev_op (ev_op (ev_var rfl) ev_int fx0) (ev_op (ev_var rfl) ev_int fx1) (r2_mul (mulok bx.1 by_.2 (by decide)))) (ev_op (ev_op (ev_var rfl) ev_int fx0) (ev_op (ev_var rfl) ev_int fx1) (r2_mul (mulok by_.1 bx.2 (by decide)))) r2_add) (ea_cons (ev_op (ev_op (ev_var rfl) ev_int fx1) (ev_op (ev_var rfl) ev_int fx1) (r2_mul (mulok bx.2 by_.2 (by decide)))) ea_nil)) ⟨_, _, rfl, Int.mul_ne_zero (den_ne x) (den_ne y), (bt_mul bx.2 by_.2).mono (by decide), ?_⟩)
  rw [q_add]
theorem h_less (T : Txt K mg ca fa ka) : Has P w K mg base CX0 2 "less" ["one", "other"] (spP K R_gap) := by
  refine T.d_less.pure sc_less (fun ds d h => by obtain ⟨x, y, rfl, _⟩ := h; rfl) (fun f cdv A outer s H E hr => (pss_one (ps_ret (pe_h (h_fraction T) hr (by decide) passL (pa_cons (pe_op op_sub (pe_op op_mulA (pe_ix (ixK (K := K) rfl) (pv 0) pe_int (fun _ _ => rfl)) (pe_ix (ixK (K := K) rfl) (pv 1) pe_int (fun _ _ => rfl))) (pe_op op_mulA (pe_ix (ixK (K := K) rfl) (pv 1) pe_int (fun _ _ => rfl)) (pe_ix (ixK (K := K) rfl) (pv 0) pe_int (fun _ _ => rfl)))) (pa_cons (pe_op op_mulA (pe_ix (ixK (K := K) rfl) (pv 0) pe_int (fun _ _ => rfl)) (pe_ix (ixK (K := K) rfl) (pv 1) pe_int (fun _ _ => rfl))) pa_nil)))))) ?_
  rintro ds d ⟨x, y, rfl, bx, by_, rfl⟩
  refine rt_ret (ev_callX (ea_cons (ev_op (ev_op (ev_op (ev_var rfl) ev_int fx0) (ev_op (ev_var rfl) ev_int fx1) (r2_mul (mulok bx.1 by_.2 (by decide)))) (ev_op (ev_op (ev_var rfl) ev_int fx0) (ev_op (ev_var rfl) ev_int fx1) (r2_mul (mulok by_.1 bx.2 (by decide)))) r2_sub) (ea_cons (ev_op (ev_op (ev_var rfl) ev_int fx1) (ev_op (ev_var rfl) ev_int fx1) (r2_mul (mulok bx.2 by_.2 (by decide)))) ea_nil)) ⟨_, _, rfl, Int.mul_ne_zero (den_ne x) (den_ne y), (bt_mul bx.2 by_.2).mono (by decide), ?_⟩)
  rw [q_sub]
theorem h_times (T : Txt K mg ca fa ka) : Has P w K mg base CX0 2 "times" ["one", "other"] (spP K R_prod) := by
  refine T.d_times.pure sc_times (fun ds d h => by obtain ⟨x, y, rfl, _⟩ := h; rfl) (fun f cdv A outer s H E hr => (pss_one (ps_ret (pe_h (h_fraction T) hr (by decide) passL (pa_cons (pe_op op_mulA (pe_ix (ixK (K := K) rfl) (pv 0) pe_int (fun _ _ => rfl)) (pe_ix (ixK (K := K) rfl) (pv 1) pe_int (fun _ _ => rfl))) (pa_cons (pe_op op_mulA (pe_ix (ixK (K := K) rfl) (pv 0) pe_int (fun _ _ => rfl)) (pe_ix (ixK (K := K) rfl) (pv 1) pe_int (fun _ _ => rfl))) pa_nil)))))) ?_
  rintro ds d ⟨x, y, rfl, bx, by_, rfl⟩
  refine rt_ret (ev_callX (ea_cons (ev_op (ev_op (ev_var rfl) ev_int fx0) (ev_op (ev_var rfl) ev_int fx0) (r2_mul (mulok bx.1 by_.1 (by decide)))) (ea_cons (ev_op (ev_op (ev_var rfl) ev_int fx1) (ev_op (ev_var rfl) ev_int fx1) (r2_mul (mulok bx.2 by_.2 (by decide)))) ea_nil)) ⟨_, _, rfl, Int.mul_ne_zero (den_ne x) (den_ne y), (bt_mul bx.2 by_.2).mono (by decide), ?_⟩)
  rw [q_mul]
def X_by (ca : Nat → Addr) (ds : List Dt) (c : Value) : Prop := ∃ x : Rat, ds = [fq x, fq 0] ∧ Bq 4400 x ∧ c = .ref (ca 1)
theorem h_by (T : Txt K mg ca fa ka) : Has P w K mg base (L2.CX P w) 2 "by" ["one", "other"] (spX K R_quot (X_by ca)) := by
  refine T.d_by.raises sc_by (fun ds d h => by obtain ⟨x, y, rfl, _⟩ := h; rfl) (fun ds d h => by obtain ⟨t, rfl, _⟩ := h; rfl) (fun f cdv A outer s H E hr => (pss_one (ps_ret (pe_h (h_fraction T) hr (by decide) (passC (takes_of rfl rfl rfl rfl)) (pa_cons (pe_op op_mulA (pe_ix (ixK (K := K) rfl) (pv 0) pe_int (fun _ _ => rfl)) (pe_ix (ixK (K := K) rfl) (pv 1) pe_int (fun _ _ => rfl))) (pa_cons (pe_op op_mulA (pe_ix (ixK (K := K) rfl) (pv 0) pe_int (fun _ _ => rfl)) (pe_ix (ixK (K := K) rfl) (pv 1) pe_int (fun _ _ => rfl))) pa_nil)))))) ?_ ?_
  · rintro ds d ⟨x, y, rfl, bx, by_, y0, rfl⟩
    refine rx_ret (by walk_at "ea") ⟨_, _, rfl, Int.mul_ne_zero (den_ne x) (num_ne.mpr y0), (bt_mul bx.2 by_.1).mono (by decide), ?_⟩
    rw [q_div]
  · rintro ds c ⟨x, rfl, bx, rfl⟩
    have z : Bq 4400 0 := ⟨by show Int.natAbs 0 < 2 ^ 4400; exact Nat.two_pow_pos _, Bt.mono (n := 1) (by show Int.natAbs 1 < 2 ^ 1; decide) (by decide)⟩
    refine rx_retout (by walk_at "ea") ⟨x.num * ((0 : Rat).den : Int), ?_, rfl⟩
    rw [show (0 : Rat).num = 0 from rfl, Int.mul_zero]
theorem h_is_less (T : Txt K mg ca fa ka) : Has P w K mg base CX0 1 "is_less" ["one", "other"] (spP K R_less) := by
  refine T.d_is_less.pure sc_is_less (fun ds d h => by obtain ⟨x, y, rfl, _⟩ := h; rfl) (fun f cdv A outer s H E hr => (pss_one (ps_ret (pe_cmpR op_lt (pe_op op_mulA (pe_ix (ixK (K := K) rfl) (pv 0) pe_int (fun _ _ => rfl)) (pe_ix (ixK (K := K) rfl) (pv 1) pe_int (fun _ _ => rfl))) (pe_op op_mulA (pe_ix (ixK (K := K) rfl) (pv 1) pe_int (fun _ _ => rfl)) (pe_ix (ixK (K := K) rfl) (pv 0) pe_int (fun _ _ => rfl))) (nomark _))))) ?_
  rintro ds d ⟨x, y, rfl, bx, by_, rfl⟩
  refine rt_is (rt_ret (ev_op (ev_op (ev_op (ev_var rfl) ev_int fx0) (ev_op (ev_var rfl) ev_int fx1) (r2_mul (mulok bx.1 by_.2 (by decide)))) (ev_op (ev_op (ev_var rfl) ev_int fx0) (ev_op (ev_var rfl) ev_int fx1) (r2_mul (mulok by_.1 bx.2 (by decide)))) r2_lt)) ?_
  rw [q_lt]
def R_rising (ds es : List Dt) : Prop := ∃ qs : List Rat, ds = [.lst (qs.map fq)] ∧ (∀ q ∈ qs, Bq 2900 q) ∧ DenOk qs ∧ qs.length ≤ 60 ∧ es = (rsg qs).map fq
theorem h_rising (T : Txt K mg ca fa ka) : Has P w K mg base (L2.CX P w) 2 "rising" ["ones"] (spXL K R_rising fun _ _ => False) := by
  refine T.d_rising.raisesL sc_rising (fun ds d h => by obtain ⟨_, rfl, _⟩ := h; rfl) (fun f cdv A outer s H E hr => (pss_cons (ps_set (i := 1) sc_rising.nd rfl (Or.inr rfl) pe_int) (pss_cons (ps_for (passes_of rfl) rfl (lstK (K := K) rfl (pv 0)) (pg_name (i := 2) sc_rising.nd rfl (Or.inl rfl)) (pss_one (ps_set (i := 1) sc_rising.nd rfl (Or.inr rfl) (pe_callBfun cr_lcm (by rfl) T.g_lcm (pa_cons (pv 1) (pa_cons (pe_ix (ixK (K := K) rfl) (pv 2) pe_int (fun _ _ => rfl)) pa_nil)))))) (pss_cons (ps_set (i := 3) sc_rising.nd rfl (Or.inl rfl) (pe_callB (srtK (w := w) rfl rfl) (by rfl) T.m_sorted (by decide +kernel) (pa_cons (pe_callTy (setIK (K := K) (w := w) rfl rfl rfl) (by rfl) T.m_set (by decide +kernel) (pa_cons (pe_lc (own := [("one", 2)]) (g := gName 2) (tt := tYes) rfl sc_rising.nd (lstK (K := K) rfl (pv 0)) (blkOk_by (own := [("one", 2)]) (N := ["ones", "bottom", "one", "tops", "top"]) (sc := defScope s_rising) (by decide +kernel)) (fun _ _ _ _ _ => pg_name (i := 2) sc_rising.nd rfl (Or.inl rfl)) (fun _ _ _ _ _ => pts_nil) (fun _ _ _ _ _ => (pe_op op_mulA (pe_ix (ixK (K := K) rfl) (pv 2) pe_int (fun _ _ => rfl)) (pe_op op_fdivA (pv 1) (pe_ix (ixK (K := K) rfl) (pv 2) pe_int (fun _ _ => rfl)))))) pa_nil)) pa_nil))) (pss_one (ps_ret (pe_lcX (own := [("top", 4)]) (g := gName 4) (tt := tYes) rfl rfl rfl (takes_of rfl rfl rfl rfl) sc_rising.nd (lstK (K := K) rfl (pv 3)) (blkOk_by (own := [("top", 4)]) (N := ["ones", "bottom", "one", "tops", "top"]) (sc := defScope s_rising) (by decide +kernel)) (fun _ _ _ _ _ => pg_name (i := 4) sc_rising.nd rfl (Or.inl rfl)) (fun _ _ _ _ _ => pts_nil) (fun _ _ _ _ _ => (pe_h (h_fraction T) hr (by decide) passB (pa_cons (pv 4) (pa_cons (pv 1) pa_nil))))))))))) ?_
  rintro ds es ⟨qs, rfl, hb, hm, hn, rfl⟩ E
  have hB : ∀ k ≤ qs.length, bot (qs.take k) < 2 ^ 8701 := fun k _ => bot_den hm k
  have hB9 : bot qs < 2 ^ 8701 := by
    have := hB qs.length (Nat.le_refl _)
    rwa [List.take_length] at this
  have up : ∀ {n : Nat}, n < 2 ^ 8701 → n < 2 ^ 8800 := fun h => Nat.lt_of_lt_of_le h (Nat.pow_le_pow_right (by decide) (by decide))
  have u6 : ∀ {n : Nat}, n < 2 ^ 2900 → n < 2 ^ 8800 := fun h => Nat.lt_of_lt_of_le h (Nat.pow_le_pow_right (by decide) (by decide))
  have dn : ∀ q ∈ qs, q.den < 2 ^ 2900 := fun q hq => (hb q hq).2
  refine rf_nt (nt_asg ev_int) ?_
  refine rf_nt (sl1 := [.d (.lst (qs.map fq)), .d (.int ((bot qs : Nat) : Int)), .no, .no, .no]) (nt_wkS (s1 := fun s => ∃ s2, s = [.d (.lst (qs.map fq)), .d (.int ((bot qs : Nat) : Int)), s2, .no, .no]) (jn_imp (jn_forL (fun k s _ => ∃ s2, s = [.d (.lst (qs.map fq)), .d (.int ((bot (qs.take k) : Nat) : Int)), s2, .no, .no]) (ev_var rfl) ⟨_, rfl⟩ ?_) ?_) (by rintro s ⟨s2, rfl⟩; exact by walk_at "wk")) ?_
  · rintro k d s o hd ⟨s2, rfl⟩
    rw [List.getElem?_map] at hd
    obtain ⟨q, hq, rfl⟩ := Option.map_eq_some_iff.mp hd
    have hk : k < qs.length := (List.getElem?_eq_some_iff.mp hq).1
    have h1 := hB (k + 1) hk
    rw [bot_take hq] at h1
    refine jn_end (nt_asg (ev_cb (ea_cons (ev_var rfl) (ea_cons (ev_op (ev_var rfl) ev_int (by exact fx1)) ea_nil)) (rc_lcm (up (hB k (by omega))) (u6 (dn q (List.mem_of_getElem? hq))) (up h1)))) ⟨.d (fq q), ?_⟩
    rw [bot_take hq]
    rfl
  · rintro s o ⟨s2, rfl⟩
    rw [show (qs.map fq).length = qs.length from List.length_map .., List.take_length]
    exact ⟨_, rfl⟩
  have b0 := bot_pos qs
  have fin := rising_is qs
  generalize bot qs = B at *
  refine rf_nt (sl1 := [.d (.lst (qs.map fq)), .d (.int ((B : Nat) : Int)), .no, .d (.lst ((srtI (qs.map (topB B))).map Dt.int)), .no]) (nt_asg (ev_ef (ef_srt (ns := qs.map (topB B)) (ev_is (ev_lc (fun d => match d with | .tup [.int a, .int b] => .int (a * ((B / b.toNat : Nat) : Int)) | _ => .non) (ds := qs.map fq) (ev_var rfl) (by rw [List.length_map]; omega) (fun d hd => ?_)) ?_) (by rw [List.length_map]; omega)))) ?_
  · obtain ⟨q, hq, rfl⟩ := List.mem_map.mp hd
    have hb1 : Bt 8702 ((B / q.den : Nat) : Int) := by
      show ((B / q.den : Nat) : Int).natAbs < _
      exact Nat.lt_of_le_of_lt (Nat.div_le_self _ _) (Nat.lt_of_lt_of_le hB9 (Nat.pow_le_pow_right (by decide) (by decide)))
    have dd : CDivA ((B : Nat) : Int) ((q.den : Nat) : Int) := divok (by have := q.den_pos; omega) ((hb q hq).2) (by decide)
    have e : ((B : Nat) : Int).fdiv ((q.den : Nat) : Int) = ((B / q.den : Nat) : Int) := by
      rw [Int.fdiv_eq_ediv_of_nonneg _ (by omega)]
      rfl
    exact ev_op (ev_op (ev_var rfl) ev_int (by exact fx0)) (ev_is (ev_op (ev_var rfl) (ev_op (ev_var rfl) ev_int (by exact fx1)) (r2_div dd)) (congrArg Dt.int e)) (r2_mul (mulok (hb q hq).1 hb1 (by decide)))
  · rw [List.map_map, List.map_map]
    rfl
  refine rf_ret (ef_is (ef_lcP (es := ((srtI (qs.map (topB B))).map fun t : Int => fq ((t : Rat) / ((B : Int) : Rat)))) (by rw [List.length_map, List.length_map]) (ev_var rfl) ?_ (fun k d e hd he => ?_)) ?_)
  · have := srtI_len (qs.map (topB B))
    rw [List.length_map] at this
    rw [List.length_map]
    omega
  · rw [List.getElem?_map] at hd he
    cases ht : (srtI (qs.map (topB B)))[k]? with
    | none => rw [ht] at hd; cases hd
    | some t =>
      rw [ht] at hd he
      cases hd
      cases he
      exact ev_callX (by walk_at "ea") (by exact ⟨t, (B : Int), rfl, by omega, by show ((B : Nat) : Int).natAbs < 2 ^ 9000; exact Nat.lt_of_lt_of_le hB9 (Nat.pow_le_pow_right (by decide) (by decide)), rfl⟩)
  · rw [← fin, List.map_map]
    rfl
def R_root_of (ds : List Dt) (d : Dt) : Prop := ∃ x : Rat, ds = [fq x] ∧ Bq 4000 x ∧ d = rootD x
theorem h_root_of (T : Txt K mg ca fa ka) : Has P w K mg base CX0 1 "root_of" ["one"] (spP K R_root_of) := by
  refine T.d_root_of.pure sc_root_of (fun ds d h => by obtain ⟨x, rfl, _⟩ := h; rfl) (fun f cdv A outer s H E hr => (pss_cons (ps_if (pt_cmpR op_lt (pe_ix (ixK (K := K) rfl) (pv 0) pe_int (fun _ _ => rfl)) pe_int (nomark _)) (pss_one (ps_ret pe_non)) pss_nil) (pss_cons (ps_set (i := 1) sc_root_of.nd rfl (Or.inl rfl) (pe_callBfun cr_isqrt (by rfl) T.g_isqrt (pa_cons (pe_ix (ixK (K := K) rfl) (pv 0) pe_int (fun _ _ => rfl)) pa_nil))) (pss_cons (ps_set (i := 2) sc_root_of.nd rfl (Or.inl rfl) (pe_callBfun cr_isqrt (by rfl) T.g_isqrt (pa_cons (pe_ix (ixK (K := K) rfl) (pv 0) pe_int (fun _ _ => rfl)) pa_nil))) (pss_cons (ps_if (PW.pt (pw_or (pt_cmpR (neK (K := K) rfl hr.units) (pe_op op_mulA (pv 1) (pv 1)) (pe_ix (ixK (K := K) rfl) (pv 0) pe_int (fun _ _ => rfl)) (nomark _)) (pw_or1 (pt_cmpR (neK (K := K) rfl hr.units) (pe_op op_mulA (pv 2) (pv 2)) (pe_ix (ixK (K := K) rfl) (pv 0) pe_int (fun _ _ => rfl)) (nomark _))))) (pss_one (ps_ret pe_non)) pss_nil) (pss_one (ps_ret (pe_tup (pa_cons (pv 1) (pa_cons (pv 2) pa_nil)))))))))) ?_
  rintro ds d ⟨x, rfl, ⟨bn, bd⟩, rfl⟩
  refine rt_cond (et_test (ev_op (ev_op (ev_var rfl) ev_int fx0) ev_int r2_lt)) (fun hb => ?_) (fun hb => ?_)
  · refine rt_is (rt_ret ev_non) ?_
    unfold rootD
    rw [if_pos (of_decide_eq_true hb)]
  · have h0 : ¬ x.num < 0 := of_decide_eq_false hb
    have hn : ((x.num.toNat : Nat) : Int) = x.num := Int.toNat_of_nonneg (by omega)
    have l1 : x.num.toNat.log2 < 13000 := by
      have := log2_of bn (by decide)
      rw [show x.num.toNat = x.num.natAbs by omega]
      omega
    have l2 : (x.den : Int).toNat.log2 < 13000 := by
      have := log2_of bd (by decide)
      rw [Int.natAbs_natCast] at this
      rw [Int.toNat_natCast]
      omega
    refine rt_seq (nt_asg (ev_cb (ea_cons (ev_op (ev_var rfl) ev_int fx0) ea_nil) (rc_isqrt (by omega) l1))) (rt_seq (nt_asg (ev_cb (ea_cons (ev_op (ev_var rfl) ev_int fx1) ea_nil) (rc_isqrt (by omega) l2))) ?_)
    have b1 : Bt 4000 (sq x.num.toNat : Int) := bt_sq (by rw [hn]; exact bn)
    have b2 : Bt 4000 (sq x.den : Int) := bt_sq bd
    refine rt_cond (et_or (et_test (ev_op (ev_op (ev_var rfl) (ev_var rfl) (r2_mul (mulok b1 b1 (by decide)))) (ev_op (ev_var rfl) ev_int fx0) r2_neI)) (fun _ => et_test (ev_op (ev_op (ev_var rfl) (ev_var rfl) (r2_mul (mulok (by exact b2) (by exact b2) (by decide)))) (ev_op (ev_var rfl) ev_int fx1) r2_neI))) (fun hb => ?_) (fun hb => ?_)
    · refine rt_is (rt_ret ev_non) ?_
      unfold rootD
      rw [if_neg h0, if_neg ?_]
      rintro ⟨e1, e2⟩
      have a1 : (sq x.num.toNat : Int) * (sq x.num.toNat : Int) = x.num := by rw [← Int.natCast_mul, e1, hn]
      have a2 : (sq x.den : Int) * (sq x.den : Int) = (x.den : Int) := by rw [← Int.natCast_mul, e2]
      change (!((sq x.num.toNat : Int) * (sq x.num.toNat : Int) == x.num) || !((sq x.den : Int) * (sq x.den : Int) == (x.den : Int))) = true at hb
      rw [a1, a2] at hb
      simp at hb
    · refine rt_is (rt_ret (ev_tup (ea_cons (ev_var rfl) (ea_cons (ev_var rfl) ea_nil)))) ?_
      change (!((sq x.num.toNat : Int) * (sq x.num.toNat : Int) == x.num) || !((sq x.den : Int) * (sq x.den : Int) == (x.den : Int))) = false at hb
      rw [Bool.or_eq_false_iff, Bool.not_eq_false', Bool.not_eq_false', beq_iff_eq, beq_iff_eq] at hb
      unfold rootD
      rw [if_neg h0, if_pos]
      · rfl
      · refine ⟨?_, ?_⟩
        · have := hb.1
          rw [← Int.natCast_mul] at this
          omega
        · have := hb.2
          rw [← Int.natCast_mul] at this
          omega
def R_hp (ds : List Dt) (d : Dt) : Prop := ∃ x : Dt, ds = [x] ∧ d = .bl (isHp x)
theorem h_is_hap (T : Txt K mg ca fa ka) : Has P w K mg base CX0 3 "is_hap" ["thing"] (spP K R_hp) := by
  refine T.d_is_hap.pure sc_is_hap (fun ds d h => by obtain ⟨x, rfl, _⟩ := h; rfl) (fun f cdv A outer s H E hr => (pss_one (ps_ret (pe_and (pe_callB (isiK (K := K) rfl) (by rfl) T.m_isinstance (by decide +kernel) (pa_cons (pv 0) (pa_cons (pe_bltn (v := .ty "tuple") (by rfl) T.m_tuple (by decide +kernel) rfl) pa_nil))) (pe_and (pe_cmpR (eqK (K := K) rfl hr.units) (pe_callB (lenK (K := K) rfl) (by rfl) T.m_len (by decide +kernel) (pa_cons (pv 0) pa_nil)) pe_int (nomark _)) (pe_and (pe_h (h_is_fraction T) hr (by decide) pass0 (pa_cons (pe_ix (ixK (K := K) rfl) (pv 0) pe_int (fun _ _ => rfl)) pa_nil)) (pe_one (pe_h (h_is_fraction T) hr (by decide) pass0 (pa_cons (pe_ix (ixK (K := K) rfl) (pv 0) pe_int (fun _ _ => rfl)) pa_nil))))))))) ?_
  rintro ds d ⟨x, rfl, rfl⟩
  obtain ⟨c, hc, hiff⟩ := kb_tup x
  by_cases h : ∃ ds, x = .tup ds
  · obtain ⟨ds, rfl⟩ := h
    have c1 : c = true := hiff.mpr ⟨ds, rfl⟩
    subst c1
    by_cases hl : ds.length = 2
    · obtain ⟨a, b, rfl⟩ := two_of hl
      exact rt_is (rt_ret (ev_andV (ev_isi (ev_var rfl) hc) (fun _ => ev_andV (ev_op (ev_cb (ea_cons (ev_var rfl) ea_nil) rc_lenT) ev_int r2_eqI) (fun _ => ev_andV (ev_call (ea_cons (ev_op (ev_var rfl) ev_int ix0) ea_nil) (by exact ⟨_, rfl, rfl⟩)) (fun _ => ev_call (ea_cons (ev_op (ev_var rfl) ev_int ix1) ea_nil) (by exact ⟨_, rfl, rfl⟩)))))) rfl
    · rw [isHp_len hl]
      exact rt_is (rt_ret (ev_andV (ev_isi (ev_var rfl) hc) (fun _ => ev_andV (a := false) (b := false) (ev_is (ev_op (ev_cb (ea_cons (ev_var rfl) ea_nil) rc_lenT) ev_int r2_eqI) (by rw [beq_eq_false_iff_ne.mpr (show ¬ (ds.length : Int) = 2 by omega)])) (fun h => by cases h)))) rfl
  · have c0 : c = false := by
      cases c with
      | false => rfl
      | true => exact absurd (hiff.mp rfl) h
    subst c0
    have e : isHp x = false := by
      cases x <;> first | rfl | exact absurd ⟨_, rfl⟩ h
    rw [e]
    exact rt_is (rt_ret (ev_andV (b := false) (ev_isi (ev_var rfl) hc) (fun h => by cases h))) rfl
def R_areh (ds : List Dt) (d : Dt) : Prop := ∃ (x : Dt) (m : Int), ds = [x, .int m] ∧ m < 64 ∧ d = .bl (areH x m)
theorem h_are_haps (T : Txt K mg ca fa ka) : Has P w K mg base CX0 4 "are_haps" ["thing", "most"] (spP K R_areh) := by
  refine T.d_are_haps.pure sc_are_haps (fun ds d h => by obtain ⟨x, m, rfl, _⟩ := h; rfl) (fun f cdv A outer s H E hr => (pss_cons (ps_if (PW.pt (pw_or (pt_not (pt_val (pe_callB (isiK (K := K) rfl) (by rfl) T.m_isinstance (by decide +kernel) (pa_cons (pv 0) (pa_cons (pe_bltn (v := .ty "list") (by rfl) T.m_list (by decide +kernel) rfl) pa_nil))))) (pw_or1 (pt_not (pt_chain op_le op_le pe_int (pe_callB (lenK (K := K) rfl) (by rfl) T.m_len (by decide +kernel) (pa_cons (pv 0) pa_nil)) (pv 1)))))) (pss_one (ps_ret pe_bl)) pss_nil) (pss_one (ps_ret (pe_and (pe_callB (allK (K := K) rfl rfl) (by rfl) T.m_all (by decide +kernel) (pa_cons (pe_lc (own := [("hap", 2)]) (g := gName 2) (tt := tYes) rfl sc_are_haps.nd (lstK (K := K) rfl (pv 0)) (blkOk_by (own := [("hap", 2)]) (N := ["thing", "most", "hap"]) (sc := defScope s_are_haps) (by decide +kernel)) (fun _ _ _ _ _ => pg_name (i := 2) sc_are_haps.nd rfl (Or.inl rfl)) (fun _ _ _ _ _ => pts_nil) (fun _ _ _ _ _ => (pe_h (h_is_hap T) hr (by decide) pass0 (pa_cons (pv 2) pa_nil)))) pa_nil)) (pe_one (pe_cmpR (eqK (K := K) rfl hr.units) (unlK (K := K) rfl rfl hr.units (by rfl) T.m_len (by rfl) T.m_set (pv 0)) (pe_callB (lenK (K := K) rfl) (by rfl) T.m_len (by decide +kernel) (pa_cons (pv 0) pa_nil)) (nomark _)))))))) ?_
  rintro ds d ⟨x, m, rfl, hm, rfl⟩
  obtain ⟨c, hc, hiff⟩ := kb_lst x
  by_cases h : ∃ ds, x = .lst ds
  · obtain ⟨ds, rfl⟩ := h
    have c1 : c = true := hiff.mpr ⟨ds, rfl⟩
    subst c1
    have ln : ∀ {j : Nat} {sl : List Sl}, sl[j]? = some (.d (.lst ds)) → Ev K (tCB (rLenS K) (tCons (tVar j) tNil)) sl (.int ds.length) := fun e => ev_cb (ea_cons (ev_var e) ea_nil) rc_lenL
    by_cases hl : 1 ≤ (ds.length : Int) ∧ (ds.length : Int) ≤ m
    · refine rt_no (et_or (et_not (et_B (ev_isi (ev_var rfl) hc))) (fun _ => et_not (et_chain ev_int (ln rfl) r2_le (fun _ => ev_var rfl) (fun _ => r2_le)))) (by rw [decide_eq_true hl.1, decide_eq_true hl.2]; rfl) ?_
      refine rt_is (rt_ret (ev_andV (a := ds.all isHp) (b := ((unl (ds.map nkOf)).length : Int) == ds.length) (ev_is (ev_cb (ea_cons (ev_is (ev_lc (fun d => .bl (isHp d)) (ev_var rfl) (by omega) (fun d _ => ev_call (ea_cons (ev_var rfl) ea_nil) (by exact ⟨d, rfl, rfl⟩))) (show _ = Dt.lst ((ds.map isHp).map Dt.bl) by rw [List.map_map]; rfl)) ea_nil) rc_all) ?_) (fun ha => ?_))) ?_
      · rw [List.all_map]; rfl
      · exact ev_op (ev_lenSetN (ev_var rfl) (fun d hd => hapD_of (List.all_eq_true.mp ha d hd)) (by omega)) (ln rfl) r2_eqI
      · rw [areH_lst, decide_eq_true hl, Bool.true_and]
    · refine rt_yes (et_or (et_not (et_B (ev_isi (ev_var rfl) hc))) (fun _ => et_not (et_chain ev_int (ln rfl) r2_le (fun _ => ev_var rfl) (fun _ => r2_le)))) ?_ (rt_is (rt_ret ev_bl) ?_)
      · rw [← Bool.decide_and, decide_eq_false hl]; rfl
      · rw [areH_lst, decide_eq_false hl, Bool.false_and]
  · have c0 : c = false := by
      cases c with
      | false => rfl
      | true => exact absurd (hiff.mp rfl) h
    subst c0
    exact rt_yes (et_or (b := true) (et_not (et_B (ev_isi (ev_var rfl) hc))) (fun h => by cases h)) rfl (rt_is (rt_ret ev_bl) (by rw [areH_no h]))
def R_check_haps (ds : List Dt) (d : Dt) : Prop := ∃ (x : Dt) (m : Int), ds = [x, .int m] ∧ m < 64 ∧ areH x m = true ∧ d = .non
def X_check_haps (ca : Nat → Addr) (ds : List Dt) (c : Value) : Prop := ∃ (x : Dt) (m : Int), ds = [x, .int m] ∧ m < 64 ∧ areH x m = false ∧ c = .ref (ca 8)
theorem h_check_haps (T : Txt K mg ca fa ka) : Has P w K mg base (L2.CX P w) 5 "check_haps" ["thing", "most"] (spX K R_check_haps (X_check_haps ca)) := by
  refine T.d_check_haps.raises sc_check_haps (fun ds d h => by obtain ⟨t, m, rfl, _⟩ := h; rfl) (fun ds d h => by obtain ⟨t, m, rfl, _⟩ := h; rfl) (fun f cdv A outer s H E hr => (pss_one (ps_if (pt_not (pt_val (pe_h (h_are_haps T) hr (by decide) pass0 (pa_cons (pv 0) (pa_cons (pv 1) pa_nil))))) (pss_one (ps_raise rfl (takes_of rfl rfl rfl rfl) (pmk_own PySem.F.excBase_ValueError T.x_NoHaps.x T.x_NoHaps.g T.x_NoHaps.k (raises_own T.x_NoHaps.b T.x_NoHaps.t) (by exact rfl)))) pss_nil))) ?_ ?_
  · rintro ds d ⟨x, m, rfl, hz, h, rfl⟩
    exact rx_no1 (et_not (et_B (ev_call (ea_cons (ev_var rfl) (ea_cons (ev_var rfl) ea_nil)) (by exact ⟨x, m, rfl, hz, rfl⟩)))) (by rw [h]; rfl)
  · rintro ds c ⟨x, m, rfl, hz, h, rfl⟩
    exact rx_raise1 (et_not (et_B (ev_call (ea_cons (ev_var rfl) (ea_cons (ev_var rfl) ea_nil)) (by exact ⟨x, m, rfl, hz, rfl⟩)))) (by rw [h]; rfl)
def R_is_speed (ds : List Dt) (d : Dt) : Prop := ∃ x : Dt, ds = [x] ∧ d = .bl (isSpD x)
theorem h_is_speed (T : Txt K mg ca fa ka) : Has P w K mg base CX0 3 "is_speed" ["thing"] (spP K R_is_speed) := by
  refine T.d_is_speed.pure sc_is_speed (fun ds d h => by obtain ⟨x, rfl, _⟩ := h; rfl) (fun f cdv A outer s H E hr => (pss_one (ps_ret (pe_and (pe_h (h_is_fraction T) hr (by decide) pass0 (pa_cons (pv 0) pa_nil)) (pe_one (pe_cmpR op_lt (pe_callB cr_abs (by rfl) T.m_abs (by decide +kernel) (pa_cons (pe_ix (ixK (K := K) rfl) (pv 0) pe_int (fun _ _ => rfl)) pa_nil)) (pe_ix (ixK (K := K) rfl) (pv 0) pe_int (fun _ _ => rfl)) (nomark _))))))) ?_
  rintro ds d ⟨x, rfl, rfl⟩
  refine rt_is (rt_ret (ev_andV (b := isSpD x) (ev_call (ea_cons (ev_var rfl) ea_nil) (by exact ⟨x, rfl, rfl⟩)) (fun h => ?_))) ?_
  · obtain ⟨q, rfl⟩ := isFr_iff.mp h
    refine ev_is (ev_op (ev_cb (ea_cons (ev_op (ev_var rfl) ev_int fx0) ea_nil) rc_abs) (ev_op (ev_var rfl) ev_int fx1) r2_lt) ?_
    rw [isSpD_fq]
  · rw [← isSpD_and]
def X_chk (ca : Nat → Addr) (ds : List Dt) (c : Value) : Prop := ∃ x : Dt, ds = [x] ∧ isSpD x = false ∧ c = .ref (ca 4)
def R_chk (ds : List Dt) (d : Dt) : Prop := ∃ x : Dt, ds = [x] ∧ isSpD x = true ∧ d = .non
def X_sp (ca : Nat → Addr) (ds : List Dt) (c : Value) : Prop := ∃ x y : Dt, ds = [x, y] ∧ (isSpD x && isSpD y) = false ∧ c = .ref (ca 4)
theorem h_check_speed (T : Txt K mg ca fa ka) : Has P w K mg base (L2.CX P w) 4 "check_speed" ["thing"] (spX K R_chk (X_chk ca)) := by
  refine T.d_check_speed.raises sc_check_speed (fun ds d h => by obtain ⟨t, rfl, _⟩ := h; rfl) (fun ds d h => by obtain ⟨t, rfl, _⟩ := h; rfl) (fun f cdv A outer s H E hr => (pss_one (ps_if (pt_not (pt_val (pe_h (h_is_speed T) hr (by decide) pass0 (pa_cons (pv 0) pa_nil)))) (pss_one (ps_raise rfl (takes_of rfl rfl rfl rfl) (pmk_own PySem.F.excBase_ValueError T.x_NoSpeed.x T.x_NoSpeed.g T.x_NoSpeed.k (raises_own T.x_NoSpeed.b T.x_NoSpeed.t) (by exact rfl)))) pss_nil))) ?_ ?_
  · rintro ds d ⟨x, rfl, h, rfl⟩
    exact rx_no1 (et_not (et_B (ev_call (ea_cons (ev_var rfl) ea_nil) (by exact ⟨x, rfl, rfl⟩)))) (by rw [h]; rfl)
  · rintro ds c ⟨x, rfl, h, rfl⟩
    exact rx_raise1 (et_not (et_B (ev_call (ea_cons (ev_var rfl) ea_nil) (by exact ⟨x, rfl, rfl⟩)))) (by rw [h]; rfl)
theorem h_together (T : Txt K mg ca fa ka) : Has P w K mg base (L2.CX P w) 5 "together" ["one", "other"] (spX K R_tog (X_sp ca)) := by
  refine T.d_together.raises sc_together (fun ds d h => by obtain ⟨x, y, rfl, _⟩ := h; rfl) (fun ds d h => by obtain ⟨x, y, rfl, _⟩ := h; rfl) (fun f cdv A outer s H E hr => (pss_cons (ps_expr (pe_h (h_check_speed T) hr (by decide) (passC (takes_of rfl rfl rfl rfl)) (pa_cons (pv 0) pa_nil))) (pss_cons (ps_expr (pe_h (h_check_speed T) hr (by decide) (passC (takes_of rfl rfl rfl rfl)) (pa_cons (pv 1) pa_nil))) (pss_one (ps_ret (pe_h (h_by T) hr (by decide) (passC (takes_of rfl rfl rfl rfl)) (pa_cons (pe_h (h_plus T) hr (by decide) pass0 (pa_cons (pv 0) (pa_cons (pv 1) pa_nil))) (pa_cons (pe_h (h_plus T) hr (by decide) pass0 (pa_cons (pe_glob (v := .ref (ka 5)) (by rfl) T.v_ONE rfl) (pa_cons (pe_h (h_times T) hr (by decide) pass0 (pa_cons (pv 0) (pa_cons (pv 1) pa_nil))) pa_nil))) pa_nil)))))))) ?_ ?_
  · rintro ds d ⟨x, y, rfl, sx, sy, ⟨n, m, bx, by_, hnm⟩, rfl⟩
    have bx4 : Bq 4400 x := bx.mono (by omega)
    have by4 : Bq 4400 y := by_.mono (by omega)
    have bs : Bq 4400 (x + y) := (bq_add bx by_).mono (by omega)
    have bp : Bq 4400 (x * y) := (bq_mul bx by_).mono (by omega)
    have bq : Bq 4400 (1 + x * y) := (bq_add bq_one (bq_mul bx by_)).mono (by omega)
    clear bx by_
    have n0 := sp_ne sx sy
    rw [jn_def]
    refine rx_ok (by walk_at "ea") ⟨_, rfl, isSpD_of sx, rfl⟩ (rx_ok (by walk_at "ea") ⟨_, rfl, isSpD_of sy, rfl⟩ (rx_ret (ea_cons (by walk_at "ev") (ea_cons (by walk_at "ev") ea_nil)) (quot_ok bs bq n0)))
  · rintro ds c ⟨x, y, rfl, h, rfl⟩
    by_cases hx : isSpD x = true
    · refine rx_ok (by walk_at "ea") ⟨_, rfl, hx, rfl⟩ (rx_out (by walk_at "ea") ⟨_, rfl, ?_, rfl⟩)
      rw [hx] at h
      exact h
    · exact rx_out (by walk_at "ea") ⟨_, rfl, by simpa using hx, rfl⟩
def R_beatN (ds : List Dt) (d : Dt) : Prop := ∃ x : Rat, ds = [fq x] ∧ Bq 1990 x ∧ d = beatD x
theorem h_beat_or_none (T : Txt K mg ca fa ka) : Has P w K mg base CX0 3 "beat_or_none" ["speed"] (spP K R_beatN) := by
  refine T.d_beat_or_none.pure sc_beat_or_none (fun ds d h => by obtain ⟨x, rfl, _⟩ := h; rfl) (fun f cdv A outer s H E hr => (pss_one (ps_ret (pe_h (h_root_of T) hr (by decide) pass0 (pa_cons (pe_h (h_less T) hr (by decide) pass0 (pa_cons (pe_glob (v := .ref (ka 5)) (by rfl) T.v_ONE rfl) (pa_cons (pe_h (h_times T) hr (by decide) pass0 (pa_cons (pv 0) (pa_cons (pv 0) pa_nil))) pa_nil))) pa_nil))))) ?_
  rintro ds d ⟨x, rfl, bx, rfl⟩
  have e1 : (Dt.tup [.int 1, .int 1]) = fq 1 := rfl
  exact rt_ret (ev_call (ea_cons (ev_call (ea_cons (ev_ONE T) (ea_cons (ev_call (by walk_at "ea") (by walk_at "rok")) ea_nil)) (by walk_at "rok")) ea_nil) (by exact ⟨_, rfl, (bq_low bx).mono (by decide), rfl⟩))
def R_is_plain (ds : List Dt) (d : Dt) : Prop := ∃ x : Rat, ds = [fq x] ∧ Sp x ∧ Bq 1990 x ∧ d = .bl (!isNon (beatD x))
def X_is_plain (ca : Nat → Addr) (ds : List Dt) (c : Value) : Prop := ∃ a : Dt, ds = [a] ∧ isSpD a = false ∧ c = .ref (ca 4)
theorem h_is_plain (T : Txt K mg ca fa ka) : Has P w K mg base (L2.CX P w) 5 "is_plain" ["speed"] (spX K R_is_plain (X_is_plain ca)) := by
  refine T.d_is_plain.raises sc_is_plain (fun ds d h => by obtain ⟨x, rfl, _⟩ := h; rfl) (fun ds d h => by obtain ⟨x, rfl, _⟩ := h; rfl) (fun f cdv A outer s H E hr => (pss_cons (ps_expr (pe_h (h_check_speed T) hr (by decide) (passC (takes_of rfl rfl rfl rfl)) (pa_cons (pv 0) pa_nil))) (pss_one (ps_ret (pe_cmpR op_notN1 (pe_h (h_beat_or_none T) hr (by decide) pass0 (pa_cons (pv 0) pa_nil)) pe_non (nomark _)))))) ?_ ?_
  · rintro ds d ⟨x, rfl, sx, bx, rfl⟩
    exact rx_ok (by walk_at "ea") ⟨_, rfl, isSpD_of sx, rfl⟩ (rx_rt (rt_ret (ev_op (ev_call (by walk_at "ea") (by exact ⟨x, rfl, bx.mono (by decide), rfl⟩)) ev_non r2_notN)))
  · rintro ds c ⟨a, rfl, h, rfl⟩
    exact rx_out (by walk_at "ea") ⟨_, rfl, h, rfl⟩
def R_chkp (ds : List Dt) (d : Dt) : Prop := ∃ x b : Rat, ds = [fq x] ∧ Sp x ∧ Bq 1990 x ∧ 0 < b ∧ b * b = 1 - x * x ∧ d = .non
def X_beat_of (ca : Nat → Addr) (ds : List Dt) (c : Value) : Prop := ∃ a : Dt, ds = [a] ∧ ((isSpD a = false ∧ c = .ref (ca 4)) ∨ (∃ x : Rat, a = fq x ∧ Sp x ∧ Bq 1990 x ∧ beatD x = .non ∧ c = .ref (ca 6)))
theorem h_check_plain (T : Txt K mg ca fa ka) : Has P w K mg base (L2.CX P w) 6 "check_plain" ["speed"] (spX K R_chkp (X_beat_of ca)) := by
  refine T.d_check_plain.raises sc_check_plain (fun ds d h => by obtain ⟨x, b, rfl, _⟩ := h; rfl) (fun ds d h => by obtain ⟨x, rfl, _⟩ := h; rfl) (fun f cdv A outer s H E hr => (pss_one (ps_if (pt_not (pt_val (pe_h (h_is_plain T) hr (by decide) (passC (takes_of rfl rfl rfl rfl)) (pa_cons (pv 0) pa_nil)))) (pss_one (ps_raise rfl (takes_of rfl rfl rfl rfl) (pmk_own PySem.F.excBase_ValueError T.x_NotPlain.x T.x_NotPlain.g T.x_NotPlain.k (raises_own T.x_NotPlain.b T.x_NotPlain.t) (by exact rfl)))) pss_nil))) ?_ ?_
  · rintro ds d ⟨x, b, rfl, sx, bx, b0, e, rfl⟩
    exact rx_no1E (fun E => et_not (et_B (ev_callX (by walk_at "ea") (by exact ⟨x, rfl, sx, bx, rfl⟩)))) (by rw [beatD_of b0 e]; rfl)
  · rintro ds c ⟨a, rfl, ⟨h, rfl⟩ | ⟨x, rfl, sx, bx, h, rfl⟩⟩
    · exact rx_if1X (evxt_notB (evx_call (fun E => by walk_at "ea") (by exact ⟨_, rfl, h, rfl⟩)))
    · exact rx_raise1E (fun E => et_not (et_B (ev_callX (by walk_at "ea") (by exact ⟨x, rfl, sx, bx, rfl⟩)))) (by rw [h]; rfl)
def R_beat_of (ds : List Dt) (d : Dt) : Prop := ∃ x b : Rat, ds = [fq x] ∧ Sp x ∧ Bq 1990 x ∧ 0 < b ∧ b * b = 1 - x * x ∧ d = fq b
theorem h_beat_of (T : Txt K mg ca fa ka) : Has P w K mg base (L2.CX P w) 7 "beat_of" ["speed"] (spX K R_beat_of (X_beat_of ca)) := by
  refine T.d_beat_of.raises sc_beat_of (fun ds d h => by obtain ⟨x, b, rfl, _⟩ := h; rfl) (fun ds d h => by obtain ⟨x, rfl, _⟩ := h; rfl) (fun f cdv A outer s H E hr => (pss_cons (ps_expr (pe_h (h_check_plain T) hr (by decide) (passC (takes_of rfl rfl rfl rfl)) (pa_cons (pv 0) pa_nil))) (pss_one (ps_ret (pe_h (h_beat_or_none T) hr (by decide) pass0 (pa_cons (pv 0) pa_nil)))))) ?_ ?_
  · rintro ds d ⟨x, b, rfl, sx, bx, b0, e, rfl⟩
    exact rx_ok (by walk_at "ea") ⟨x, b, rfl, sx, bx, b0, e, rfl⟩ (rx_rt (rt_is (rt_ret (ev_call (by walk_at "ea") (by exact ⟨x, rfl, bx.mono (by decide), rfl⟩))) (beatD_of b0 e)))
  · rintro ds c ⟨a, rfl, h⟩
    exact rx_out (by walk_at "ea") ⟨a, rfl, h⟩
theorem h_lapse_and_gap (T : Txt K mg ca fa ka) : Has P w K mg base CX0 3 "lapse_and_gap" ["one", "other"] (spP K R_lagV) := by
  have j0 : ∀ {t p : Rat}, R2D K (rIx K) (hapD t p) (.int 0) (fq t) := ix0
  have j1 : ∀ {t p : Rat}, R2D K (rIx K) (hapD t p) (.int 1) (fq p) := ix1
  refine T.d_lapse_and_gap.pure sc_lapse_and_gap (fun ds d h => by obtain ⟨_, _, _, _, rfl, _⟩ := h; rfl) (fun f cdv A outer s H E hr => (pss_one (ps_ret (pe_tup (pa_cons (pe_h (h_less T) hr (by decide) pass0 (pa_cons (pe_ix (ixK (K := K) rfl) (pv 1) pe_int (fun _ _ => rfl)) (pa_cons (pe_ix (ixK (K := K) rfl) (pv 0) pe_int (fun _ _ => rfl)) pa_nil))) (pa_cons (pe_h (h_less T) hr (by decide) pass0 (pa_cons (pe_ix (ixK (K := K) rfl) (pv 1) pe_int (fun _ _ => rfl)) (pa_cons (pe_ix (ixK (K := K) rfl) (pv 0) pe_int (fun _ _ => rfl)) pa_nil))) pa_nil)))))) ?_
  rintro ds d ⟨a, b, c, e, rfl, ba, bb, bc, be, rfl⟩
  exact rt_ret (ev_tup (ea_cons (ev_call (ea_cons (ev_op (ev_var rfl) ev_int j0) (ea_cons (ev_op (ev_var rfl) ev_int j0) ea_nil)) (by exact gap_ok (bc.mono (by decide)) (ba.mono (by decide)))) (ea_cons (ev_call (ea_cons (ev_op (ev_var rfl) ev_int j1) (ea_cons (ev_op (ev_var rfl) ev_int j1) ea_nil)) (by exact gap_ok (be.mono (by decide)) (bb.mono (by decide)))) ea_nil)) (by exact Nat.le_of_ble_eq_true rfl))
theorem h_kind_of (T : Txt K mg ca fa ka) : Has P w K mg base CX0 4 "kind_of" ["one", "other"] (spP K R_kindV) := by
  have j0 : ∀ {t p : Rat}, R2D K (rIx K) (hapD t p) (.int 0) (fq t) := ix0
  have j1 : ∀ {t p : Rat}, R2D K (rIx K) (hapD t p) (.int 1) (fq p) := ix1
  refine T.d_kind_of.pure sc_kind_of (fun ds d h => by obtain ⟨_, _, _, _, rfl, _⟩ := h; rfl) (fun f cdv A outer s H E hr => (pss_cons (ps_if (pt_cmpR (eqK (K := K) rfl hr.units) (pv 0) (pv 1) (nomark _)) (pss_one (ps_ret pe_str)) pss_nil) (pss_cons (ps_asg (pe_h (h_lapse_and_gap T) hr (by decide) pass0 (pa_cons (pv 0) (pa_cons (pv 1) pa_nil))) (tupK (K := K) (n := 2) rfl rfl (pgs_cons (pg_name (i := 2) sc_kind_of.nd rfl (Or.inl rfl)) (pgs_cons (pg_name (i := 3) sc_kind_of.nd rfl (Or.inl rfl)) pgs_nil)))) (pss_cons (ps_set (i := 4) sc_kind_of.nd rfl (Or.inl rfl) (pe_tup (pa_cons (pe_callB cr_abs (by rfl) T.m_abs (by decide +kernel) (pa_cons (pe_ix (ixK (K := K) rfl) (pv 3) pe_int (fun _ _ => rfl)) pa_nil)) (pa_cons (pe_ix (ixK (K := K) rfl) (pv 3) pe_int (fun _ _ => rfl)) pa_nil)))) (pss_cons (ps_if (pt_not (pt_val (pe_h (h_is_less T) hr (by decide) pass0 (pa_cons (pv 2) (pa_cons (pv 4) pa_nil))))) (pss_one (ps_ret pe_str)) pss_nil) (pss_cons (ps_if (pt_not (pt_val (pe_h (h_is_less T) hr (by decide) pass0 (pa_cons (pe_h (h_less T) hr (by decide) pass0 (pa_cons (pe_glob (v := .ref (ka 4)) (by rfl) T.v_NOUGHT rfl) (pa_cons (pv 2) pa_nil))) (pa_cons (pv 4) pa_nil))))) (pss_one (ps_ret pe_str)) pss_nil) (pss_one (ps_ret pe_str)))))))) ?_
  rintro ds d ⟨a, b, c, e, rfl, ba, bb, bc, be, rfl⟩
  have q1 : Bq 3801 (c - a) := bq_sub bc ba
  have q2 : Bq 3801 (e - b) := bq_sub be bb
  have lg : R_lagV [hapD a b, hapD c e] (hapD (c - a) (e - b)) := ⟨a, b, c, e, rfl, ba, bb, bc, be, rfl⟩
  refine rt_cond (et_test (ev_op (ev_var rfl) (ev_var rfl) (by exact r2_eqH))) (fun h => ?_) (fun h => ?_)
  · obtain ⟨rfl, rfl⟩ := of_decide_eq_true h
    exact rt_is (rt_ret ev_str) (by unfold wordS; rw [if_pos ⟨by grind, by grind⟩])
  · have h0 : ¬ (c - a = 0 ∧ e - b = 0) := fun z => of_decide_eq_false h ⟨by grind, by grind⟩
    refine rt_seq (nt_unp (ev_call (by walk_at "ea") lg)) ?_
    generalize c - a = l at *
    generalize e - b = g at *
    have q3 := bq_abs q2
    refine rt_seq (nt_asg (ev_is (ev_tup (ea_cons (ev_cb (ea_cons (ev_op (ev_var rfl) ev_int (by exact fx0)) ea_nil) rc_abs) (ea_cons (ev_op (ev_var rfl) ev_int (by exact fx1)) ea_nil))) (fq_abs g).symm)) ?_
    refine rt_cond (et_not (et_B (ev_call (by walk_at "ea") (by exact less_ok (q1.mono (by decide)) (q3.mono (by decide)))))) (fun h1 => ?_) (fun h1 => ?_)
    · have h2 : ¬ l < g.abs := by simpa using h1
      exact rt_is (rt_ret ev_str) (by unfold wordS; rw [if_neg h0, if_pos h2])
    · have h2 : l < g.abs := by simpa using h1
      have en : (0 : Rat) - l = -l := by grind
      have qn := bq_neg q1
      have ln : EvA K (tCons (tCall (spP K R_gap) [] E0 (tCons (tC (.ref (ka 4))) (tCons (tVar 2) tNil))) (tCons (tVar 4) tNil)) [.d (hapD a b), .d (hapD c e), .d (fq l), .d (fq g), .d (fq g.abs)] [fq (-l), fq g.abs] := ea_cons (ev_is (ev_call (ea_cons (ev_NOUGHT T) (by walk_at "ea")) (by exact gap_ok (bq_zero.mono (by decide)) (q1.mono (by decide)))) (congrArg fq en)) (by walk_at "ea")
      refine rt_cond (et_not (et_B (ev_call ln (by exact less_ok (qn.mono (by decide)) (q3.mono (by decide)))))) (fun h3 => ?_) (fun h3 => ?_)
      · have h4 : ¬ -l < g.abs := by simpa using h3
        exact rt_is (rt_ret ev_str) (by unfold wordS; rw [if_neg h0, if_neg (not_not_intro h2), if_pos h4])
      · have h4 : -l < g.abs := by simpa using h3
        exact rt_is (rt_ret ev_str) (by unfold wordS; rw [if_neg h0, if_neg (not_not_intro h2), if_neg (not_not_intro h4)])
def R_stand (ds : List Dt) (d : Dt) : Prop := ∃ (ts : List (Rat × Rat)) (v : Rat), ds = [hapsD ts, fq v] ∧ ts.length ≤ 12 ∧ StB ts v ∧ DenOk (stQ ts v) ∧ d = standD ts v
theorem h_standing (T : Txt K mg ca fa ka) : Has P w K mg base (L2.CX P w) 3 "standing" ["haps", "speed"] (spN K R_stand) := by
  refine T.d_standing.raisesN sc_standing (fun ds d h => by obtain ⟨_, _, rfl, _⟩ := h; rfl) (fun f cdv A outer s H E hr => (pss_cons (ps_set (i := 2) sc_standing.nd rfl (Or.inr rfl) (pe_lc (own := [("time", 3), ("place", 4)]) (g := gTup K 2 (gCons (gName 3) (gCons (gName 4) gNil))) (tt := tYes) rfl sc_standing.nd (lstK (K := K) rfl (pv 0)) (blkOk_by (own := [("time", 3), ("place", 4)]) (N := ["haps", "speed", "stand", "time", "place", "at", "other", "one"]) (sc := defScope s_standing) (by decide +kernel)) (fun _ _ _ _ _ => tupK (K := K) (n := 2) rfl rfl (pgs_cons (pg_name (i := 3) sc_standing.nd rfl (Or.inl rfl)) (pgs_cons (pg_name (i := 4) sc_standing.nd rfl (Or.inl rfl)) pgs_nil))) (fun _ _ _ _ _ => pts_nil) (fun _ _ _ _ _ => (pe_h (h_less T) hr (by decide) pass0 (pa_cons (pv 3) (pa_cons (pe_h (h_times T) hr (by decide) pass0 (pa_cons (pv 1) (pa_cons (pv 4) pa_nil))) pa_nil)))))) (pss_one (ps_ret (pe_lc (own := [("one", 7)]) (g := gName 7) (tt := tYes) rfl sc_standing.nd (lstK (K := K) rfl (pe_h (h_rising T) hr (by decide) passL (pa_cons (pv 2) pa_nil))) (blkOk_by (own := [("one", 7)]) (N := ["haps", "speed", "stand", "time", "place", "at", "other", "one"]) (sc := defScope s_standing) (by decide +kernel)) (fun _ _ _ _ _ => pg_name (i := 7) sc_standing.nd rfl (Or.inr rfl)) (fun _ _ _ _ _ => pts_nil) (fun _ _ _ _ _ => (pe_lc (own := [("at", 5), ("other", 6)]) (g := gTup K 2 (gCons (gName 5) (gCons (gName 6) gNil))) (tt := _) rfl sc_standing.nd (enumK (K := K) rfl (pi_enum (by rfl) T.m_enumerate (pa_cons (pv 2) pa_nil))) (blkOk_by (own := [("at", 5), ("other", 6)]) (N := ["haps", "speed", "stand", "time", "place", "at", "other", "one"]) (sc := _) (by rfl)) (fun _ _ _ _ _ => tupK (K := K) (n := 2) rfl rfl (pgs_cons (pg_name (i := 5) sc_standing.nd rfl (Or.inl rfl)) (pgs_cons (pg_name (i := 6) sc_standing.nd rfl (Or.inl rfl)) pgs_nil))) (fun _ _ _ _ _ => pts_one (pt_cmpR (eqK (K := K) rfl hr.units) (pv 6) (pv 7) (nomark _))) (fun _ _ _ _ _ => (pv 5))))))))) ?_
  rintro ds d ⟨ts, v, rfl, hn, ⟨bv, hb⟩, hD, rfl⟩ E
  have l1 : (stQ ts v).length = ts.length := List.length_map ..
  have hq : ∀ q ∈ stQ ts v, Bq 2900 q := fun q h => (by obtain ⟨p, hp, rfl⟩ := List.mem_map.mp h; exact (hb p hp).2.2.2)
  refine rm_nt (nt_asg (x := .lst ((stQ ts v).map fq)) (ev_ef (ef_lc2 (as := ts.map fun p => fq p.1) (bs := ts.map fun p => fq p.2) (es := (stQ ts v).map fq) (by rw [List.length_map, List.length_map]) (by rw [List.length_map, List.length_map, l1]) (ev_is (ev_var rfl) (congrArg Dt.lst (haps_zip ts))) (by rw [List.length_map]; omega) (fun k a b e ha hb' he => ?_)))) ?_
  · rw [List.getElem?_map] at ha hb' he
    cases hp : ts[k]? with
    | none => rw [hp] at ha; cases ha
    | some p =>
      rw [hp] at ha hb'
      unfold stQ at he
      rw [List.getElem?_map, hp] at he
      cases ha
      cases hb'
      cases he
      obtain ⟨h1, h2, h3, _⟩ := hb p (List.mem_of_getElem? hp)
      exact ev_call (ea_cons (ev_var rfl) (ea_cons (ev_call (by walk_at "ea") (by exact prod_ok bv h2)) ea_nil)) (by exact gap_ok h1 h3)
  refine rm_ret (em_lc (ds := (rsg (stQ ts v)).map fq) (es := (rsg (stQ ts v)).map fun q => .lst (numsD (atQ ts v q))) (by rw [List.length_map, List.length_map]) (ev_callF (by walk_at "ea") (by exact ⟨stQ ts v, rfl, hq, hD, by rw [l1]; omega, rfl⟩)) ?_ (fun k d e hd he => ?_))
  · have := rsg_len (stQ ts v)
    rw [List.length_map]
    omega
  · rw [List.getElem?_map] at hd he
    cases ht : (rsg (stQ ts v))[k]? with
    | none => rw [ht] at hd; cases hd
    | some q =>
      rw [ht] at hd he
      cases hd
      cases he
      refine en_is (en_ef (ef_lcEn (fun k => decide ((stQ ts v).getD k 0 = q)) (fun k => .int (k : Nat)) (ea_cons (ev_var rfl) ea_nil) (by rw [List.length_map]; omega) (fun m a ha => ?_) (fun m a ha _ => ev_var rfl)) (Nat.le_trans (pickD_le ..) (by rw [List.length_map]; omega))) (by rw [List.length_map, l1]; rfl)
      rw [List.getElem?_map] at ha
      obtain ⟨r, hr', rfl⟩ := Option.map_eq_some_iff.mp ha
      have e : (stQ ts v).getD m 0 = r := by rw [List.getD_eq_getElem?_getD, hr', Option.getD_some]
      rw [e]
      exact et_test (ev_op (ev_var rfl) (ev_var rfl) r2_eqF)
def R_oatV (ds : List Dt) (d : Dt) : Prop := ∃ (ts : List (Rat × Rat)) (v : Rat), ds = [hapsD ts, fq v] ∧ 1 ≤ ts.length ∧ ts.length ≤ 8 ∧ ts.Nodup ∧ StB ts v ∧ DenOk (stQ ts v) ∧ Sp v ∧ d = standD ts v
def X_oat (ca : Nat → Addr) (ds : List Dt) (c : Value) : Prop := ∃ x y : Dt, ds = [x, y] ∧ ((isSpD y = false ∧ c = .ref (ca 4)) ∨ (isSpD y = true ∧ areH x 8 = false ∧ c = .ref (ca 8)))
theorem h_order_at (T : Txt K mg ca fa ka) : Has P w K mg base (L2.CX P w) 6 "order_at" ["haps", "speed"] (spT K W2 R_oatV (fun _ _ => False) (X_oat ca)) := by
  refine T.d_order_at.raisesT sc_order_at (fun ds d h => by obtain ⟨_, _, rfl, _⟩ := h; rfl) (fun ds d h => by obtain ⟨_, _, rfl, _⟩ := h; rfl) (fun f cdv A outer s H E hr => (pss_cons (ps_expr (pe_h (h_check_speed T) hr (by decide) (passC (takes_of rfl rfl rfl rfl)) (pa_cons (pv 1) pa_nil))) (pss_cons (ps_expr (pe_h (h_check_haps T) hr (by decide) (passC (takes_of rfl rfl rfl rfl)) (pa_cons (pv 0) (pa_cons (pe_globX (by rfl) T.v_MOST_HAPS) pa_nil)))) (pss_one (ps_ret (pe_h (h_standing T) hr (by decide) (passC (takes_of rfl rfl rfl rfl)) (pa_cons (pv 0) (pa_cons (pv 1) pa_nil)))))))) ?_ ?_
  · rintro ds d ⟨ts, v, rfl, n1, n8, nd, hb, bv, sv, rfl⟩ E
    refine rmw_drop w2_ok (RF := R_chk) (d := .non) (by walk_at "ea") (by exact ⟨_, rfl, isSpD_of sv, rfl⟩) ?_
    refine rmw_drop w2_ok (by walk_at "ea") (by exact ⟨_, 8, rfl, by decide, areH_ok n1 (by omega) nd, rfl⟩) ?_
    exact rmw_ret (em_call (by walk_at "ea") (by exact ⟨ts, v, rfl, by omega, hb, bv, rfl⟩))
  · rintro ds c ⟨x, y, rfl, ⟨h, rfl⟩ | ⟨h1, h2, rfl⟩⟩
    · exact rx_out (by walk_at "ea") ⟨_, rfl, h, rfl⟩
    · exact rx_ok (by walk_at "ea") ⟨_, rfl, h1, rfl⟩ (rx_out (by walk_at "ea") ⟨x, 8, rfl, by decide, h2, rfl⟩)
def R_is_seat (ds : List Dt) (d : Dt) : Prop := ∃ x : Dt, ds = [x] ∧ SzSW x ∧ d = .bl (isSeatD x)
theorem h_is_seat (T : Txt K mg ca fa ka) : Has P w K mg base CX0 6 "is_seat" ["thing"] (spP K R_is_seat) := by
  refine T.d_is_seat.pure sc_is_seat (fun ds d h => by obtain ⟨x, rfl, _⟩ := h; rfl) (fun f cdv A outer s H E hr => (pss_cons (ps_if (PW.pt (pw_or (pt_not (pt_val (pe_callB (isiK (K := K) rfl) (by rfl) T.m_isinstance (by decide +kernel) (pa_cons (pv 0) (pa_cons (pe_bltn (v := .ty "tuple") (by rfl) T.m_tuple (by decide +kernel) rfl) pa_nil))))) (pw_or1 (pt_cmpR (neK (K := K) rfl hr.units) (pe_callB (lenK (K := K) rfl) (by rfl) T.m_len (by decide +kernel) (pa_cons (pv 0) pa_nil)) pe_int (nomark _))))) (pss_one (ps_ret pe_bl)) pss_nil) (pss_cons (ps_asg (pv 0) (tupK (K := K) (n := 2) rfl rfl (pgs_cons (pg_name (i := 1) sc_is_seat.nd rfl (Or.inl rfl)) (pgs_cons (pg_name (i := 2) sc_is_seat.nd rfl (Or.inl rfl)) pgs_nil)))) (pss_one (ps_ret (pe_and (pe_h (h_is_speed T) hr (by decide) pass0 (pa_cons (pv 1) pa_nil)) (pe_and (pe_h (h_is_plain T) hr (by decide) passL (pa_cons (pv 1) pa_nil)) (pe_one (pe_h (h_is_hap T) hr (by decide) pass0 (pa_cons (pv 2) pa_nil)))))))))) ?_
  rintro ds d ⟨x, rfl, hsz, rfl⟩
  obtain ⟨c, hc, hiff⟩ := kb_tup x
  by_cases h : ∃ ds, x = .tup ds
  · obtain ⟨ds, rfl⟩ := h
    have c1 : c = true := hiff.mpr ⟨ds, rfl⟩
    subst c1
    by_cases hl : ds.length = 2
    · obtain ⟨a, b, rfl⟩ := two_of hl
      obtain ⟨_, _, hq⟩ := hsz a b rfl
      refine rt_no (et_or (et_not (et_B (ev_isi (ev_var rfl) hc))) (fun _ => by walk_at "et")) rfl (rt_seq (nt_unp (ev_var rfl)) ?_)
      refine rt_is (rt_ret (ev_andV (ev_call (by walk_at "ea") (by exact ⟨a, rfl, rfl⟩)) (fun ha => ev_andV (a := beatB a) (b := isHp b) ?_ (fun _ => ev_call (by walk_at "ea") (by exact ⟨b, rfl, rfl⟩))))) (by show Dt.bl _ = Dt.bl (isSpD a && beatB a && isHp b); rw [Bool.and_assoc])
      obtain ⟨q, sq', rfl⟩ := isSpD_iff.mp ha
      exact ev_is (ev_callX (by walk_at "ea") (by exact ⟨q, rfl, sq', hq q rfl, rfl⟩)) (by rw [beatB_fq])
    · refine rt_yes (et_or (et_not (et_B (ev_isi (ev_var rfl) hc))) (fun _ => by walk_at "et")) (by rw [beq_eq_false_iff_ne.mpr (show ¬ (ds.length : Int) = 2 by omega)]; rfl) ?_
      exact rt_is (rt_ret ev_bl) (by rw [isSeatD_len hl])
  · have c0 : c = false := by
      cases c with
      | false => rfl
      | true => exact absurd (hiff.mp rfl) h
    subst c0
    exact rt_yes (et_or (b := true) (et_not (et_B (ev_isi (ev_var rfl) hc))) (fun h => by cases h)) rfl (rt_is (rt_ret ev_bl) (by rw [isSeatD_no h]))
def R_check_seat (ds : List Dt) (d : Dt) : Prop := ∃ x : Dt, ds = [x] ∧ SzSW x ∧ isSeatD x = true ∧ d = .non
def X_check_seat (ca : Nat → Addr) (ds : List Dt) (c : Value) : Prop := ∃ x : Dt, ds = [x] ∧ SzSW x ∧ isSeatD x = false ∧ c = .ref (ca 12)
theorem h_check_seat (T : Txt K mg ca fa ka) : Has P w K mg base (L2.CX P w) 7 "check_seat" ["thing"] (spX K R_check_seat (X_check_seat ca)) := by
  refine T.d_check_seat.raises sc_check_seat (fun ds d h => by obtain ⟨t, rfl, _⟩ := h; rfl) (fun ds d h => by obtain ⟨t, rfl, _⟩ := h; rfl) (fun f cdv A outer s H E hr => (pss_one (ps_if (pt_not (pt_val (pe_h (h_is_seat T) hr (by decide) pass0 (pa_cons (pv 0) pa_nil)))) (pss_one (ps_raise rfl (takes_of rfl rfl rfl rfl) (pmk_own PySem.F.excBase_ValueError T.x_NoSeat.x T.x_NoSeat.g T.x_NoSeat.k (raises_own T.x_NoSeat.b T.x_NoSeat.t) (by exact rfl)))) pss_nil))) ?_ ?_
  · rintro ds d ⟨x, rfl, hz, h, rfl⟩
    exact rx_no1 (et_not (et_B (ev_call (ea_cons (ev_var rfl) ea_nil) (by exact ⟨x, rfl, hz, rfl⟩)))) (by rw [h]; rfl)
  · rintro ds c ⟨x, rfl, hz, h, rfl⟩
    exact rx_raise1 (et_not (et_B (ev_call (ea_cons (ev_var rfl) ea_nil) (by exact ⟨x, rfl, hz, rfl⟩)))) (by rw [h]; rfl)
def R_check_hap (ds : List Dt) (d : Dt) : Prop := ∃ x : Dt, ds = [x] ∧ True ∧ isHp x = true ∧ d = .non
def X_check_hap (ca : Nat → Addr) (ds : List Dt) (c : Value) : Prop := ∃ x : Dt, ds = [x] ∧ True ∧ isHp x = false ∧ c = .ref (ca 2)
theorem h_check_hap (T : Txt K mg ca fa ka) : Has P w K mg base (L2.CX P w) 4 "check_hap" ["thing"] (spX K R_check_hap (X_check_hap ca)) := by
  refine T.d_check_hap.raises sc_check_hap (fun ds d h => by obtain ⟨t, rfl, _⟩ := h; rfl) (fun ds d h => by obtain ⟨t, rfl, _⟩ := h; rfl) (fun f cdv A outer s H E hr => (pss_one (ps_if (pt_not (pt_val (pe_h (h_is_hap T) hr (by decide) pass0 (pa_cons (pv 0) pa_nil)))) (pss_one (ps_raise rfl (takes_of rfl rfl rfl rfl) (pmk_own PySem.F.excBase_ValueError T.x_NoHap.x T.x_NoHap.g T.x_NoHap.k (raises_own T.x_NoHap.b T.x_NoHap.t) (by exact rfl)))) pss_nil))) ?_ ?_
  · rintro ds d ⟨x, rfl, hz, h, rfl⟩
    exact rx_no1 (et_not (et_B (ev_call (ea_cons (ev_var rfl) ea_nil) (by exact ⟨x, rfl, rfl⟩)))) (by rw [h]; rfl)
  · rintro ds c ⟨x, rfl, hz, h, rfl⟩
    exact rx_raise1 (et_not (et_B (ev_call (ea_cons (ev_var rfl) ea_nil) (by exact ⟨x, rfl, rfl⟩)))) (by rw [h]; rfl)
theorem h_seen_from (T : Txt K mg ca fa ka) : Has P w K mg base CX0 8 "seen_from" ["speed", "lapse", "gap"] (spP K R_seenV) := by
  refine T.d_seen_from.pure sc_seen_from (fun ds d h => by obtain ⟨v, b, l, g, rfl, _⟩ := h; rfl) (fun f cdv A outer s H E hr => (pss_cons (ps_set (i := 3) sc_seen_from.nd rfl (Or.inl rfl) (pe_h (h_beat_of T) hr (by decide) passL (pa_cons (pv 0) pa_nil))) (pss_cons (ps_set (i := 4) sc_seen_from.nd rfl (Or.inl rfl) (pe_h (h_by T) hr (by decide) passL (pa_cons (pe_h (h_less T) hr (by decide) pass0 (pa_cons (pv 1) (pa_cons (pe_h (h_times T) hr (by decide) pass0 (pa_cons (pv 0) (pa_cons (pv 2) pa_nil))) pa_nil))) (pa_cons (pv 3) pa_nil)))) (pss_cons (ps_set (i := 5) sc_seen_from.nd rfl (Or.inl rfl) (pe_h (h_by T) hr (by decide) passL (pa_cons (pe_h (h_less T) hr (by decide) pass0 (pa_cons (pv 2) (pa_cons (pe_h (h_times T) hr (by decide) pass0 (pa_cons (pv 0) (pa_cons (pv 1) pa_nil))) pa_nil))) (pa_cons (pv 3) pa_nil)))) (pss_one (ps_ret (pe_tup (pa_cons (pv 4) (pa_cons (pv 5) pa_nil))))))))) ?_
  rintro ds d ⟨v, b, l, g, rfl, hp, bv, bl, bg, rfl⟩
  have bb : Bq 3602 b := hp.bq bv
  have b0 := hp.ne
  have m1 : Bq 2300 (v * g) := bq_mul bv bg
  have m2 : Bq 2300 (v * l) := bq_mul bv bl
  have s1 : Bq 4400 (l - v * g) := (bq_sub bl m1).mono (by decide)
  have s2 : Bq 4400 (g - v * l) := (bq_sub bg m2).mono (by decide)
  refine rt_seq (nt_asg (ev_callX (by walk_at "ea") (by exact ⟨v, b, rfl, hp.s, bv.mono (by decide), hp.p, hp.e, rfl⟩))) ?_
  refine rt_seq (nt_asg (ev_callX (ea_cons (ev_call (ea_cons (ev_var rfl) (ea_cons (ev_call (by walk_at "ea") (by exact prod_ok (bv.mono (by decide)) (bg.mono (by decide)))) ea_nil)) (by exact gap_ok (bl.mono (by decide)) (m1.mono (by decide)))) (by walk_at "ea")) (by exact quot_ok s1 (bb.mono (by decide)) b0))) ?_
  refine rt_seq (nt_asg (ev_callX (ea_cons (ev_call (ea_cons (ev_var rfl) (ea_cons (ev_call (by walk_at "ea") (by exact prod_ok (bv.mono (by decide)) (bl.mono (by decide)))) ea_nil)) (by exact gap_ok (bg.mono (by decide)) (m2.mono (by decide)))) (by walk_at "ea")) (by exact quot_ok s2 (bb.mono (by decide)) b0))) ?_
  exact rt_ret (by walk_at "ev")
def X_told_from (ca : Nat → Addr) (ds : List Dt) (c : Value) : Prop := ∃ a h : Dt, ds = [a, h] ∧ SzSW a ∧ ((isSeatD a = false ∧ c = .ref (ca 12)) ∨ (isSeatD a = true ∧ isHp h = false ∧ c = .ref (ca 2)))
theorem h_told_from (T : Txt K mg ca fa ka) : Has P w K mg base (L2.CX P w) 9 "told_from" ["seat", "hap"] (spX K R_toldV (X_told_from ca)) := by
  refine T.d_told_from.raises sc_told_from (fun ds d h => by obtain ⟨_, _, _, _, _, _, rfl, _⟩ := h; rfl) (fun ds d h => by obtain ⟨t, h, rfl, _⟩ := h; rfl) (fun f cdv A outer s H E hr => (pss_cons (ps_expr (pe_h (h_check_seat T) hr (by decide) (passC (takes_of rfl rfl rfl rfl)) (pa_cons (pv 0) pa_nil))) (pss_cons (ps_expr (pe_h (h_check_hap T) hr (by decide) (passC (takes_of rfl rfl rfl rfl)) (pa_cons (pv 1) pa_nil))) (pss_cons (ps_asg (pv 0) (tupK (K := K) (n := 2) rfl rfl (pgs_cons (pg_name (i := 2) sc_told_from.nd rfl (Or.inl rfl)) (pgs_cons (pg_name (i := 3) sc_told_from.nd rfl (Or.inl rfl)) pgs_nil)))) (pss_one (ps_ret (pe_h (h_seen_from T) hr (by decide) pass0 (pa_cons (pv 2) (pa_cons (pe_h (h_less T) hr (by decide) pass0 (pa_cons (pe_ix (ixK (K := K) rfl) (pv 1) pe_int (fun _ _ => rfl)) (pa_cons (pe_ix (ixK (K := K) rfl) (pv 3) pe_int (fun _ _ => rfl)) pa_nil))) (pa_cons (pe_h (h_less T) hr (by decide) pass0 (pa_cons (pe_ix (ixK (K := K) rfl) (pv 1) pe_int (fun _ _ => rfl)) (pa_cons (pe_ix (ixK (K := K) rfl) (pv 3) pe_int (fun _ _ => rfl)) pa_nil))) pa_nil)))))))))) ?_ ?_
  · rintro ds d ⟨v, b, t0, p0, t, p, rfl, hp, bv, bt0, bp0, bt, bp, rfl⟩
    refine rx_ok (by walk_at "ea") ⟨_, rfl, seat_szW (bv.mono (by decide)) (bt0.mono (by decide)) (bp0.mono (by decide)), seat_is hp _ _, rfl⟩ (rx_ok (by walk_at "ea") ⟨_, rfl, trivial, isHp_hap _ _, rfl⟩ (rx_nt (nt_unp (ev_var rfl)) ?_))
    exact rx_rt (rt_ret (ev_call (by walk_at "ea") (by exact ⟨v, b, _, _, rfl, hp, bv, (bq_sub bt bt0).mono (by decide), (bq_sub bp bp0).mono (by decide), rfl⟩)))
  · rintro ds c ⟨a, h, rfl, hz, ⟨e, rfl⟩ | ⟨e, e2, rfl⟩⟩
    · exact rx_out (by walk_at "ea") ⟨a, rfl, hz, e, rfl⟩
    · exact rx_ok (by walk_at "ea") ⟨a, rfl, hz, e, rfl⟩ (rx_out (by walk_at "ea") ⟨h, rfl, trivial, e2, rfl⟩)
def R_nm (ds : List Dt) (d : Dt) : Prop := ∃ x : Dt, ds = [x] ∧ (∀ s, x = .str s → s.length ≤ 90000) ∧ d = .bl (isNm x)
theorem h_is_name (T : Txt K mg ca fa ka) : Has P w K mg base CX0 1 "is_name" ["thing"] (spP K R_nm) := by
  refine T.d_is_name.pure sc_is_name (fun ds d h => by obtain ⟨_, rfl, _⟩ := h; rfl) (fun f cdv A outer s H E hr => (pss_cons (ps_if (PW.pt (pw_or (pt_not (pt_val (pe_callB (isiK (K := K) rfl) (by rfl) T.m_isinstance (by decide +kernel) (pa_cons (pv 0) (pa_cons (pe_bltn (v := .ty "str") (by rfl) T.m_str (by decide +kernel) rfl) pa_nil))))) (pw_or1 (pt_not (pt_chain op_le op_le pe_int (pe_callB call_len_str (by rfl) T.m_len (by decide +kernel) (pa_cons (pv 0) pa_nil)) (pe_globX (by rfl) T.v_LONGEST_NAME)))))) (pss_one (ps_ret pe_bl)) pss_nil) (pss_one (ps_ret (pe_callB (allK (K := K) rfl rfl) (by rfl) T.m_all (by decide +kernel) (pa_cons (pe_lc (own := [("letter", 1)]) (g := gName 1) (tt := tYes) rfl sc_is_name.nd (pi_str (pv 0)) (blkOk_by (own := [("letter", 1)]) (N := ["thing", "letter"]) (sc := defScope s_is_name) (by decide +kernel)) (fun _ _ _ _ _ => pg_name (i := 1) sc_is_name.nd rfl (Or.inl rfl)) (fun _ _ _ _ _ => pts_nil) (fun _ _ _ _ _ => (pe_cmpR op_in_sign (pv 1) (pe_globX (by rfl) T.v_LETTERS) (by rfl)))) pa_nil)))))) ?_
  rintro ds d ⟨x, rfl, hsz, rfl⟩
  obtain ⟨c, hc, hiff⟩ := kb_strT x
  by_cases h : ∃ s, x = .str s
  · obtain ⟨s, rfl⟩ := h
    have c1 : c = true := hiff.mpr ⟨s, rfl⟩
    subst c1
    have hl := hsz s rfl
    have ln : ∀ {sl : List Sl}, sl[0]? = some (.d (.str s)) → Ev K (tCB _ (tCons (tVar 0) tNil)) sl (.int (s.length : Nat)) := fun h => ev_cb (ea_cons (ev_var h) ea_nil) (rc_lenS (by omega))
    refine rt_cond (b := !(decide ((1 : Int) ≤ (s.length : Nat)) && decide (((s.length : Nat) : Int) ≤ 8))) (et_is (et_or (a := false) (et_not (a := true) (et_B (ev_isi (ev_var rfl) hc))) (fun _ => et_not (et_chain ev_int (ln rfl) r2_le (fun _ => ev_int) (fun _ => r2_le)))) (Bool.false_or _)) (fun z => rt_is (rt_ret ev_bl) ?_) (fun z => ?_)
    · show Dt.bl false = .bl ((decide (1 ≤ s.length) && decide (s.length ≤ 8)) && _)
      rw [Bool.not_eq_true'] at z
      have e : (decide (1 ≤ s.length) && decide (s.length ≤ 8)) = false := by
        rw [← z]
        congr 1 <;> exact decide_eq_decide.mpr (by omega)
      rw [e, Bool.false_and]
    · rw [Bool.not_eq_false'] at z
      have e : (decide (1 ≤ s.length) && decide (s.length ≤ 8)) = true := by
        rw [← z]
        congr 1 <;> exact decide_eq_decide.mpr (by omega)
      refine rt_is (rt_ret (ev_cb (ea_cons (ev_is (ev_lcS (s := s) (es := (s.cps.toList.map fun c => decide (c ∈ abcS.cps.toList)).map Dt.bl) (by rw [List.length_map, List.length_map, Array.length_toList]) (ev_var rfl) hl (fun k x hk hx => ?_)) rfl) ea_nil) rc_all)) ?_
      · rw [List.getElem?_map, List.getElem?_map] at hx
        have hk2 : s.cps.toList[k]? = some (s.cps.getD k 0) := by
          rw [Array.getElem?_toList, Array.getD_eq_getD_getElem?, Array.getElem?_eq_getElem hk]
          rfl
        rw [hk2] at hx
        cases hx
        exact ev_op (ev_var rfl) ev_str (by exact r2_sgIn)
      · show _ = Dt.bl ((decide (1 ≤ s.length) && decide (s.length ≤ 8)) && _)
        rw [e, Bool.true_and, List.all_map]
        rfl
  · have c0 : c = false := by
      cases c with
      | false => rfl
      | true => exact absurd (hiff.mp rfl) h
    subst c0
    refine rt_yes (b := true) (et_is (et_or (a := true) (b := true) (et_not (a := false) (et_B (ev_isi (ev_var rfl) hc))) (fun z => by cases z)) rfl) rfl (rt_is (rt_ret ev_bl) ?_)
    cases x with
    | str s => exact absurd ⟨s, rfl⟩ h
    | _ => rfl
theorem h_Bench___init__ (T : Txt K mg ca fa ka) : HasI P w K mg base CX0 1 (ca 19) ["self"] (spMkB K (ca 19)) := by
  refine T.d_Bench___init__.any sc_Bench___init__ (fun vs H Q E h => by obtain ⟨x, dx, G, rfl, _⟩ := h; rfl) (fun f cdv A outer s H E hr => (pss_cons (sfldK (K := K) rfl (pv 0) pe_dct rfl) (pss_cons (sfldK (K := K) rfl (pv 0) (pe_glob (v := .ref (ka 4)) (by rfl) T.v_NOUGHT rfl) rfl) (pss_one (sfldK (K := K) rfl (pv 0) (pe_lst pa_nil) rfl))))) ?_
  rintro vs H Q E ⟨x, dx, G, rfl, hx, k, gx, q⟩ a ha
  have nxa : x ≠ a := ne_of_none hx ha
  refine ⟨_, rfl, x, _, dx, [], rfl, by rw [upd_ne nxa]; exact hx, T.cl_Bench, T.na_Bench__haps, by show 0 < 1000; decide, ?_⟩
  refine ⟨_, rfl, x, _, dx, _, rfl, upd_same, T.cl_Bench, T.na_Bench__speed, by show 1 < 1000; decide, ?_⟩
  refine ⟨by exact sz_ok (Nat.zero_le _), fun p hp => ?_⟩
  have np : p ≠ x ∧ p ≠ a ∧ H p = none := by
    have h1 : p ≠ x := fun z => by rw [z, upd_same] at hp; cases hp
    rw [upd_ne h1, upd_ne h1] at hp
    have h2 : p ≠ a := fun z => by rw [z, upd_same] at hp; cases hp
    rw [upd_ne h2] at hp
    exact ⟨h1, h2, hp⟩
  obtain ⟨np1, np2, np3⟩ := np
  refine ⟨_, rfl, x, _, dx, _, rfl, by rw [upd_ne (Ne.symm np1), upd_same], T.cl_Bench, T.na_Bench__past, by exact Nat.lt_of_le_of_lt (Nat.le_trans (length_putF _ _ _) (Nat.succ_le_succ (length_putF _ _ _))) (by show 2 < 1000; decide), ?_⟩
  have ga : G a = none := free_of k ha
  have gp : G p = none := free_of k np3
  refine q p (upd G a (.dK [])) _ np3 ⟨Ex.new ga, fun c u e => ?_, fun c u hc e => ?_, fun c hc => ?_, fun c h1 h2 => ?_⟩ ⟨⟨dx, a, _, [], upd_same, ⟨[], upd_same, .nil⟩, .tup (T.w_NOUGHT _) (.cons (.int _) (.cons (.int _) .nil)), by rw [upd_ne np1, upd_same], .nil⟩, ?_, ?_⟩
  · by_cases z : c = a
    · subst z
      rw [upd_same] at e
      rw [upd_ne (Ne.symm nxa), upd_ne (Ne.symm np2), upd_ne (Ne.symm nxa), upd_ne (Ne.symm nxa), upd_same]
      exact e
    · rw [upd_ne z] at e
      have cx : c ≠ x := fun y => by rw [y, gx] at e; cases e
      have cp : c ≠ p := fun y => by rw [y, gp] at e; cases e
      rw [upd_ne cx, upd_ne cp, upd_ne cx, upd_ne cx, upd_ne z]
      exact k _ _ e
  · have cx : c ≠ x := fun y => hc (by simp [y])
    rw [upd_ne cx, upd_ne (ne_of_none e np3), upd_ne cx, upd_ne cx, upd_ne (ne_of_none e ha)]
    exact e
  · by_cases z1 : c = x
    · rw [z1, upd_same]; intro z; cases z
    · rw [upd_ne z1]
      by_cases z2 : c = p
      · rw [z2, upd_same]; intro z; cases z
      · rw [upd_ne z2, upd_ne z1, upd_ne z1]
        by_cases z3 : c = a
        · rw [z3, upd_same]; intro z; cases z
        · rw [upd_ne z3]
          exact hc
  · by_cases z : c = a
    · rw [z] at h2
      exact absurd ha h2
    · rw [upd_ne z]
      exact h1
  · rw [upd_ne nxa]
    exact gx
  · rw [upd_ne np2]
    exact gp
theorem h_Bench__do (T : Txt K mg ca fa ka) : HasM P w K mg base CX0 1 (ca 19) "_do" ["self", "haps", "speed"] (spDo K (ca 19)) := by
  refine T.d_Bench__do.any sc_Bench__do (fun vs H Q E h => by obtain ⟨_, _, _, _, _, _, _, _, rfl, _⟩ := h; rfl) (fun f cdv A outer s H E hr => (pss_cons (ps_expr (bmK (K := K) rfl (pe_bm PySem.F.plainAttrs_list PySem.F.slot_list_append PySem.F.type_list_append mt_append (fldK (K := K) rfl (pv 0) rfl) (pa_cons (pe_tup (pa_cons (fldK (K := K) rfl (pv 0) rfl) (pa_cons (fldK (K := K) rfl (pv 0) rfl) pa_nil))) pa_nil)))) (pss_cons (sfldK (K := K) rfl (pv 0) (pv 1) rfl) (pss_one (sfldK (K := K) rfl (pv 0) (pv 2) rfl))))) ?_
  rintro vs H Q E ⟨x, p, a, s, b, hs, sp, G, rfl, k, hB, hD, hR, hl, q⟩
  obtain ⟨dx, a0, s0, pv, h1, h2, h3, h4, h5⟩ := hB.ex
  have lp : pv.length = b.past.length := (Paired.length h5).symm
  have nxp := hB.ne
  refine ⟨_, rfl, x, _, dx, _, _, rfl, h1, T.cl_Bench, T.na_Bench__past, flds_past _ _ _, ⟨.inl ⟨rfl, ⟨pv, .inl (.inl h4)⟩⟩, ?_⟩⟩
  refine ⟨_, rfl, x, _, dx, _, _, rfl, h1, T.cl_Bench, T.na_Bench__haps, flds_haps _ _ _, _, rfl, x, _, dx, _, _, rfl, h1, T.cl_Bench, T.na_Bench__speed, flds_speed _ _ _, by exact sz_ok (by exact Nat.le_of_ble_eq_true rfl), fun t o ht ho => ?_⟩
  obtain ⟨n2, b2⟩ := hB.step k h1 h2 h3 h4 h5 hD hR ht ho
  have ntx : x ≠ t := ne_of_none h1 ht
  have ntp : p ≠ t := ne_of_none h4 ht
  refine ⟨p, pv, .ref t, rfl, rfl, by rw [upd_ne ntp]; exact h4, by rw [lp]; exact Nat.lt_of_le_of_lt hl (Nat.lt_of_lt_of_le (m := 100000) (by decide) (by decide)), ?_⟩
  refine ⟨_, rfl, _, rfl, x, _, dx, _, rfl, by rw [upd_ne nxp, upd_ne ntx]; exact h1, T.cl_Bench, T.na_Bench__haps, by rw [flds_eq]; show 3 < 1000; decide, ?_⟩
  rw [flds_put1]
  refine ⟨_, rfl, _, rfl, x, _, dx, _, rfl, upd_same, T.cl_Bench, T.na_Bench__speed, by rw [flds_eq]; show 3 < 1000; decide, ?_⟩
  rw [flds_put2, upd_upd]
  exact q _ _ n2 b2
def R_put (b : Bst) (ds : List Dt) (b' : Bst) : Prop := ∃ (n : Str) (q : Rat × Rat), ds = [.str n, hpD q] ∧ n.length ≤ 90000 ∧ isNm (.str n) = true ∧ (getH b.haps n ≠ none ∨ b.haps.length < 12) ∧ b.haps.length ≤ 90000 ∧ b.past.length ≤ 90000 ∧ b' = ⟨putH b.haps n q, b.speed, b.past ++ [(b.haps, b.speed)]⟩
def X_put (ca : Nat → Addr) (b : Bst) (ds : List Dt) (c : Value) : Prop := ∃ x y : Dt, ds = [x, y] ∧ (∀ s, x = .str s → s.length ≤ 90000) ∧ ((isNm x = false ∧ c = .ref (ca 16)) ∨ (isNm x = true ∧ isHp y = false ∧ c = .ref (ca 2)) ∨ ∃ n, x = .str n ∧ isNm x = true ∧ isHp y = true ∧ getH b.haps n = none ∧ 12 ≤ b.haps.length ∧ c = .ref (ca 5))
theorem h_Bench_put (T : Txt K mg ca fa ka) : HasM P w K mg base (L2.CX P w) 5 (ca 19) "put" ["self", "name", "hap"] (spBd K (ca 19) R_put (X_put ca)) := by
  refine T.d_Bench_put.deed sc_Bench_put (fun b ds d h => by obtain ⟨_, _, rfl, _⟩ := h; rfl) (fun b ds c h => by obtain ⟨_, _, rfl, _⟩ := h; rfl) (fun f cdv A outer s H E hr => (pss_cons (ps_if (pt_not (pt_val (pe_h (h_is_name T) hr (by decide) pass0 (pa_cons (pv 1) pa_nil)))) (pss_one (ps_raise rfl (takes_of rfl rfl rfl rfl) (pmk_own PySem.F.excBase_ValueError T.x_NoName.x T.x_NoName.g T.x_NoName.k (raises_own T.x_NoName.b T.x_NoName.t) (by exact rfl)))) pss_nil) (pss_cons (ps_expr (pe_h (h_check_hap T) hr (by decide) (passC (takes_of rfl rfl rfl rfl)) (pa_cons (pv 2) pa_nil))) (pss_cons (ps_if (PW.pt (pw_and (pt_cmp (pc_dnotin (lt64 hr.units) (pv 1) (fldK (K := K) rfl (pv 0) rfl))) (pw_and1 (pt_cmpR op_ge (pe_callB call_lenR (by rfl) T.m_len (by decide +kernel) (pa_cons (fldK (K := K) rfl (pv 0) rfl) pa_nil)) (pe_globX (by rfl) T.v_MOST_NAMES) (nomark _))))) (pss_one (ps_raise rfl (takes_of rfl rfl rfl rfl) (pmk_own PySem.F.excBase_ValueError T.x_TooMany.x T.x_TooMany.g T.x_TooMany.k (raises_own T.x_TooMany.b T.x_TooMany.t) (by exact rfl)))) pss_nil) (pss_cons (ps_set (i := 3) sc_Bench_put.nd rfl (Or.inl rfl) (bm0K (K := K) rfl (pe_bm0 PySem.F.plainAttrs_dict PySem.F.slot_dict_copy PySem.F.type_dict_copy mt_copyD (fldK (K := K) rfl (pv 0) rfl)))) (pss_cons (ps_dput (lt64 hr.units) (pv 3) (pv 1) (pv 2) (by rfl)) (pss_one (ps_expr (pe_mh (h_Bench__do T) T.cl_Bench hr (by decide) pass0 (pv 0) (pa_cons (pv 3) (pa_cons (fldK (K := K) rfl (pv 0) rfl) pa_nil))))))))))) ?_ ?_
  · rintro x p b ds b' ⟨n, q, rfl, hl, hn, hr, hb, hp, rfl⟩
    refine by_no stb_bn (ebt_is (ebt_not (ebt_B (eb_ev (ev_call (by walk_at "ea") (by exact ⟨_, rfl, fun s e => by cases e; exact hl, rfl⟩))))) (by rw [hn]; rfl)) ?_
    refine by_ok stb_bn (eba_ev (by walk_at "ea")) (by exact ⟨_, rfl, trivial, isHp_hap _ _, rfl⟩) ?_
    refine by_no stb_bn (ebt_and stb_bn (ebt_B (eb_dnotin (fun _ _ h => h.r) stb_bn T.cl_Bench T.na_Bench__haps rfl (ev_var rfl))) (fun _ => ebt_test (eb_op stb_bn (eb_lenH (fun _ _ h => h.r) T.cl_Bench T.na_Bench__haps rfl) (eb_ev ev_int) r2_ge)) ?_) (by_end fun E => bn_put T.cl_Bench T.na_Bench__haps T.na_Bench__speed hb hp)
    rcases hr with h | h
    · cases e : getH b.haps n with
      | none => exact absurd e h
      | some _ => rfl
    · rw [decide_eq_false (by omega), Bool.and_false]
  · rintro x p b ds c ⟨y, z, rfl, hs, h⟩
    rcases h with ⟨h, rfl⟩ | ⟨h1, h2, rfl⟩ | ⟨n, rfl, h1, h2, h3, h4, rfl⟩
    · exact by_raise (ebt_is (ebt_not (ebt_B (eb_ev (ev_call (by walk_at "ea") (by exact ⟨_, rfl, hs, rfl⟩))))) (by rw [h]; rfl))
    · refine by_no stb_bn (ebt_is (ebt_not (ebt_B (eb_ev (ev_call (by walk_at "ea") (by exact ⟨_, rfl, hs, rfl⟩))))) (by rw [h1]; rfl)) ?_
      exact by_out (eba_ev (by walk_at "ea")) (by exact ⟨_, rfl, trivial, h2, rfl⟩)
    · refine by_no stb_bn (ebt_is (ebt_not (ebt_B (eb_ev (ev_call (by walk_at "ea") (by exact ⟨_, rfl, hs, rfl⟩))))) (by rw [h1]; rfl)) ?_
      refine by_ok stb_bn (eba_ev (by walk_at "ea")) (by exact ⟨_, rfl, trivial, h2, rfl⟩) ?_
      exact by_raise (ebt_and stb_bn (ebt_B (eb_dnotin (fun _ _ h => h.r) stb_bn T.cl_Bench T.na_Bench__haps rfl (ev_var rfl))) (fun _ => ebt_test (eb_op stb_bn (eb_lenH (fun _ _ h => h.r) T.cl_Bench T.na_Bench__haps rfl) (eb_ev ev_int) r2_ge)) (by rw [h3, decide_eq_true (by omega)]; rfl))
def R_hof (b : Bst) (ds : List Dt) (d : Dt) : Prop := ∃ (n : Str) (q : Rat × Rat), ds = [.str n] ∧ n.length ≤ 90000 ∧ isNm (.str n) = true ∧ getH b.haps n = some q ∧ d = hpD q
def NoNm (b : Bst) (x : Dt) : Prop := (∀ s, x = .str s → s.length ≤ 90000) ∧ (isNm x = false ∨ ∃ n, x = .str n ∧ isNm x = true ∧ getH b.haps n = none)
def X_hof (ca : Nat → Addr) (b : Bst) (ds : List Dt) (c : Value) : Prop := ∃ x : Dt, ds = [x] ∧ NoNm b x ∧ c = .ref (ca 16)
theorem h_Bench__hap_of (T : Txt K mg ca fa ka) : HasM P w K mg base (L2.CX P w) 2 (ca 19) "_hap_of" ["self", "name"] (spBq K (ca 19) R_hof (X_hof ca)) := by
  refine T.d_Bench__hap_of.query sc_Bench__hap_of (fun b ds d h => by obtain ⟨_, _, rfl, _⟩ := h; rfl) (fun b ds c h => by obtain ⟨_, rfl, _⟩ := h; rfl) (fun f cdv A outer s H E hr => (pss_cons (ps_if (PW.pt (pw_or (pt_not (pt_val (pe_h (h_is_name T) hr (by decide) pass0 (pa_cons (pv 1) pa_nil)))) (pw_or1 (pt_cmp (pc_dnotin (lt64 hr.units) (pv 1) (fldK (K := K) rfl (pv 0) rfl)))))) (pss_one (ps_raise rfl (takes_of rfl rfl rfl rfl) (pmk_own PySem.F.excBase_ValueError T.x_NoName.x T.x_NoName.g T.x_NoName.k (raises_own T.x_NoName.b T.x_NoName.t) (by exact rfl)))) pss_nil) (pss_one (ps_ret (pe_dget (lt64 hr.units) (fldK (K := K) rfl (pv 0) rfl) (pv 1) (fun _ _ => rfl)))))) ?_ ?_
  · rintro x b ds d ⟨n, q, rfl, hl, hn, hq, rfl⟩
    refine by_no stb_br (ebt_or stb_br (a := false) (c := false) (ebt_is (ebt_not (ebt_B (eb_ev (ev_call (by walk_at "ea") (by exact ⟨_, rfl, fun s e => by cases e; exact hl, rfl⟩))))) (by rw [hn]; rfl)) (fun _ => ebt_is (ebt_B (eb_dnotin (fun _ _ h => h) stb_br T.cl_Bench T.na_Bench__haps rfl (ev_var rfl))) (by rw [hq]; rfl)) rfl) ?_
    exact by_ret stb_br fun E => eb_dget (fun _ _ h => h) T.cl_Bench T.na_Bench__haps rfl (ev_var rfl) hq
  · rintro x b ds c ⟨y, rfl, ⟨hs, h⟩, rfl⟩
    rcases h with h | ⟨n, rfl, h1, h2⟩
    · exact by_raise (ebt_or (c := true) stb_br (a := true) (ebt_is (ebt_not (ebt_B (eb_ev (ev_call (by walk_at "ea") (by exact ⟨_, rfl, hs, rfl⟩))))) (by rw [h]; rfl)) (fun z => by cases z) rfl)
    · exact by_raise (ebt_or stb_br (a := false) (c := true) (ebt_is (ebt_not (ebt_B (eb_ev (ev_call (by walk_at "ea") (by exact ⟨_, rfl, hs, rfl⟩))))) (by rw [h1]; rfl)) (fun _ => ebt_is (ebt_B (eb_dnotin (fun _ _ h => h) stb_br T.cl_Bench T.na_Bench__haps rfl (ev_var rfl))) (by rw [h2]; rfl)) rfl)
def R_drp (b : Bst) (ds : List Dt) (b' : Bst) : Prop := ∃ n : Str, ds = [.str n] ∧ n.length ≤ 90000 ∧ isNm (.str n) = true ∧ getH b.haps n ≠ none ∧ b.past.length ≤ 90000 ∧ b' = ⟨dropH b.haps n, b.speed, b.past ++ [(b.haps, b.speed)]⟩
theorem h_Bench_drop (T : Txt K mg ca fa ka) : HasM P w K mg base (L2.CX P w) 3 (ca 19) "drop" ["self", "name"] (spBd K (ca 19) R_drp (X_hof ca)) := by
  refine T.d_Bench_drop.deed sc_Bench_drop (fun b ds d h => by obtain ⟨_, rfl, _⟩ := h; rfl) (fun b ds c h => by obtain ⟨_, rfl, _⟩ := h; rfl) (fun f cdv A outer s H E hr => (pss_cons (ps_expr (pe_mh (h_Bench__hap_of T) T.cl_Bench hr (by decide) (passC (takes_of rfl rfl rfl rfl)) (pv 0) (pa_cons (pv 1) pa_nil))) (pss_cons (ps_set (i := 2) sc_Bench_drop.nd rfl (Or.inl rfl) (bm0K (K := K) rfl (pe_bm0 PySem.F.plainAttrs_dict PySem.F.slot_dict_copy PySem.F.type_dict_copy mt_copyD (fldK (K := K) rfl (pv 0) rfl)))) (pss_cons (ps_ddel (pv 2) (pv 1)) (pss_one (ps_expr (pe_mh (h_Bench__do T) T.cl_Bench hr (by decide) pass0 (pv 0) (pa_cons (pv 2) (pa_cons (fldK (K := K) rfl (pv 0) rfl) pa_nil))))))))) ?_ ?_
  · rintro x p b ds b' ⟨n, rfl, hl, hn, hg, hp, rfl⟩
    obtain ⟨q, hq⟩ := Option.ne_none_iff_exists'.mp hg
    exact by_drop stb_bn (fun E => eb_mq stb_bn (fun _ _ h => h.r) rfl (by decide +kernel) (by decide +kernel) (by decide +kernel) (eba_ev (by walk_at "ea")) (by exact ⟨n, q, rfl, hl, hn, hq, rfl⟩)) (by_end fun E => bn_drop T.cl_Bench T.na_Bench__haps T.na_Bench__speed hg hp)
  · rintro x p b ds c ⟨y, rfl, h, rfl⟩
    exact by_dropX (ebx_mq stb_bn (fun _ _ h => h.r) rfl (by decide +kernel) (by decide +kernel) (by decide +kernel) (eba_ev (by walk_at "ea")) (by exact ⟨y, rfl, h, rfl⟩))
def R_trn (b : Bst) (ds : List Dt) (b' : Bst) : Prop := ∃ v w : Rat, ds = [fq v] ∧ Pl v w ∧ Bq 1990 v ∧ b.past.length ≤ 90000 ∧ b' = ⟨b.haps, v, b.past ++ [(b.haps, b.speed)]⟩
def X_trn (ca : Nat → Addr) (b : Bst) (ds : List Dt) (c : Value) : Prop := X_beat_of ca ds c
theorem xbeat_len {ds : List Dt} {c : Value} (h : X_beat_of ca ds c) : ds.length + 1 = 2 := by
  obtain ⟨_, rfl, _⟩ := h
  rfl
theorem h_Bench_turn (T : Txt K mg ca fa ka) : HasM P w K mg base (L2.CX P w) 7 (ca 19) "turn" ["self", "speed"] (spBd K (ca 19) R_trn (X_trn ca)) := by
  refine T.d_Bench_turn.deed sc_Bench_turn (fun b ds d h => by obtain ⟨_, _, rfl, _⟩ := h; rfl) (fun b ds c h => xbeat_len h) (fun f cdv A outer s H E hr => (pss_cons (ps_expr (pe_h (h_check_plain T) hr (by decide) (passC (takes_of rfl rfl rfl rfl)) (pa_cons (pv 1) pa_nil))) (pss_one (ps_expr (pe_mh (h_Bench__do T) T.cl_Bench hr (by decide) pass0 (pv 0) (pa_cons (fldK (K := K) rfl (pv 0) rfl) (pa_cons (pv 1) pa_nil))))))) ?_ ?_
  · rintro x p b ds b' ⟨v, w, rfl, hv, bv, hp, rfl⟩
    exact by_ok stb_bn (eba_ev (by walk_at "ea")) (by exact ⟨v, w, rfl, hv.s, bv, hv.p, hv.e, rfl⟩) (by_end fun E => bn_turn T.cl_Bench T.na_Bench__haps hp rfl (eb_ev (ev_var rfl)))
  · rintro x p b ds c h
    obtain ⟨a, rfl, _⟩ := id h
    exact by_out (eba_ev (by walk_at "ea")) h
def R_psh (b : Bst) (ds : List Dt) (b' : Bst) : Prop := ∃ v w : Rat, ds = [fq v] ∧ Pl v w ∧ Bq 1990 v ∧ Sp b.speed ∧ Jb b.speed v ∧ b.past.length ≤ 90000 ∧ b' = ⟨b.haps, jn b.speed v, b.past ++ [(b.haps, b.speed)]⟩
theorem h_Bench_push (T : Txt K mg ca fa ka) : HasM P w K mg base (L2.CX P w) 7 (ca 19) "push" ["self", "speed"] (spBd K (ca 19) R_psh (X_trn ca)) := by
  refine T.d_Bench_push.deed sc_Bench_push (fun b ds d h => by obtain ⟨_, _, rfl, _⟩ := h; rfl) (fun b ds c h => xbeat_len h) (fun f cdv A outer s H E hr => (pss_cons (ps_expr (pe_h (h_check_plain T) hr (by decide) (passC (takes_of rfl rfl rfl rfl)) (pa_cons (pv 1) pa_nil))) (pss_one (ps_expr (pe_mh (h_Bench__do T) T.cl_Bench hr (by decide) pass0 (pv 0) (pa_cons (fldK (K := K) rfl (pv 0) rfl) (pa_cons (pe_h (h_together T) hr (by decide) (passC (takes_of rfl rfl rfl rfl)) (pa_cons (fldK (K := K) rfl (pv 0) rfl) (pa_cons (pv 1) pa_nil))) pa_nil))))))) ?_ ?_
  · rintro x p b ds b' ⟨v, w, rfl, hv, bv, hs, jb, hp, rfl⟩
    exact by_ok stb_bn (eba_ev (by walk_at "ea")) (by exact ⟨v, w, rfl, hv.s, bv, hv.p, hv.e, rfl⟩) (by_end fun E => bn_turn T.cl_Bench T.na_Bench__haps hp rfl (eb_callX (eba_cons stb_bn (eb_speed (fun _ _ h => h.r) T.cl_Bench T.na_Bench__speed rfl) (eba_ev (by walk_at "ea"))) (by exact ⟨_, _, rfl, hs, hv.s, jb, rfl⟩)))
  · rintro x p b ds c h
    obtain ⟨a, rfl, _⟩ := id h
    exact by_out (eba_ev (by walk_at "ea")) h
def R_und (b : Bst) (ds : List Dt) (b' : Bst) : Prop := ds = [] ∧ ∃ (h0 : Hps) (s0 : Rat) (pt : List (Hps × Rat)), b.past = pt ++ [(h0, s0)] ∧ b' = ⟨h0, s0, pt⟩
def X_und (ca : Nat → Addr) (b : Bst) (ds : List Dt) (c : Value) : Prop := ds = [] ∧ b.past = [] ∧ c = .ref (ca 17)
theorem h_Bench_undo (T : Txt K mg ca fa ka) : HasM P w K mg base (L2.CX P w) 1 (ca 19) "undo" ["self"] (spBd K (ca 19) R_und (X_und ca)) := by
  refine T.d_Bench_undo.deed sc_Bench_undo (fun b ds d h => by obtain ⟨rfl, _⟩ := h; rfl) (fun b ds c h => by obtain ⟨rfl, _⟩ := h; rfl) (fun f cdv A outer s H E hr => (pss_cons (ps_if (pt_cmpR (eqEK (K := K) rfl hr.units) (fldK (K := K) rfl (pv 0) rfl) (pe_lst pa_nil) (nomark _)) (pss_one (ps_raise rfl (takes_of rfl rfl rfl rfl) (pmk_own PySem.F.excBase_ValueError T.x_NoDeed.x T.x_NoDeed.g T.x_NoDeed.k (raises_own T.x_NoDeed.b T.x_NoDeed.t) (by exact rfl)))) pss_nil) (pss_one (ps_asg (bm0K (K := K) rfl (pe_bm0 PySem.F.plainAttrs_list PySem.F.slot_list_pop PySem.F.type_list_pop mt_pop (fldK (K := K) rfl (pv 0) rfl))) (tupK (K := K) (n := 2) rfl rfl (pgs_cons (fldGK (K := K) rfl (pv 0)) (pgs_cons (fldGK (K := K) rfl (pv 0)) pgs_nil))))))) ?_ ?_
  · rintro x p b ds b' ⟨rfl, h0, s0, pt, hp, rfl⟩
    exact by_no stb_bn (ebt_is (ebt_test (eb_pastE (fun _ _ h => h) T.cl_Bench T.na_Bench__past rfl)) (by rw [hp]; cases pt <;> rfl)) (by_end fun E => bn_undo T.cl_Bench T.na_Bench__haps T.na_Bench__speed T.na_Bench__past rfl hp)
  · rintro x p b ds c ⟨rfl, hp, rfl⟩
    exact by_raise (ebt_is (ebt_test (eb_pastE (fun _ _ h => h) T.cl_Bench T.na_Bench__past rfl)) (by rw [hp]; rfl))
def R_nms (b : Bst) (ds : List Dt) (d : Dt) : Prop := ds = [] ∧ b.haps.length < 64 ∧ d = namesD b
theorem h_Bench_names (T : Txt K mg ca fa ka) : HasM P w K mg base CX0 1 (ca 19) "names" ["self"] (spBqW K (ca 19) WN1 R_nms) := by
  refine T.d_Bench_names.askW sc_Bench_names (fun b ds d h => by obtain ⟨rfl, _⟩ := h; rfl) (fun f cdv A outer s H E hr => (pss_one (ps_ret (pe_callB (sortH rfl) (by rfl) T.m_sorted (by decide +kernel) (pa_cons (fldK (K := K) rfl (pv 0) rfl) pa_nil))))) ?_
  rintro x b ds d ⟨rfl, hl, rfl⟩
  exact rbw_ret (ebw_names (fun _ _ h => h) T.cl_Bench T.na_Bench__haps rfl hl)
def R_spd (b : Bst) (ds : List Dt) (d : Dt) : Prop := ds = [] ∧ d = fq b.speed
theorem h_Bench_speed (T : Txt K mg ca fa ka) : HasM P w K mg base CX0 1 (ca 19) "speed" ["self"] (spBq K (ca 19) R_spd fun _ _ _ => False) := by
  refine T.d_Bench_speed.ask sc_Bench_speed (fun b ds d h => by obtain ⟨rfl, _⟩ := h; rfl) (fun f cdv A outer s H E hr => (pss_one (ps_ret (fldK (K := K) rfl (pv 0) rfl)))) ?_
  rintro x b ds d ⟨rfl, rfl⟩
  exact by_ret stb_br fun E => eb_speed (fun _ _ h => h) T.cl_Bench T.na_Bench__speed rfl
def R_tel (b : Bst) (ds : List Dt) (d : Dt) : Prop := ∃ (n : Str) (q : Rat × Rat) (w : Rat), ds = [.str n] ∧ n.length ≤ 90000 ∧ isNm (.str n) = true ∧ getH b.haps n = some q ∧ Pl b.speed w ∧ Bq 1800 b.speed ∧ Bq 90 q.1 ∧ Bq 90 q.2 ∧ d = hpD (mvP b.speed w (0, 0) q)
theorem h_Bench_tell (T : Txt K mg ca fa ka) : HasM P w K mg base (L2.CX P w) 10 (ca 19) "tell" ["self", "name"] (spBq K (ca 19) R_tel (X_hof ca)) := by
  refine T.d_Bench_tell.query sc_Bench_tell (fun b ds d h => by obtain ⟨_, _, _, rfl, _⟩ := h; rfl) (fun b ds c h => by obtain ⟨_, rfl, _⟩ := h; rfl) (fun f cdv A outer s H E hr => (pss_one (ps_ret (pe_h (h_told_from T) hr (by decide) (passC (takes_of rfl rfl rfl rfl)) (pa_cons (pe_tup (pa_cons (fldK (K := K) rfl (pv 0) rfl) (pa_cons (pe_tup (pa_cons (pe_glob (v := .ref (ka 4)) (by rfl) T.v_NOUGHT rfl) (pa_cons (pe_glob (v := .ref (ka 4)) (by rfl) T.v_NOUGHT rfl) pa_nil))) pa_nil))) (pa_cons (pe_mh (h_Bench__hap_of T) T.cl_Bench hr (by decide) (passC (takes_of rfl rfl rfl rfl)) (pv 0) (pa_cons (pv 1) pa_nil)) pa_nil)))))) ?_ ?_
  rotate_left
  · rintro x b ds c ⟨y, rfl, h, rfl⟩
    exact by_retX (ebx_arg (eax_2 stb_br (fun E => eb_is (eb_tup (eba_cons stb_br (eb_speed (fun _ _ h => h) T.cl_Bench T.na_Bench__speed rfl) (eba_ev (ea_cons (ev_tup (ea_cons (ev_NOUGHT T) (ea_cons (ev_NOUGHT T) ea_nil))) ea_nil)))) (show _ = seatD b.speed 0 0 from rfl)) (eax_1 (ebx_mq stb_br (fun _ _ h => h) rfl (by decide +kernel) (by decide +kernel) (by decide +kernel) (eba_ev (by walk_at "ea")) (by exact ⟨y, rfl, h, rfl⟩)))))
  rintro x b ds d ⟨n, q, w, rfl, hl, hn, hq, hv, bv, b1, b2, rfl⟩
  exact by_ret stb_br fun E => eb_callX (eba_cons stb_br (eb_is (eb_tup (eba_cons stb_br (eb_speed (fun _ _ h => h) T.cl_Bench T.na_Bench__speed rfl) (eba_ev (ea_cons (ev_tup (ea_cons (ev_NOUGHT T) (ea_cons (ev_NOUGHT T) ea_nil))) ea_nil)))) (show _ = seatD b.speed 0 0 from rfl)) (eba_cons stb_br (eb_mq stb_br (fun _ _ h => h) rfl (by decide +kernel) (by decide +kernel) (by decide +kernel) (eba_ev (by walk_at "ea")) (by exact ⟨n, q, rfl, hl, hn, hq, rfl⟩)) (eba_ev ea_nil))) (by exact toldV_ok hv bv (bq_zero.mono (by decide)) (bq_zero.mono (by decide)) b1 b2)
def R_ord (b : Bst) (ds : List Dt) (d : Dt) : Prop := ds = [] ∧ UbB b ∧ d = ordB b
theorem h_Bench_order (T : Txt K mg ca fa ka) : HasM P w K mg base (L2.CX P w) 4 (ca 19) "order" ["self"] (spBqW K (ca 19) WN2 R_ord) := by
  refine T.d_Bench_order.askWX sc_Bench_order (fun b ds d h => by obtain ⟨rfl, _⟩ := h; rfl) (fun f cdv A outer s H E hr => (pss_cons (ps_set (i := 1) sc_Bench_order.nd rfl (Or.inr rfl) (pe_mh0 (h_Bench_names T) T.cl_Bench hr (by decide) pass0 (pv 0) )) (pss_cons (ps_setLc (i := 2) (own := [("name", 3)]) (g := gName 3) (tt := tYes) rfl sc_Bench_order.nd rfl rfl (by rfl) (lstK (K := K) rfl (pv 1)) (blkOk_by (own := [("name", 3)]) (N := ["self", "names", "haps", "name", "at", "numbers"]) (sc := defScope s_Bench_order) (by decide +kernel)) (fun _ _ _ _ _ => pg_name (i := 3) sc_Bench_order.nd rfl (Or.inl rfl)) (fun _ _ _ _ _ => pts_nil) (fun _ _ _ _ _ => (pe_dget (lt64 hr.units) (fldK (K := K) rfl (pv 0) rfl) (pv 3) (fun _ _ => rfl)))) (pss_one (ps_ret (pe_lc (own := [("numbers", 5)]) (g := gName 5) (tt := tYes) rfl sc_Bench_order.nd (lstK (K := K) rfl (pe_h (h_standing T) hr (by decide) passL (pa_cons (pv 2) (pa_cons (fldK (K := K) rfl (pv 0) rfl) pa_nil)))) (blkOk_by (own := [("numbers", 5)]) (N := ["self", "names", "haps", "name", "at", "numbers"]) (sc := defScope s_Bench_order) (by decide +kernel)) (fun _ _ _ _ _ => pg_name (i := 5) sc_Bench_order.nd rfl (Or.inl rfl)) (fun _ _ _ _ _ => pts_nil) (fun _ _ _ _ _ => (pe_lc (own := [("at", 4)]) (g := gName 4) (tt := tYes) rfl sc_Bench_order.nd (lstK (K := K) rfl (pv 5)) (blkOk_by (own := [("at", 4)]) (N := ["self", "names", "haps", "name", "at", "numbers"]) (sc := _) (by rfl)) (fun _ _ _ _ _ => pg_name (i := 4) sc_Bench_order.nd rfl (Or.inl rfl)) (fun _ _ _ _ _ => pts_nil) (fun _ _ _ _ _ => (pe_ix (ixK (K := K) rfl) (pv 1) (pv 4) (fun _ _ => rfl))))))))))) ?_
  rintro x b ds d ⟨rfl, hU, rfl⟩ E
  have h12 := hU.le
  have tl := tsB_len b
  refine rbw_seq wn2_ok (bn_asg (N := fun s => s = [.raw (.ref x), .d (namesD b), .no, .no, .no, .no]) (x := namesD b) stb_br (ebw_eb (ebw_mq wn1_ok stb_br (fun _ _ h => h) rfl (by decide +kernel) (by decide +kernel) (by decide +kernel) (eba_ev ea_nil) (by exact ⟨rfl, by omega, rfl⟩))) rfl) ?_
  rintro s rfl
  refine rbw_seq wn2_ok (bn_asg (N := fun s => s = [.raw (.ref x), .d (namesD b), .d (hapsD (tsB b)), .no, .no, .no]) (x := hapsD (tsB b)) stb_br (eb_lcP (ds := (srtN (b.haps.map (·.1))).map Dt.str) (by unfold tsB; rw [List.length_map, List.length_map, List.length_map]) stb_br (eb_ev (ev_var rfl)) (by rw [List.length_map, srtN_len, List.length_map]; omega) (fun k d e hd he => ?_)) rfl) ?_
  · unfold tsB at he
    rw [List.getElem?_map] at hd
    rw [List.getElem?_map, List.getElem?_map] at he
    obtain ⟨n, hn, rfl⟩ := Option.map_eq_some_iff.mp hd
    rw [hn] at he
    cases he
    exact eb_dget (fun _ _ h => h) T.cl_Bench T.na_Bench__haps rfl (ev_var rfl) (getHD (srtN_mem.mp (List.mem_of_getElem? hn)))
  rintro s rfl
  have lr := rsg_len (stQ (tsB b) b.speed)
  have ls : (stQ (tsB b) b.speed).length = (tsB b).length := List.length_map ..
  refine rbw_ret (ebw_lc (ds := (rsg (stQ (tsB b) b.speed)).map fun q => .lst (numsD (atQ (tsB b) b.speed q))) (es := (rsg (stQ (tsB b) b.speed)).map (rowB b)) (by rw [List.length_map, List.length_map]) (eb_callN (eba_cons stb_br (eb_ev (ev_var rfl)) (eba_cons stb_br (eb_speed (fun _ _ h => h) T.cl_Bench T.na_Bench__speed rfl) (eba_ev ea_nil))) (by exact ⟨tsB b, b.speed, rfl, hU.tl, hU.st, st_denB hU.ts hU.tl hU.q, rfl⟩)) (by rw [List.length_map]; omega) (fun k d e hd he => ?_))
  rw [List.getElem?_map] at hd he
  obtain ⟨q, hq, rfl⟩ := Option.map_eq_some_iff.mp hd
  rw [hq] at he
  cases he
  exact en_row (i := 4) (j := 1) (m := 5) (by omega) rfl (fun _ => rfl) (fun _ => rfl)
def R_knd (b : Bst) (ds : List Dt) (d : Dt) : Prop := ∃ (n m : Str) (q r : Rat × Rat), ds = [.str n, .str m] ∧ (n.length ≤ 90000 ∧ isNm (.str n) = true) ∧ (m.length ≤ 90000 ∧ isNm (.str m) = true) ∧ getH b.haps n = some q ∧ getH b.haps m = some r ∧ (Bq 1000 q.1 ∧ Bq 1000 q.2) ∧ (Bq 1000 r.1 ∧ Bq 1000 r.2) ∧ d = .str (wordS (r.1 - q.1) (r.2 - q.2))
def X_knd (ca : Nat → Addr) (b : Bst) (ds : List Dt) (c : Value) : Prop := ∃ x y : Dt, ds = [x, y] ∧ (NoNm b x ∨ ((∃ (n : Str) (q : Rat × Rat), x = .str n ∧ n.length ≤ 90000 ∧ isNm x = true ∧ getH b.haps n = some q) ∧ NoNm b y)) ∧ c = .ref (ca 16)
theorem h_Bench_kind (T : Txt K mg ca fa ka) : HasM P w K mg base (L2.CX P w) 5 (ca 19) "kind" ["self", "one", "other"] (spBq K (ca 19) R_knd (X_knd ca)) := by
  refine T.d_Bench_kind.query sc_Bench_kind (fun b ds d h => by obtain ⟨_, _, _, _, rfl, _⟩ := h; rfl) (fun b ds c h => by obtain ⟨_, _, rfl, _⟩ := h; rfl) (fun f cdv A outer s H E hr => (pss_one (ps_ret (pe_h (h_kind_of T) hr (by decide) pass0 (pa_cons (pe_mh (h_Bench__hap_of T) T.cl_Bench hr (by decide) (passC (takes_of rfl rfl rfl rfl)) (pv 0) (pa_cons (pv 1) pa_nil)) (pa_cons (pe_mh (h_Bench__hap_of T) T.cl_Bench hr (by decide) (passC (takes_of rfl rfl rfl rfl)) (pv 0) (pa_cons (pv 2) pa_nil)) pa_nil)))))) ?_ ?_
  · rintro x b ds d ⟨n, m, q, r, rfl, ⟨l1, n1⟩, ⟨l2, n2⟩, g1, g2, b1, b2, rfl⟩
    exact by_ret stb_br fun E => eb_call (eba_cons stb_br (eb_mq stb_br (fun _ _ h => h) rfl (by decide +kernel) (by decide +kernel) (by decide +kernel) (eba_ev (by walk_at "ea")) (by exact ⟨n, q, rfl, l1, n1, g1, rfl⟩)) (eba_cons stb_br (eb_mq stb_br (fun _ _ h => h) rfl (by decide +kernel) (by decide +kernel) (by decide +kernel) (eba_ev (by walk_at "ea")) (by exact ⟨m, r, rfl, l2, n2, g2, rfl⟩)) (eba_ev ea_nil))) (by exact ⟨_, _, _, _, rfl, b1.1.mono (by decide), b1.2.mono (by decide), b2.1.mono (by decide), b2.2.mono (by decide), rfl⟩)
  · rintro x b ds c ⟨y, z, rfl, h, rfl⟩
    rcases h with h | ⟨⟨n, q, rfl, l1, n1, g1⟩, h⟩
    · exact by_retX (ebx_arg (eax_1 (ebx_mq stb_br (fun _ _ h => h) rfl (by decide +kernel) (by decide +kernel) (by decide +kernel) (eba_ev (by walk_at "ea")) (by exact ⟨y, rfl, h, rfl⟩))))
    · exact by_retX (ebx_arg (eax_2 stb_br (fun E => eb_mq stb_br (fun _ _ h => h) rfl (by decide +kernel) (by decide +kernel) (by decide +kernel) (eba_ev (by walk_at "ea")) (by exact ⟨n, q, rfl, l1, n1, g1, rfl⟩)) (eax_1 (ebx_mq stb_br (fun _ _ h => h) rfl (by decide +kernel) (by decide +kernel) (by decide +kernel) (eba_ev (by walk_at "ea")) (by exact ⟨z, rfl, h, rfl⟩)))))
def R_cell_at (ds : List Dt) (d : Dt) : Prop := ∃ (ns : List Int) (k : Nat), ds = [.lst (ns.map Dt.int), .int k] ∧ d = .int (ns.getD k 0)
theorem cell_ok {ns : List Int} {k : Nat} : R_cell_at [.lst (ns.map Dt.int), .int k] (.int (ns.getD k 0)) := ⟨ns, k, rfl, rfl⟩
local macro_rules | `(tactic| walk_at "rok") => `(tactic| exact cell_ok)
theorem h__law_cell_at (T : Txt K mg ca fa ka) : Has P w K mg base CX0 1 "_law_cell_at" ["_law_script", "_law_k"] (spP K R_cell_at) := by
  refine T.d__law_cell_at.pure sc__law_cell_at (fun ds d h => by obtain ⟨ns, k, rfl, _⟩ := h; rfl) (fun f cdv A outer s H E hr => (pss_cons (ps_if (pt_cmpR op_lt (pv 1) (pe_callB (lenK (K := K) rfl) (by rfl) T.m_len (by decide +kernel) (pa_cons (pv 0) pa_nil)) (nomark _)) (pss_one (ps_ret (pe_ix (ixK (K := K) rfl) (pv 0) (pv 1) (fun _ _ => rfl)))) pss_nil) (pss_one (ps_ret pe_int)))) ?_
  rintro ds d ⟨ns, k, rfl, rfl⟩
  refine rt_cond (et_test (ev_op (ev_var rfl) (ev_cb (ea_cons (ev_var rfl) ea_nil) rc_lenL) r2_lt)) (fun hb => ?_) (fun hb => ?_)
  · have hk := of_decide_eq_true hb
    rw [List.length_map] at hk
    have hk' : k < ns.length := by omega
    refine rt_ret (ev_op (ev_var rfl) (ev_var rfl) (r2_ixL ?_))
    rw [List.getD_eq_getElem?_getD, List.getElem?_eq_getElem hk', Option.getD_some]
    exact atI_nat (by rw [List.getElem?_map, List.getElem?_eq_getElem hk']; rfl)
  · have hk := of_decide_eq_false hb
    rw [List.length_map] at hk
    refine rt_is (rt_ret ev_int) ?_
    rw [List.getD_eq_getElem?_getD, List.getElem?_eq_none (by omega), Option.getD_none]
theorem h__law_pot (T : Txt K mg ca fa ka) : Has P w K mg base CX0 1 "_law_pot" ["_law_cell"] (spNew K fun ds => ∃ c : Int, ds = [.int c]) := by
  refine T.d__law_pot.newpot sc__law_pot (fun ds h => by obtain ⟨c, rfl⟩ := h; rfl) (fun f cdv A outer s H E hr => (pss_cons (ps_if (pt_cmpR op_ge (pv 0) (pe_op op_pow pe_int pe_int) (nomark _)) (pss_one (ps_ret (pe_lst (pa_cons (pe_op op_sub (pv 0) (pe_op op_pow pe_int pe_int)) pa_nil)))) pss_nil) (pss_cons (ps_set (i := 1) sc__law_pot.nd rfl (Or.inl rfl) pe_int) (pss_cons (ps_for PassesOwn.never rfl (pi_range1 rfl T.m_range (pa_cons pe_int pa_nil)) (pg_name (i := 2) sc__law_pot.nd rfl (Or.inl rfl)) (pss_cons (ps_set (i := 3) sc__law_pot.nd rfl (Or.inl rfl) (pe_op op_modN (pe_op op_mulA (pe_op op_add (pe_op op_add (pe_op op_modN (pv 0) pe_int) (pe_op op_mulA pe_int (pv 2))) pe_int) pe_int) pe_int)) (pss_cons (ps_set (i := 3) sc__law_pot.nd rfl (Or.inl rfl) (pe_op op_modN (pe_op op_add (pe_op op_add (pe_op op_mulA (pv 3) (pv 3)) (pe_op op_mulA pe_int (pv 2))) pe_int) pe_int)) (pss_one (ps_set (i := 1) sc__law_pot.nd rfl (Or.inl rfl) (pe_op op_add (pe_op op_mulA (pv 1) pe_int) (pv 3))))))) (pss_one (ps_ret (pe_lst (pa_cons (pv 1) pa_nil)))))))) ?_
  rintro ds ⟨c, rfl⟩ G H σ k f D q
  have new : ∀ (e : Int) (te : TE) (sl : List Sl) (G1 H1 : Hp) (σ1 : L2.St), Nx G H G1 H1 → FrD K G1 σ1 sl → Ev K te sl (.int e) → tRet (tLst (tCons te tNil)) D σ1 H1 := fun e te sl G1 H1 σ1 n1 f1 h =>
    h G1 H1 σ1 n1.k f1 _ fun v G2 H2 n2 r2 => by
      cases r2
      refine ⟨sz_ok (by decide : 1 ≤ 100000), fun p hp => ?_⟩
      have n12 := n1.trans n2
      have hp0 : H p = none := free_of n12.h hp
      exact q p e G2 _ ⟨n12.g, n12.h.trans (Ex.new hp), n12.k.trans (Ex.new hp), n12.f⟩ hp0 (free_of n12.k hp) upd_same
  have ht : EvT K (tTest (tOp (rI0 fun i j => .bl (decide (j ≤ i))) (tVar 0) (tOp (rI CPow fun i j => .int (i ^ j.toNat)) (tC (.int 10)) (tC (.int 18))))) [.d (.int c), .no, .no, .no] (decide ((10 : Int) ^ (18 : Int).toNat ≤ c)) :=
    et_test (ev_op (ev_var rfl) (ev_op ev_int ev_int (r2_pow ⟨by decide, by decide, by decide⟩)) r2_ge)
  refine ht G H σ k f _ fun G1 H1 n1 => ?_
  by_cases hc : (10 : Int) ^ (18 : Int).toNat ≤ c
  · rw [decide_eq_true hc]
    exact new _ _ _ G1 H1 σ n1 (FrD.mono n1.g f) (ev_op (ev_var rfl) (ev_op ev_int ev_int (r2_pow ⟨by decide, by decide, by decide⟩)) r2_sub)
  · rw [decide_eq_false hc]
    refine iteF ?_
    dsimp only [tNext]
    refine (nt_asg ev_int : Nt K (tAsg (tC (.int 0)) (gName 1)) _ _) G1 H1 σ n1.k (FrD.mono n1.g f) _ fun σ2 G2 H2 n2 f2 => ?_
    refine (ip_for (K := K) (ps := []) (n := 64) (I := fun _ sl => ∃ (n : Int) (s2 s3 : Sl), sl = [.d (.int c), .d (.int n), s2, s3]) (ea_cons ev_int ea_nil) ⟨by decide, by decide⟩ ⟨0, _, _, rfl⟩ ?_) G2 H2 σ2 n2.k f2 .nil _ fun σ3 sl3 G3 H3 ⟨n, s2, s3, e⟩ n3 _ f3 => ?_
    · rintro i sl hi ⟨n, s2, s3, rfl⟩
      have p1 : IntMulOk ((c.fmod 2147483629 + 7919 * (i : Int) + 1)) 48271 := mulR ⟨by decide, by decide⟩
      refine ip_nt (nt_asg (ev_op (ev_op (ev_op (ev_op (ev_op (ev_var rfl) ev_int (r2_mod (by decide))) (ev_op ev_int (ev_var rfl) (r2_mul (mulL ⟨by decide, by decide⟩))) r2_add) ev_int r2_add) ev_int (r2_mul p1)) ev_int (r2_mod (by decide)))) ?_
      generalize hm : ((c.fmod 2147483629 + 7919 * (i : Int) + 1) * 48271).fmod 2147483647 = m
      have bm : -(2 ^ 64) < m ∧ m < 2 ^ 64 := by
        have := fmod_bd (a := (c.fmod 2147483629 + 7919 * (i : Int) + 1) * 48271) (b := 2147483647) (by decide)
        rw [hm] at this
        omega
      refine ip_nt (nt_asg (ev_op (ev_op (ev_op (ev_op (ev_var rfl) (ev_var rfl) (r2_mul (mulL bm))) (ev_op ev_int (ev_var rfl) (r2_mul (mulL ⟨by decide, by decide⟩))) r2_add) ev_int r2_add) ev_int (r2_mod (by decide)))) ?_
      exact ip_end (nt_asg (ev_op (ev_op (ev_var rfl) ev_int (r2_mul (mulR ⟨by decide, by decide⟩))) (ev_var rfl) r2_add)) ⟨_, _, _, rfl⟩
    · subst e
      exact new n _ _ G3 H3 σ3 ((n1.trans n2).trans n3.nx) f3 (ev_var rfl)
theorem h__law_take (T : Txt K mg ca fa ka) : Has P w K mg base CX0 1 "_law_take" ["_law_pot_here", "_law_far"] spTake := by
  refine T.d__law_take.any sc__law_take (fun vs H Q E h => by obtain ⟨p, n, f, rfl, _⟩ := h; rfl) (fun f cdv A outer s H E hr => (pss_cons (ps_set (i := 2) sc__law_take.nd rfl (Or.inl rfl) (pe_op op_modN (pe_ix (ixK (K := K) rfl) (pv 0) pe_int (fun _ _ => rfl)) (pv 1))) (pss_cons (ps_asg (pe_op op_fdivA (pe_ix (ixK (K := K) rfl) (pv 0) pe_int (fun _ _ => rfl)) (pv 1)) (pg_sub (pv 0) pe_int set_list)) (pss_one (ps_ret (pv 2)))))) ?_
  rintro vs H Q E ⟨p, n, f, rfl, hp, h0, h9, q⟩
  have at0 : atI [V.int n] 0 = some (.int n) := rfl
  refine ⟨.ref p, rfl, .inl ⟨p, [.int n], 0, .int n, rfl, rfl, .inl (.inl hp), at0, .int f, rfl, n, f, rfl, rfl, by omega, ?_⟩⟩
  refine ⟨.ref p, rfl, .inl ⟨p, [.int n], 0, .int n, rfl, rfl, .inl (.inl hp), at0, .int f, rfl, n, f, rfl, rfl, ⟨by omega, h9⟩, ?_⟩⟩
  refine ⟨.ref p, rfl, p, [.int n], 0, 0, rfl, rfl, hp, rfl, .int (n.fmod f), rfl, ?_⟩
  have b := fmod_bd (a := n) h0
  exact q _ _ b.1 b.2
theorem h__law_fresh (T : Txt K mg ca fa ka) : Has P w K mg base CX0 1 "_law_fresh" [] (spFr K) := by
  refine T.d__law_fresh.any sc__law_fresh (fun vs H Q E h => by obtain ⟨rfl, _⟩ := h; rfl) (fun f cdv A outer s H E hr => (pss_one (ps_ret (pe_disp (pps_cons pe_str pe_dct (pps_cons pe_str (pe_tup (pa_cons pe_int (pa_cons pe_int pa_nil))) (pps_cons pe_str (pe_lst pa_nil) pps_nil))) rfl rfl (by simp) (by decide))))) ?_
  rintro vs H Q E ⟨rfl, G, k, q⟩
  exact fresh_ok k q
def NmS (d : Dt) : Prop := ∃ n : Str, d = .str n ∧ n.length ≤ 8 ∧ isNm (.str n) = true ∧ n ≠ "q"
theorem h__law_named (T : Txt K mg ca fa ka) : Has P w K mg base CX0 2 "_law_named" ["_law_pot_here"] (spM K (fun ds => ds = []) fun _ d => NmS d) := by
  refine T.d__law_named.draws sc__law_named (fun ds h => by subst h; rfl) (fun f cdv A outer s H E hr => (pss_one (ps_ret (pe_ix (ixK (K := K) rfl) (pe_lst (pa_cons pe_str (pa_cons pe_str (pa_cons pe_str (pa_cons pe_str (pa_cons pe_str (pa_cons pe_str (pa_cons pe_str (pa_cons pe_str (pa_cons pe_str (pa_cons pe_str (pa_cons pe_str (pa_cons pe_str (pa_cons pe_str (pa_cons pe_str pa_nil))))))))))))))) (pe_h (h__law_take T) hr (by decide) pass0 (pa_cons (pv 0) (pa_cons pe_int pa_nil))) (fun _ _ => rfl))))) ?_
  rintro ds rfl p
  have mem : p ∈ [p] := by simp
  refine ir_ret (ep_op (ep_ev (by walk_at "ev") (ep_take rfl mem (ep_ev ev_int ⟨14, rfl, by decide, by decide, fun m m0 m1 => ?_⟩))))
  obtain ⟨x, hat, hx⟩ := hit (P := NmS) (xs := [.str "a", .str "b", .str "ab", .str "hap", .str "z", .str "zzzzzzzz", .str "c", .str "d", .str "e", .str "f", .str "g", .str "h", .str "i", .str "j"]) m0 m1 rfl ⟨⟨_, rfl, by decide +kernel, by decide +kernel, by decide +kernel⟩, ⟨_, rfl, by decide +kernel, by decide +kernel, by decide +kernel⟩, ⟨_, rfl, by decide +kernel, by decide +kernel, by decide +kernel⟩, ⟨_, rfl, by decide +kernel, by decide +kernel, by decide +kernel⟩, ⟨_, rfl, by decide +kernel, by decide +kernel, by decide +kernel⟩, ⟨_, rfl, by decide +kernel, by decide +kernel, by decide +kernel⟩, ⟨_, rfl, by decide +kernel, by decide +kernel, by decide +kernel⟩, ⟨_, rfl, by decide +kernel, by decide +kernel, by decide +kernel⟩, ⟨_, rfl, by decide +kernel, by decide +kernel, by decide +kernel⟩, ⟨_, rfl, by decide +kernel, by decide +kernel, by decide +kernel⟩, ⟨_, rfl, by decide +kernel, by decide +kernel, by decide +kernel⟩, ⟨_, rfl, by decide +kernel, by decide +kernel, by decide +kernel⟩, ⟨_, rfl, by decide +kernel, by decide +kernel, by decide +kernel⟩, ⟨_, rfl, by decide +kernel, by decide +kernel, by decide +kernel⟩, trivial⟩
  exact ⟨_, r2_ixL hat, hx⟩
theorem h__law_low (T : Txt K mg ca fa ka) : Has P w K mg base CX0 1 "_law_low" ["_law_top", "_law_bottom"] (spP K R_low) := by
  refine T.d__law_low.pure sc__law_low (fun ds d h => by obtain ⟨t, b, rfl, _⟩ := h; rfl) (fun f cdv A outer s H E hr => (pss_cons (ps_par (i := 2) (j := 3) rfl sc__law_low.nd rfl rfl (by decide) rfl rfl (pa_cons (pe_callB cr_abs (by rfl) T.m_abs (by decide +kernel) (pa_cons (pv 0) pa_nil)) (pa_cons (pe_callB cr_abs (by rfl) T.m_abs (by decide +kernel) (pa_cons (pv 1) pa_nil)) pa_nil)) (by rfl)) (pss_cons (ps_while PassesOwn.never (pt_cmpR op_gt (pv 3) pe_int (nomark _)) (pss_one (ps_par (i := 2) (j := 3) rfl sc__law_low.nd rfl rfl (by decide) rfl rfl (pa_cons (pv 3) (pa_cons (pe_op op_modN (pv 2) (pv 3)) pa_nil)) (by rfl)))) (pss_cons (ps_if (pt_cmpR op_lt (pv 1) pe_int (nomark _)) (pss_one (ps_set (i := 2) sc__law_low.nd rfl (Or.inl rfl) (pe_op op_sub pe_int (pv 2)))) pss_nil) (pss_one (ps_ret (pe_tup (pa_cons (pe_op op_fdivA (pv 0) (pv 2)) (pa_cons (pe_op op_fdivA (pv 1) (pv 2)) pa_nil))))))))) ?_
  rintro ds d ⟨t, b, rfl, hb0, hb, rfl⟩
  refine rt_seq (nt_par (ea_cons (ev_cb (ea_cons (ev_var rfl) ea_nil) rc_abs) (ea_cons (ev_cb (ea_cons (ev_var rfl) ea_nil) rc_abs) ea_nil))) ?_
  have g0 : 0 < Nat.gcd t.natAbs b.natAbs := gcd_pos hb0
  refine rt_seq (nt_while (sl2 := [.d (.int t), .d (.int b), .d (.int ((Nat.gcd t.natAbs b.natAbs : Nat) : Int)), .d (.int ((0 : Nat) : Int))]) (fun s : Nat × Nat => [.d (.int t), .d (.int b), .d (.int (s.1 : Int)), .d (.int (s.2 : Int))]) (fun s => Nat.gcd s.1 s.2 = Nat.gcd t.natAbs b.natAbs) (fun s => s.2) (t.natAbs, b.natAbs) rfl rfl ?_) ?_
  · rintro ⟨x, y⟩ hg
    refine ⟨_, et_test (ev_op (ev_var rfl) ev_int r2_gt), fun hy => ?_, fun hy => ?_⟩
    · have hy : (0 : Int) < (y : Int) := of_decide_eq_true hy
      refine ⟨(y, x % y), ?_, Nat.mod_lt _ (by omega), ?_⟩
      · rw [← hg]
        show Nat.gcd y (x % y) = Nat.gcd x y
        rw [Nat.gcd_comm y, ← Nat.gcd_rec y x, Nat.gcd_comm]
      · refine nt_is (nt_par (ea_cons (ev_var rfl) (ea_cons (ev_op (ev_var rfl) (ev_var rfl) (r2_mod (by omega))) ea_nil))) ?_
        rw [fmod_nat]
        rfl
    · have hy : ¬ (0 : Int) < (y : Int) := of_decide_eq_false hy
      have y0 : y = 0 := by omega
      subst y0
      rw [← hg]
      show _ = _
      rw [Nat.gcd_zero_right]
  · refine rt_seq (nt_if (sl2 := [.d (.int t), .d (.int b), .d (.int (dvs t b)), .d (.int ((0 : Nat) : Int))]) (et_test (ev_op (ev_var rfl) ev_int r2_lt)) (fun h => ?_) (fun h => ?_)) ?_
    · refine nt_is (nt_asg (ev_op ev_int (ev_var rfl) r2_sub)) ?_
      have e : dvs t b = 0 - ((Nat.gcd t.natAbs b.natAbs : Nat) : Int) := by
        unfold dvs
        rw [if_pos (of_decide_eq_true h)]
        omega
      rw [e]
      rfl
    · refine nt_is nt_next ?_
      have e : dvs t b = ((Nat.gcd t.natAbs b.natAbs : Nat) : Int) := by
        unfold dvs
        rw [if_neg (of_decide_eq_false h)]
      rw [e]
    · have dk : ∀ i, CDivA i (dvs t b) := fun i => divok (dvs_ne hb0) (bt_dvs hb0 hb) (by decide)
      exact rt_is (rt_ret (ev_tup (ea_cons (ev_op (ev_var rfl) (ev_var rfl) (r2_div (dk _))) (ea_cons (ev_op (ev_var rfl) (ev_var rfl) (r2_div (dk _))) ea_nil)))) (low_fq hb0)
theorem h__law_hap (T : Txt K mg ca fa ka) : Has P w K mg base CX0 2 "_law_hap" ["_law_pot_here"] (spM K (fun ds => ds = []) fun _ d => ∃ t p : Rat, d = .tup [fq t, fq p] ∧ Bq 90 t ∧ Bq 4 p ∧ t.den ≤ 2) := by
  refine T.d__law_hap.draws sc__law_hap (fun ds h => by subst h; rfl) (fun f cdv A outer s H E hr => (pss_cons (ps_set (i := 1) sc__law_hap.nd rfl (Or.inl rfl) (pe_ix (ixK (K := K) rfl) (pe_lst (pa_cons pe_int (pa_cons (pe_op op_pow pe_int pe_int) pa_nil))) (pe_op op_fdivA (pe_h (h__law_take T) hr (by decide) pass0 (pa_cons (pv 0) (pa_cons pe_int pa_nil))) pe_int) (fun _ _ => rfl))) (pss_cons (ps_set (i := 2) sc__law_hap.nd rfl (Or.inl rfl) (pe_h (h__law_low T) hr (by decide) pass0 (pa_cons (pe_op op_add (pe_op op_sub (pe_h (h__law_take T) hr (by decide) pass0 (pa_cons (pv 0) (pa_cons pe_int pa_nil))) pe_int) (pe_op op_mulA pe_int (pv 1))) (pa_cons (pe_op op_add pe_int (pe_h (h__law_take T) hr (by decide) pass0 (pa_cons (pv 0) (pa_cons pe_int pa_nil)))) pa_nil)))) (pss_one (ps_ret (pe_tup (pa_cons (pv 2) (pa_cons (pe_h (h__law_low T) hr (by decide) pass0 (pa_cons (pe_op op_sub (pe_h (h__law_take T) hr (by decide) pass0 (pa_cons (pv 0) (pa_cons pe_int pa_nil))) pe_int) (pa_cons (pe_op op_add pe_int (pe_h (h__law_take T) hr (by decide) pass0 (pa_cons (pv 0) (pa_cons pe_int pa_nil)))) pa_nil))) pa_nil)))))))) ?_
  rintro ds rfl p
  have mem : p ∈ [p] := by simp
  refine ir_asg (ep_op (ep_ev (ev_lst (ea_cons ev_int (ea_cons (ev_op ev_int ev_int (r2_pow ⟨by decide, by decide, by decide⟩)) ea_nil))) (ep_op (ep_take rfl mem (ep_ev ev_int ⟨12, rfl, by decide, by decide, fun m m0 m1 => ep_ev ev_int ⟨_, r2_div ⟨by decide, by decide⟩, ?_⟩⟩)))))
  have hfar : ∃ far : Int, atI [Dt.int 0, .int (10 ^ (25 : Int).toNat)] (m.fdiv 11) = some (.int far) ∧ 0 ≤ far ∧ far ≤ 10 ^ 25 := by
    rw [Int.fdiv_eq_ediv_of_nonneg _ (by decide)]
    by_cases h : m < 11
    · rw [show m / 11 = 0 by omega]
      exact ⟨0, rfl, by decide, by decide⟩
    · rw [show m / 11 = 1 by omega]
      exact ⟨10 ^ (25 : Int).toNat, rfl, by decide, by decide⟩
  obtain ⟨far, hat, f0, f1⟩ := hfar
  refine ⟨_, r2_ixL hat, ?_⟩
  refine ir_asg (ep_call (epa_cons (ep_op (ep_op (ep_take rfl mem (ep_ev ev_int ⟨13, rfl, by decide, by decide, fun a a0 a1 => ep_ev ev_int ⟨_, r2_sub, ep_ev (ev_op ev_int (ev_var rfl) (r2_mul (mulL ⟨by decide, by decide⟩))) ⟨_, r2_add, epa_cons (ep_op (ep_ev ev_int (ep_take rfl mem (ep_ev ev_int ⟨2, rfl, by decide, by decide, fun b b0 b1 => ⟨_, r2_add, epa_nil ?_⟩⟩))))⟩⟩⟩))))))
  have bb : Bt 90 (1 + b) := by
    show (1 + b).natAbs < 2 ^ 90
    omega
  have ba : Bt 90 (a - 6 + 2 * far) := by
    show (a - 6 + 2 * far).natAbs < 2 ^ 90
    omega
  refine ⟨_, ⟨_, _, rfl, by omega, bb.mono (by decide), rfl⟩, ?_⟩
  refine ir_ret (ep_tup (epa_cons (ep_ev (ev_var rfl) (epa_cons (ep_call (epa_cons (ep_op (ep_take rfl mem (ep_ev ev_int ⟨13, rfl, by decide, by decide, fun c c0 c1 => ep_ev ev_int ⟨_, r2_sub, epa_cons (ep_op (ep_ev ev_int (ep_take rfl mem (ep_ev ev_int ⟨2, rfl, by decide, by decide, fun d d0 d1 => ⟨_, r2_add, epa_nil ?_⟩⟩))))⟩⟩)))))))))
  have bd : Bt 4 (1 + d) := by
    show (1 + d).natAbs < 2 ^ 4
    omega
  have bc : Bt 4 (c - 6) := by
    show (c - 6).natAbs < 2 ^ 4
    omega
  exact ⟨_, ⟨_, _, rfl, by omega, bd.mono (by decide), rfl⟩, epa_nil ⟨by exact Nat.le_of_ble_eq_true rfl, _, _, rfl, bq_div (by omega) ba bb, bq_div (by omega) bc bd, Nat.le_trans (den_le (by omega)) (by omega)⟩⟩
theorem h__law_stretch (T : Txt K mg ca fa ka) : Has P w K mg base CX0 2 "_law_stretch" ["_law_pot_here"] (spM K (fun ds => ds = []) fun _ d => ∃ q, d = fq q ∧ 0 < q ∧ Bq 21 q) := by
  refine T.d__law_stretch.draws sc__law_stretch (fun ds h => by subst h; rfl) (fun f cdv A outer s H E hr => (pss_cons (ps_set (i := 1) sc__law_stretch.nd rfl (Or.inl rfl) (pe_ix (ixK (K := K) rfl) (pe_lst (pa_cons pe_int (pa_cons pe_int (pa_cons pe_int (pa_cons (pe_op op_pow pe_int pe_int) pa_nil))))) (pe_h (h__law_take T) hr (by decide) pass0 (pa_cons (pv 0) (pa_cons pe_int pa_nil))) (fun _ _ => rfl))) (pss_cons (ps_set (i := 2) sc__law_stretch.nd rfl (Or.inl rfl) (pe_op op_add pe_int (pe_h (h__law_take T) hr (by decide) pass0 (pa_cons (pv 0) (pa_cons (pv 1) pa_nil))))) (pss_one (ps_ret (pe_h (h__law_low T) hr (by decide) pass0 (pa_cons (pv 2) (pa_cons (pe_op op_add pe_int (pe_h (h__law_take T) hr (by decide) pass0 (pa_cons (pv 0) (pa_cons (pv 1) pa_nil)))) pa_nil)))))))) ?_
  rintro ds rfl p
  have mem : p ∈ [p] := by simp
  refine ir_asg (ep_op (ep_ev (by walk_at "ev") (ep_take rfl mem (ep_ev ev_int ⟨4, rfl, by decide, by decide, fun m m0 m1 => ?_⟩))))
  obtain ⟨_, hat, far, rfl, f0, f1⟩ := hit (P := fun d => ∃ far : Int, d = .int far ∧ 0 < far ∧ far ≤ 10 ^ 6) (xs := [.int 9, .int 9, .int 9, .int (10 ^ (6 : Int).toNat)]) m0 m1 rfl ⟨⟨_, rfl, by decide, by decide⟩, ⟨_, rfl, by decide, by decide⟩, ⟨_, rfl, by decide, by decide⟩, ⟨_, rfl, by decide, by decide⟩, trivial⟩
  refine ⟨_, r2_ixL hat, ?_⟩
  refine ir_asg (ep_op (ep_ev ev_int (ep_take rfl mem (ep_ev (ev_var rfl) ⟨far, rfl, f0, lg64 (by omega) (by omega), fun t t0 t1 => ⟨_, r2_add, ?_⟩⟩))))
  refine ir_ret (ep_call (epa_cons (ep_ev (ev_var rfl) (epa_cons (ep_op (ep_ev ev_int (ep_take rfl mem (ep_ev (ev_var rfl) ⟨far, rfl, f0, lg64 (by omega) (by omega), fun b b0 b1 => ⟨_, r2_add, epa_nil ?_⟩⟩))))))))
  have bt : Bt 21 (1 + t) := by
    show (1 + t).natAbs < 2 ^ 21
    omega
  have bb : Bt 21 (1 + b) := by
    show (1 + b).natAbs < 2 ^ 21
    omega
  exact ⟨_, low_ok (by omega) (bb.mono (by decide)), _, rfl, pos_low (by omega) (by omega), bq_div (by omega) bt bb⟩
theorem h__law_fast (T : Txt K mg ca fa ka) : Has P w K mg base CX0 3 "_law_fast" ["_law_pot_here"] (spM K (fun ds => ds = []) fun _ d => ∃ s, d = fq (pl s) ∧ 0 < s ∧ Bq 21 s) := by
  refine T.d__law_fast.draws sc__law_fast (fun ds h => by subst h; rfl) (fun f cdv A outer s H E hr => (pss_cons (ps_asg (pe_h (h__law_stretch T) hr (by decide) pass0 (pa_cons (pv 0) pa_nil)) (tupK (K := K) (n := 2) rfl rfl (pgs_cons (pg_name (i := 1) sc__law_fast.nd rfl (Or.inl rfl)) (pgs_cons (pg_name (i := 2) sc__law_fast.nd rfl (Or.inl rfl)) pgs_nil)))) (pss_one (ps_ret (pe_h (h__law_low T) hr (by decide) pass0 (pa_cons (pe_op op_sub (pe_op op_mulA (pv 1) (pv 1)) (pe_op op_mulA (pv 2) (pv 2))) (pa_cons (pe_op op_add (pe_op op_mulA (pv 1) (pv 1)) (pe_op op_mulA (pv 2) (pv 2))) pa_nil))))))) ?_
  rintro ds rfl p
  have mem : p ∈ [p] := by simp
  refine ir_unp (ep_callM rfl mem (epa_nil ⟨rfl, ?_⟩))
  rintro _ ⟨s, rfl, s0, bs⟩
  refine ⟨_, _, rfl, ?_⟩
  have h0 : s.num * s.num + (s.den : Int) * (s.den : Int) ≠ 0 := by
    have a := den_pos s
    have b := Int.mul_pos a a
    have c : 0 ≤ s.num * s.num := by
      rw [← Int.natAbs_mul_self]
      omega
    omega
  have hb : Bt 9000 (s.num * s.num + (s.den : Int) * (s.den : Int)) := (bt_add (k := 43) (bt_mul bs.1 bs.1) (bt_mul bs.2 bs.2) (by decide) (by decide)).mono (by decide)
  have e := pl_low s s0
  refine ir_ret (ep_ev (ev_call (by walk_at "ea") (by exact low_ok h0 hb)) ⟨s, ?_, s0, bs⟩)
  rw [e]
theorem h__law_speed (T : Txt K mg ca fa ka) : Has P w K mg base CX0 4 "_law_speed" ["_law_pot_here"] (spM K (fun ds => ds = []) fun _ d => ∃ q, d = fq q ∧ Sp q ∧ Bq 67 q) := by
  refine T.d__law_speed.draws sc__law_speed (fun ds h => by subst h; rfl) (fun f cdv A outer s H E hr => (pss_cons (ps_set (i := 1) sc__law_speed.nd rfl (Or.inl rfl) (pe_h (h__law_take T) hr (by decide) pass0 (pa_cons (pv 0) (pa_cons pe_int pa_nil)))) (pss_cons (ps_if (pt_cmpR op_lt (pv 1) pe_int (nomark _)) (pss_one (ps_ret (pe_h (h__law_fast T) hr (by decide) pass0 (pa_cons (pv 0) pa_nil)))) pss_nil) (pss_cons (ps_if (pt_cmpR (eqK (K := K) rfl hr.units) (pv 1) pe_int (nomark _)) (pss_one (ps_ret (pe_tup (pa_cons (pe_op op_sub (pe_op op_pow pe_int pe_int) pe_int) (pa_cons (pe_op op_pow pe_int pe_int) pa_nil))))) pss_nil) (pss_cons (ps_set (i := 2) sc__law_speed.nd rfl (Or.inl rfl) (pe_op op_add pe_int (pe_h (h__law_take T) hr (by decide) pass0 (pa_cons (pv 0) (pa_cons pe_int pa_nil))))) (pss_cons (ps_set (i := 3) sc__law_speed.nd rfl (Or.inl rfl) (pe_op op_add (pe_op op_sub (pe_h (h__law_take T) hr (by decide) pass0 (pa_cons (pv 0) (pa_cons (pe_op op_sub (pe_op op_mulA pe_int (pv 2)) pe_int) pa_nil))) (pv 2)) pe_int)) (pss_one (ps_ret (pe_h (h__law_low T) hr (by decide) pass0 (pa_cons (pv 3) (pa_cons (pv 2) pa_nil))))))))))) ?_
  rintro ds rfl p
  have mem : p ∈ [p] := by simp
  refine ir_asg (ep_take rfl mem (ep_ev ev_int ⟨12, rfl, by decide, by decide, fun m m0 m1 => ?_⟩))
  refine ir_cond (by walk_at "et") (fun _ => ?_) (fun _ => ?_)
  · refine ir_ret (ep_callM rfl mem (epa_nil ⟨rfl, ?_⟩))
    rintro _ ⟨s, rfl, s0, bs⟩
    exact ⟨_, rfl, pl_sp s0, (bq_pl bs s0).mono (by decide)⟩
  refine ir_cond (by walk_at "et") (fun _ => ?_) (fun _ => ?_)
  · exact ir_ret (ep_ev (by walk_at "ev") ⟨⟨10 ^ 20 - 1, 10 ^ 20, by decide, by decide +kernel⟩, rfl, sp_iff.mpr (by decide +kernel), ⟨by show Int.natAbs _ < 2 ^ 67; decide +kernel, by show Int.natAbs _ < 2 ^ 67; decide +kernel⟩⟩)
  refine ir_asg (ep_op (ep_ev ev_int (ep_take rfl mem (ep_ev ev_int ⟨12, rfl, by decide, by decide, fun b b0 b1 => ⟨_, r2_add, ?_⟩⟩))))
  refine ir_asg (ep_op (ep_op (ep_take rfl mem (ep_ev (by walk_at "ev") ⟨_, rfl, by omega, lg64 (by omega) (by omega), fun t t0 t1 => ep_ev (ev_var rfl) ⟨_, r2_sub, ep_ev ev_int ⟨_, r2_add, ?_⟩⟩⟩))))
  have bt : Bt 67 (t - (1 + b) + 1) := by
    show (t - (1 + b) + 1).natAbs < 2 ^ 67
    omega
  have bb : Bt 67 (1 + b) := by
    show (1 + b).natAbs < 2 ^ 67
    omega
  exact ir_ret (ep_ev (ev_call (by walk_at "ea") (by exact low_ok (by omega) (bb.mono (by decide)))) ⟨_, rfl, sp_low (by omega) (by omega), bq_div (by omega) bt bb⟩)
theorem nm_txt {d : Dt} (h : NmS d) : TxtB d := fun s e => by
  obtain ⟨n, rfl, hn, _⟩ := h
  cases e
  omega
theorem nm_ntx {d : Dt} (h : NmS d) : NmT d := ⟨nm_txt h, fun e => by
  obtain ⟨n, rfl, _, _, hq⟩ := h
  cases e
  exact hq rfl⟩
theorem spd_fq {q : Rat} (s : Sp q) (b : Bq 67 q) : SpdB (fq q) := ⟨sz_fq (by show Int.natAbs _ < 2 ^ 9000; exact Nat.lt_of_lt_of_le b.2 (Nat.pow_le_pow_right (by decide) (by decide))), fun _ => ⟨q, rfl, s, b⟩⟩
theorem spd_non : SpdB .non := ⟨fun _ _ e => (by cases e), fun z => (by cases z)⟩
theorem spd_11 : SpdB (.tup [.int 1, .int 1]) := ⟨fun t b e => (by cases e; show Int.natAbs 1 < 2 ^ 9000; exact Nat.one_lt_two_pow (by decide)), fun z => absurd z (by decide +kernel)⟩
theorem spd_12 : SpdB (.tup [.int 1, .int 2]) := by
  obtain ⟨hv, n2, d2⟩ : ∃ h : Rat, h.num = 1 ∧ h.den = 2 := ⟨1 / 2, by decide +kernel, by decide +kernel⟩
  have eh : fq hv = .tup [.int 1, .int 2] := by
    unfold fq
    rw [n2, d2]
    rfl
  rw [← eh]
  have bq : Bq 67 hv := ⟨by rw [n2]; show Int.natAbs 1 < 2 ^ 67; decide, by rw [d2]; show Int.natAbs 2 < 2 ^ 67; decide⟩
  have sp : isSpD (fq hv) = true := by rw [eh]; decide +kernel
  exact ⟨sz_fq (by show Int.natAbs _ < 2 ^ 9000; exact Nat.lt_of_lt_of_le bq.2 (Nat.pow_le_pow_right (by decide) (by decide))), fun _ => ⟨hv, rfl, (by obtain ⟨q, sq, e⟩ := isSpD_iff.mp sp; rw [fq_inj e]; exact sq), bq⟩⟩
def HapOr (d : Dt) : Prop := Sz2 d ∧ (isHp d = true → ∃ q : Rat × Rat, d = hpD q ∧ Bq 90 q.1 ∧ Bq 4 q.2)
theorem hap_or {t r : Rat} (h1 : Bq 90 t) (h2 : Bq 4 r) : HapOr (.tup [fq t, fq r]) := ⟨⟨fun a b e => (by injection e with e; injection e with e _; cases e), fun a b e => (by
  injection e with e
  injection e with e1 e2
  injection e2 with e2 _
  subst e1 e2
  exact ⟨sz_fq (by show Int.natAbs _ < 2 ^ 9000; exact Nat.lt_of_lt_of_le h1.2 (Nat.pow_le_pow_right (by decide) (by decide))), sz_fq (by show Int.natAbs _ < 2 ^ 9000; exact Nat.lt_of_lt_of_le h2.2 (Nat.pow_le_pow_right (by decide) (by decide)))⟩)⟩, fun _ => ⟨(t, r), rfl, h1, h2⟩⟩
theorem h__law_deed (T : Txt K mg ca fa ka) : Has P w K mg base CX0 5 "_law_deed" ["_law_pot_here"] (spM K (fun ds => ds = []) fun _ d => ∃ de : Deed, d = .tup [.str de.w, .lst de.t] ∧ DeedOk de) := by
  refine T.d__law_deed.draws sc__law_deed (fun ds h => by subst h; rfl) (fun f cdv A outer s H E hr => (pss_cons (ps_set (i := 1) sc__law_deed.nd rfl (Or.inl rfl) (pe_h (h__law_take T) hr (by decide) pass0 (pa_cons (pv 0) (pa_cons pe_int pa_nil)))) (pss_cons (ps_if (pt_cmpR op_lt (pv 1) pe_int (nomark _)) (pss_cons (ps_set (i := 2) sc__law_deed.nd rfl (Or.inl rfl) (pe_h (h__law_named T) hr (by decide) pass0 (pa_cons (pv 0) pa_nil))) (pss_cons (ps_if (pt_cmpR (eqK (K := K) rfl hr.units) (pe_h (h__law_take T) hr (by decide) pass0 (pa_cons (pv 0) (pa_cons pe_int pa_nil))) pe_int (nomark _)) (pss_one (ps_set (i := 2) sc__law_deed.nd rfl (Or.inl rfl) (pe_ix (ixK (K := K) rfl) (pe_lst (pa_cons pe_str (pa_cons pe_str (pa_cons pe_str (pa_cons pe_int (pa_cons pe_non pa_nil)))))) (pe_h (h__law_take T) hr (by decide) pass0 (pa_cons (pv 0) (pa_cons pe_int pa_nil))) (fun _ _ => rfl)))) pss_nil) (pss_cons (ps_set (i := 3) sc__law_deed.nd rfl (Or.inl rfl) (pe_ix (ixK (K := K) rfl) (pe_lst (pa_cons (pe_tup (pa_cons (pe_tup (pa_cons pe_int (pa_cons pe_int pa_nil))) (pa_cons (pe_tup (pa_cons pe_int (pa_cons pe_int pa_nil))) pa_nil))) (pa_cons pe_non (pa_cons (pe_lst (pa_cons (pe_tup (pa_cons pe_int (pa_cons pe_int pa_nil))) (pa_cons (pe_tup (pa_cons pe_int (pa_cons pe_int pa_nil))) pa_nil))) (pa_cons pe_str pa_nil))))) (pe_h (h__law_take T) hr (by decide) pass0 (pa_cons (pv 0) (pa_cons pe_int pa_nil))) (fun _ _ => rfl))) (pss_one (ps_ret (pe_tup (pa_cons pe_str (pa_cons (pe_lst (pa_cons (pv 2) (pa_cons (pe_ix (ixK (K := K) rfl) (pe_lst (pa_cons (pe_h (h__law_hap T) hr (by decide) pass0 (pa_cons (pv 0) pa_nil)) (pa_cons (pv 3) pa_nil))) (pe_op op_fdivA (pe_h (h__law_take T) hr (by decide) pass0 (pa_cons (pv 0) (pa_cons pe_int pa_nil))) pe_int) (fun _ _ => rfl)) pa_nil))) pa_nil)))))))) pss_nil) (pss_cons (ps_if (pt_cmpR op_lt (pv 1) pe_int (nomark _)) (pss_one (ps_ret (pe_tup (pa_cons pe_str (pa_cons (pe_lst (pa_cons (pe_ix (ixK (K := K) rfl) (pe_lst (pa_cons (pe_h (h__law_named T) hr (by decide) pass0 (pa_cons (pv 0) pa_nil)) (pa_cons pe_str (pa_cons pe_non pa_nil)))) (pe_ix (ixK (K := K) rfl) (pe_lst (pa_cons pe_int (pa_cons pe_int (pa_cons pe_int (pa_cons pe_int (pa_cons pe_int (pa_cons pe_int pa_nil))))))) (pe_h (h__law_take T) hr (by decide) pass0 (pa_cons (pv 0) (pa_cons pe_int pa_nil))) (fun _ _ => rfl)) (fun _ _ => rfl)) pa_nil)) pa_nil))))) pss_nil) (pss_cons (ps_if (pt_cmpR op_lt (pv 1) pe_int (nomark _)) (pss_cons (ps_set (i := 4) sc__law_deed.nd rfl (Or.inl rfl) (pe_h (h__law_fast T) hr (by decide) pass0 (pa_cons (pv 0) pa_nil))) (pss_cons (ps_if (pt_cmpR (eqK (K := K) rfl hr.units) (pe_h (h__law_take T) hr (by decide) pass0 (pa_cons (pv 0) (pa_cons pe_int pa_nil))) pe_int (nomark _)) (pss_one (ps_set (i := 4) sc__law_deed.nd rfl (Or.inl rfl) (pe_ix (ixK (K := K) rfl) (pe_lst (pa_cons (pe_h (h__law_speed T) hr (by decide) pass0 (pa_cons (pv 0) pa_nil)) (pa_cons (pe_tup (pa_cons pe_int (pa_cons pe_int pa_nil))) (pa_cons (pe_tup (pa_cons pe_int (pa_cons pe_int pa_nil))) (pa_cons pe_non pa_nil))))) (pe_h (h__law_take T) hr (by decide) pass0 (pa_cons (pv 0) (pa_cons pe_int pa_nil))) (fun _ _ => rfl)))) pss_nil) (pss_one (ps_ret (pe_tup (pa_cons (pe_ix (ixK (K := K) rfl) (pe_lst (pa_cons pe_str (pa_cons pe_str pa_nil))) (pe_op op_modN (pv 1) pe_int) (fun _ _ => rfl)) (pa_cons (pe_lst (pa_cons (pv 4) pa_nil)) pa_nil))))))) pss_nil) (pss_one (ps_ret (pe_tup (pa_cons pe_str (pa_cons (pe_lst pa_nil) pa_nil)))))))))) ?_
  rintro ds rfl p
  have mem : p ∈ [p] := by simp
  refine ir_asg (ep_take rfl mem (ep_ev ev_int ⟨16, rfl, by decide, by decide, fun way w0 w1 => ?_⟩))
  refine ir_cond (et_test (ev_op (ev_var rfl) ev_int r2_lt)) (fun z1 => ?_) (fun z1 => ?_)
  · refine ir_asg (ep_callM rfl mem (epa_nil ⟨rfl, ?_⟩))
    rintro nm hnm
    refine ir_ip (N := fun s => ∃ x : Dt, NmT x ∧ s = [.raw (.ref p), .d (.int way), .d x, .no, .no]) (ip_ifP (ept_test (ep_op (ep_take rfl mem (ep_ev ev_int ⟨6, rfl, by decide, by decide, fun m m0 m1 => ep_ev ev_int ⟨_, r2_eqI, _, rfl, fun _ => ?_, fun _ => ⟨nm, nm_ntx hnm, rfl⟩⟩⟩))))) ?_
    · refine ip_asg1 (ep_op (ep_ev (by walk_at "ev") (ep_take rfl mem (ep_ev ev_int ⟨5, rfl, by decide, by decide, fun k k0 k1 => ?_⟩))))
      obtain ⟨x, hat, hx⟩ := hit (P := NmT) (xs := [.str "A", .str "", .str "abcdefghi", .int 5, .non]) k0 k1 rfl ⟨⟨fun s e => (by cases e; decide +kernel), fun e => absurd e (fun z => by injection z with z; revert z; decide +kernel)⟩, ⟨fun s e => (by cases e; decide +kernel), fun e => absurd e (fun z => by injection z with z; revert z; decide +kernel)⟩, ⟨fun s e => (by cases e; decide +kernel), fun e => absurd e (fun z => by injection z with z; revert z; decide +kernel)⟩, ⟨fun s e => (by cases e), fun e => by cases e⟩, ⟨fun s e => (by cases e), fun e => by cases e⟩, trivial⟩
      exact ⟨_, r2_ixL hat, x, hx, rfl⟩
    rintro s ⟨x, hx, rfl⟩
    refine ir_asg (ep_op (ep_ev (by walk_at "ev") (ep_take rfl mem (ep_ev ev_int ⟨4, rfl, by decide, by decide, fun k k0 k1 => ?_⟩))))
    obtain ⟨bad, hat, hb⟩ := hit (P := HapOr) (xs := [.tup [.tup [.int 0, .int 2], .tup [.int 0, .int 1]], .non, .lst [.tup [.int 0, .int 1], .tup [.int 0, .int 1]], .str "0@0"]) k0 k1 rfl ⟨⟨⟨fun a b e => (by cases e), fun a b e => (by cases e; exact ⟨fun t b e => (by cases e; show Int.natAbs 2 < 2 ^ 9000; exact Nat.lt_of_lt_of_le (m := 2 ^ 2) (by decide) (Nat.pow_le_pow_right (by decide) (by decide))), fun t b e => (by cases e; show Int.natAbs 1 < 2 ^ 9000; exact Nat.one_lt_two_pow (by decide))⟩)⟩, fun z => absurd z (by decide +kernel)⟩, ⟨⟨fun a b e => (by cases e), fun a b e => (by cases e)⟩, fun z => (by cases z)⟩, ⟨⟨fun a b e => (by cases e), fun a b e => (by cases e)⟩, fun z => (by cases z)⟩, ⟨⟨fun a b e => (by cases e), fun a b e => (by cases e)⟩, fun z => (by cases z)⟩, trivial⟩
    refine ⟨_, r2_ixL hat, ?_⟩
    refine ir_ret (ep_tup (epa_cons (ep_ev ev_str (epa_cons (ep_lst (epa_cons (ep_ev (ev_var rfl) (epa_cons (ep_op (ep_lst (epa_cons (ep_callM rfl mem (epa_nil ⟨rfl, ?_⟩)))))))))))))
    rintro hp ⟨t, r, rfl, bt, br, _⟩
    refine epa_ev (by walk_at "ea") ⟨by exact Nat.le_of_ble_eq_true rfl, ep_op (ep_take rfl mem (ep_ev ev_int ⟨8, rfl, by decide, by decide, fun j j0 j1 => ep_ev ev_int ⟨_, r2_div (by exact ⟨by decide, by decide⟩), ?_⟩⟩))⟩
    have hj : 0 ≤ j.fdiv 7 ∧ j.fdiv 7 < 2 := by
      rw [Int.fdiv_eq_ediv_of_nonneg _ (by decide)]
      omega
    obtain ⟨y, haty, hy⟩ := hit (P := HapOr) (xs := [.tup [fq t, fq r], bad]) hj.1 hj.2 rfl ⟨hap_or bt br, hb, trivial⟩
    exact ⟨_, r2_ixL haty, epa_nil ⟨by exact Nat.le_of_ble_eq_true rfl, epa_nil ⟨by exact Nat.le_of_ble_eq_true rfl, .put x y, rfl, hx, hy.1, hy.2⟩⟩⟩
  refine ir_cond (et_test (ev_op (ev_var rfl) ev_int r2_lt)) (fun z2 => ?_) (fun z2 => ?_)
  · refine ir_ret (ep_tup (epa_cons (ep_ev ev_str (epa_cons (ep_lst (epa_cons (ep_op (ep_lst (epa_cons (ep_callM rfl mem (epa_nil ⟨rfl, ?_⟩)))))))))))
    rintro nm hnm
    refine epa_ev (by walk_at "ea") ⟨by exact Nat.le_of_ble_eq_true rfl, ep_op (ep_ev (by walk_at "ev") (ep_take rfl mem (ep_ev ev_int ⟨6, rfl, by decide, by decide, fun k k0 k1 => ?_⟩)))⟩
    obtain ⟨ix, hat, i, rfl, i0, i1⟩ := hit (P := fun d => ∃ i : Int, d = .int i ∧ 0 ≤ i ∧ i < 3) (xs := [.int 0, .int 0, .int 0, .int 0, .int 1, .int 2]) k0 k1 rfl ⟨⟨_, rfl, by decide, by decide⟩, ⟨_, rfl, by decide, by decide⟩, ⟨_, rfl, by decide, by decide⟩, ⟨_, rfl, by decide, by decide⟩, ⟨_, rfl, by decide, by decide⟩, ⟨_, rfl, by decide, by decide⟩, trivial⟩
    refine ⟨_, r2_ixL hat, ?_⟩
    obtain ⟨y, haty, hy⟩ := hit (P := TxtB) (xs := [nm, .str "A", .non]) i0 i1 rfl ⟨nm_txt hnm, fun s e => (by cases e; decide +kernel), fun s e => (by cases e), trivial⟩
    exact ⟨_, r2_ixL haty, epa_nil ⟨by exact Nat.le_of_ble_eq_true rfl, epa_nil ⟨by exact Nat.le_of_ble_eq_true rfl, .drop y, rfl, hy⟩⟩⟩
  refine ir_cond (et_test (ev_op (ev_var rfl) ev_int r2_lt)) (fun z3 => ?_) (fun z3 => ir_ret (ep_ev (ev_tup (ea_cons ev_str (ea_cons (ev_lst ea_nil) ea_nil))) ⟨.undo, rfl, trivial⟩))
  refine ir_asg (ep_callM rfl mem (epa_nil ⟨rfl, ?_⟩))
  rintro _ ⟨sq, rfl, s0, bs⟩
  refine ir_ip (N := fun s => ∃ x : Dt, SpdB x ∧ s = [.raw (.ref p), .d (.int way), .no, .no, .d x]) (ip_ifP (ept_test (ep_op (ep_take rfl mem (ep_ev ev_int ⟨4, rfl, by decide, by decide, fun m m0 m1 => ep_ev ev_int ⟨_, r2_eqI, _, rfl, fun _ => ?_, fun _ => ⟨_, spd_fq (pl_sp s0) ((bq_pl bs s0).mono (by decide)), rfl⟩⟩⟩))))) ?_
  · refine ip_asg1 (ep_op (ep_lst (epa_cons (ep_callM rfl mem (epa_nil ⟨rfl, ?_⟩)))))
    rintro _ ⟨v, rfl, sv, bv⟩
    refine epa_ev (by walk_at "ea") ⟨by exact Nat.le_of_ble_eq_true rfl, ep_take rfl mem (ep_ev ev_int ⟨4, rfl, by decide, by decide, fun k k0 k1 => ?_⟩)⟩
    obtain ⟨y, hat, hy⟩ := hit (P := SpdB) (xs := [fq v, .tup [.int 1, .int 1], .tup [.int 1, .int 2], .non]) k0 k1 rfl ⟨spd_fq sv bv, spd_11, spd_12, spd_non, trivial⟩
    exact ⟨_, r2_ixL hat, y, hy, rfl⟩
  rintro s ⟨x, hx, rfl⟩
  have hm : 0 ≤ way.fmod 2 ∧ way.fmod 2 < 2 := by
    rw [Int.fmod_eq_emod_of_nonneg _ (by decide)]
    omega
  have hat : atI [Dt.str "turn", .str "push"] (way.fmod 2) = some (.str "turn") ∨ atI [Dt.str "turn", .str "push"] (way.fmod 2) = some (.str "push") := by
    rcases (by omega : way.fmod 2 = 0 ∨ way.fmod 2 = 1) with e | e <;> rw [e]
    · exact .inl rfl
    · exact .inr rfl
  rcases hat with h | h
  · exact ir_ret (ep_ev (ev_tup (ea_cons (ev_op (by walk_at "ev") (ev_op (ev_var rfl) ev_int (r2_mod (by decide))) (r2_ixL h)) (ea_cons (ev_lst (ea_cons (ev_var rfl) ea_nil)) ea_nil))) ⟨.turn x, rfl, hx⟩)
  · exact ir_ret (ep_ev (ev_tup (ea_cons (ev_op (by walk_at "ev") (ev_op (ev_var rfl) ev_int (r2_mod (by decide))) (r2_ixL h)) (ea_cons (ev_lst (ea_cons (ev_var rfl) ea_nil)) ea_nil))) ⟨.push x, rfl, hx⟩)
theorem h__law_whole (T : Txt K mg ca fa ka) : Has P w K mg base CX0 1 "_law_whole" ["_law_thing"] (spP K R_wh) := by
  refine T.d__law_whole.pure sc__law_whole (fun ds d h => by obtain ⟨x, rfl, _⟩ := h; rfl) (fun f cdv A outer s H E hr => (pss_one (ps_ret (pe_and (pe_callB (isiK (K := K) rfl) (by rfl) T.m_isinstance (by decide +kernel) (pa_cons (pv 0) (pa_cons (pe_bltn (v := .ty "int") (by rfl) T.m_int (by decide +kernel) rfl) pa_nil))) (pe_one (pe_not (pe_callB (isiK (K := K) rfl) (by rfl) T.m_isinstance (by decide +kernel) (pa_cons (pv 0) (pa_cons (pe_bltn (v := .ty "bool") (by rfl) T.m_bool (by decide +kernel) rfl) pa_nil))))))))) ?_
  rintro ds d ⟨x, rfl, rfl⟩
  obtain ⟨a, b, ha, hb, e⟩ := kb_whole x
  rw [← e]
  exact rt_ret (ev_andV (ev_isi (ev_var rfl) ha) (fun _ => ev_notV (ev_isi (ev_var rfl) hb)))
def R_good (ds : List Dt) (d : Dt) : Prop := ∃ x : Dt, ds = [x] ∧ Sz x ∧ d = .bl (isFr x)
theorem h__law_good (T : Txt K mg ca fa ka) : Has P w K mg base CX0 2 "_law_good" ["_law_thing"] (spP K R_good) := by
  refine T.d__law_good.pure sc__law_good (fun ds d h => by obtain ⟨x, rfl, _⟩ := h; rfl) (fun f cdv A outer s H E hr => (pss_cons (ps_if (PW.pt (pw_or (pt_not (pt_val (pe_callB (isiK (K := K) rfl) (by rfl) T.m_isinstance (by decide +kernel) (pa_cons (pv 0) (pa_cons (pe_bltn (v := .ty "tuple") (by rfl) T.m_tuple (by decide +kernel) rfl) pa_nil))))) (pw_or (pt_cmpR (neK (K := K) rfl hr.units) (pe_callB (lenK (K := K) rfl) (by rfl) T.m_len (by decide +kernel) (pa_cons (pv 0) pa_nil)) pe_int (nomark _)) (pw_or (pt_not (pt_val (pe_h (h__law_whole T) hr (by decide) pass0 (pa_cons (pe_ix (ixK (K := K) rfl) (pv 0) pe_int (fun _ _ => rfl)) pa_nil)))) (pw_or1 (pt_not (pt_val (pe_h (h__law_whole T) hr (by decide) pass0 (pa_cons (pe_ix (ixK (K := K) rfl) (pv 0) pe_int (fun _ _ => rfl)) pa_nil))))))))) (pss_one (ps_ret pe_bl)) pss_nil) (pss_one (ps_ret (pe_and (pe_cmpR op_gt (pe_ix (ixK (K := K) rfl) (pv 0) pe_int (fun _ _ => rfl)) pe_int (nomark _)) (pe_one (pe_cmpR (eqK (K := K) rfl hr.units) (pe_h (h__law_low T) hr (by decide) pass0 (pa_cons (pe_ix (ixK (K := K) rfl) (pv 0) pe_int (fun _ _ => rfl)) (pa_cons (pe_ix (ixK (K := K) rfl) (pv 0) pe_int (fun _ _ => rfl)) pa_nil))) (pv 0) (nomark _)))))))) ?_
  rintro ds d ⟨x, rfl, hsz, rfl⟩
  obtain ⟨c, hc, hiff⟩ := kb_tup x
  by_cases h : ∃ ds, x = .tup ds
  · obtain ⟨ds, rfl⟩ := h
    have c1 : c = true := hiff.mpr ⟨ds, rfl⟩
    subst c1
    by_cases hl : ds.length = 2
    · obtain ⟨a, b, rfl⟩ := two_of hl
      by_cases ha : isWh a = true
      · obtain ⟨t, rfl⟩ := isWh_iff.mp ha
        by_cases hb2 : isWh b = true
        · obtain ⟨u, rfl⟩ := isWh_iff.mp hb2
          have hu := hsz t u rfl
          refine rt_cond (b := false) (et_is (et_or (et_not (et_B (ev_isi (ev_var rfl) hc))) (fun _ => et_or (et_test (ev_op (ev_cb (ea_cons (ev_var rfl) ea_nil) rc_lenT) ev_int r2_neI)) (fun _ => et_or (et_not (et_B (ev_call (ea_cons (ev_op (ev_var rfl) ev_int ix0) ea_nil) (by exact ⟨_, rfl, rfl⟩)))) (fun _ => et_not (et_B (ev_call (ea_cons (ev_op (ev_var rfl) ev_int ix1) ea_nil) (by exact ⟨_, rfl, rfl⟩))))))) rfl) (fun h => by cases h) (fun _ => ?_)
          by_cases u0 : 0 < u
          · have un : u ≠ 0 := by omega
            refine rt_is (rt_ret (ev_andV (ev_op (ev_op (ev_var rfl) ev_int ix1) ev_int r2_gt) (fun _ => ev_op (ev_call (ea_cons (ev_op (ev_var rfl) ev_int ix0) (ea_cons (ev_op (ev_var rfl) ev_int ix1) ea_nil)) (by exact ⟨t, u, rfl, un, hu, rfl⟩)) (ev_var rfl) (r2_eq (py_fq _) (by exact rfl) (sh_fq _ _) (sh_fq _ _))))) ?_
            rw [eqv_pair, isFr_pair u0]
            rfl
          · rw [show isFr (.tup [.int t, .int u]) = false by show (decide (0 < u) && _) = false; rw [decide_eq_false u0]; rfl]
            exact rt_is (rt_ret (ev_andV (b := false) (ev_is (ev_op (ev_op (ev_var rfl) ev_int ix1) ev_int r2_gt) (by rw [decide_eq_false u0])) (fun h => by cases h))) rfl
        · have e : isFr (.tup [.int t, b]) = false := by
            cases b <;> first | rfl | exact absurd rfl hb2
          have hb3 : isWh b = false := by simpa using hb2
          rw [e]
          exact rt_cond (b := true) (et_is (et_or (et_not (et_B (ev_isi (ev_var rfl) hc))) (fun _ => et_or (et_test (ev_op (ev_cb (ea_cons (ev_var rfl) ea_nil) rc_lenT) ev_int r2_neI)) (fun _ => et_or (et_not (et_B (ev_call (ea_cons (ev_op (ev_var rfl) ev_int ix0) ea_nil) (by exact ⟨_, rfl, rfl⟩)))) (fun _ => et_not (et_B (ev_call (ea_cons (ev_op (ev_var rfl) ev_int ix1) ea_nil) (by exact ⟨_, rfl, rfl⟩))))))) (by rw [hb3]; rfl)) (fun _ => rt_ret ev_bl) (fun h => by cases h)
      · have e : isFr (.tup [a, b]) = false := by
          cases a <;> first | rfl | exact absurd rfl ha
        have ha3 : isWh a = false := by simpa using ha
        rw [e]
        exact rt_cond (b := true) (et_is (et_or (et_not (et_B (ev_isi (ev_var rfl) hc))) (fun _ => et_or (et_test (ev_op (ev_cb (ea_cons (ev_var rfl) ea_nil) rc_lenT) ev_int r2_neI)) (fun _ => et_or (b := true) (et_is (et_not (et_B (ev_call (ea_cons (ev_op (ev_var rfl) ev_int ix0) ea_nil) (by exact ⟨_, rfl, rfl⟩)))) (show (!isWh a) = true by rw [ha3]; rfl)) (fun h => by cases h)))) rfl) (fun _ => rt_ret ev_bl) (fun h => by cases h)
    · rw [isFr_len hl]
      exact rt_cond (b := true) (et_is (et_or (et_not (et_B (ev_isi (ev_var rfl) hc))) (fun _ => et_or (b := true) (et_is (et_test (ev_op (ev_cb (ea_cons (ev_var rfl) ea_nil) rc_lenT) ev_int r2_neI)) (by rw [beq_eq_false_iff_ne.mpr (show ¬ (ds.length : Int) = 2 by omega)]; rfl : (!((ds.length : Int) == 2)) = true)) (fun h => by cases h))) rfl) (fun _ => rt_ret ev_bl) (fun h => by cases h)
  · have c0 : c = false := by
      cases c with
      | false => rfl
      | true => exact absurd (hiff.mp rfl) h
    subst c0
    have e : isFr x = false := by
      cases x <;> first | rfl | exact absurd ⟨_, rfl⟩ h
    rw [e]
    exact rt_cond (b := true) (et_is (et_or (b := true) (et_not (et_B (ev_isi (ev_var rfl) hc))) (fun h => by cases h)) rfl) (fun _ => rt_ret ev_bl) (fun h => by cases h)
def R_one (ds : List Dt) (d : Dt) : Prop := ∃ x : Dt, ds = [x] ∧ Sz2 x ∧ d = .bl (isHp x)
theorem h__law_is_it (T : Txt K mg ca fa ka) : Has P w K mg base CX0 3 "_law_is_it" ["_law_thing"] (spP K R_one) := by
  refine T.d__law_is_it.pure sc__law_is_it (fun ds d h => by obtain ⟨x, rfl, _⟩ := h; rfl) (fun f cdv A outer s H E hr => (pss_one (ps_ret (pe_and (pe_callB (isiK (K := K) rfl) (by rfl) T.m_isinstance (by decide +kernel) (pa_cons (pv 0) (pa_cons (pe_bltn (v := .ty "tuple") (by rfl) T.m_tuple (by decide +kernel) rfl) pa_nil))) (pe_and (pe_cmpR (eqK (K := K) rfl hr.units) (pe_callB (lenK (K := K) rfl) (by rfl) T.m_len (by decide +kernel) (pa_cons (pv 0) pa_nil)) pe_int (nomark _)) (pe_and (pe_h (h__law_good T) hr (by decide) pass0 (pa_cons (pe_ix (ixK (K := K) rfl) (pv 0) pe_int (fun _ _ => rfl)) pa_nil)) (pe_one (pe_h (h__law_good T) hr (by decide) pass0 (pa_cons (pe_ix (ixK (K := K) rfl) (pv 0) pe_int (fun _ _ => rfl)) pa_nil))))))))) ?_
  rintro ds d ⟨x, rfl, hsz, rfl⟩
  obtain ⟨c, hc, hiff⟩ := kb_tup x
  by_cases h : ∃ ds, x = .tup ds
  · obtain ⟨ds, rfl⟩ := h
    have c1 : c = true := hiff.mpr ⟨ds, rfl⟩
    subst c1
    by_cases hl : ds.length = 2
    · obtain ⟨a, b, rfl⟩ := two_of hl
      have hs := hsz.2 a b rfl
      exact rt_is (rt_ret (ev_andV (ev_isi (ev_var rfl) hc) (fun _ => ev_andV (ev_op (ev_cb (ea_cons (ev_var rfl) ea_nil) rc_lenT) ev_int r2_eqI) (fun _ => ev_andV (ev_call (ea_cons (ev_op (ev_var rfl) ev_int ix0) ea_nil) (by exact ⟨_, rfl, hs.1, rfl⟩)) (fun _ => ev_call (ea_cons (ev_op (ev_var rfl) ev_int ix1) ea_nil) (by exact ⟨_, rfl, hs.2, rfl⟩)))))) rfl
    · rw [isHp_len hl]
      exact rt_is (rt_ret (ev_andV (ev_isi (ev_var rfl) hc) (fun _ => ev_andV (a := false) (b := false) (ev_is (ev_op (ev_cb (ea_cons (ev_var rfl) ea_nil) rc_lenT) ev_int r2_eqI) (by rw [beq_eq_false_iff_ne.mpr (show ¬ (ds.length : Int) = 2 by omega)])) (fun h => by cases h)))) rfl
  · have c0 : c = false := by
      cases c with
      | false => rfl
      | true => exact absurd (hiff.mp rfl) h
    subst c0
    have e : isHp x = false := by
      cases x <;> first | rfl | exact absurd ⟨_, rfl⟩ h
    rw [e]
    exact rt_is (rt_ret (ev_andV (b := false) (ev_isi (ev_var rfl) hc) (fun h => by cases h))) rfl
def R_nw (ds : List Dt) (d : Dt) : Prop := ∃ x : Dt, ds = [x] ∧ (∀ s, x = .str s → s.length ≤ 90000) ∧ d = .bl (isNm x)
theorem h__law_named_well (T : Txt K mg ca fa ka) : Has P w K mg base CX0 1 "_law_named_well" ["_law_thing"] (spP K R_nw) := by
  refine T.d__law_named_well.pure sc__law_named_well (fun ds d h => by obtain ⟨_, rfl, _⟩ := h; rfl) (fun f cdv A outer s H E hr => (pss_cons (ps_if (PW.pt (pw_or (pt_not (pt_val (pe_callB (isiK (K := K) rfl) (by rfl) T.m_isinstance (by decide +kernel) (pa_cons (pv 0) (pa_cons (pe_bltn (v := .ty "str") (by rfl) T.m_str (by decide +kernel) rfl) pa_nil))))) (pw_or1 (pt_not (pt_chain op_le op_le pe_int (pe_callB call_len_str (by rfl) T.m_len (by decide +kernel) (pa_cons (pv 0) pa_nil)) pe_int))))) (pss_one (ps_ret pe_bl)) pss_nil) (pss_one (ps_ret (pe_callB (allK (K := K) rfl rfl) (by rfl) T.m_all (by decide +kernel) (pa_cons (pe_lc (own := [("_law_sign", 1)]) (g := gName 1) (tt := tYes) rfl sc__law_named_well.nd (pi_str (pv 0)) (blkOk_by (own := [("_law_sign", 1)]) (N := ["_law_thing", "_law_sign"]) (sc := defScope s__law_named_well) (by decide +kernel)) (fun _ _ _ _ _ => pg_name (i := 1) sc__law_named_well.nd rfl (Or.inl rfl)) (fun _ _ _ _ _ => pts_nil) (fun _ _ _ _ _ => (pe_cmpR op_in_sign (pv 1) pe_str (by rfl)))) pa_nil)))))) ?_
  rintro ds d ⟨x, rfl, hsz, rfl⟩
  obtain ⟨c, hc, hiff⟩ := kb_strT x
  by_cases h : ∃ s, x = .str s
  · obtain ⟨s, rfl⟩ := h
    have c1 : c = true := hiff.mpr ⟨s, rfl⟩
    subst c1
    have hl := hsz s rfl
    have ln : ∀ {sl : List Sl}, sl[0]? = some (.d (.str s)) → Ev K (tCB _ (tCons (tVar 0) tNil)) sl (.int (s.length : Nat)) := fun h => ev_cb (ea_cons (ev_var h) ea_nil) (rc_lenS (by omega))
    refine rt_cond (b := !(decide ((1 : Int) ≤ (s.length : Nat)) && decide (((s.length : Nat) : Int) ≤ 8))) (et_is (et_or (a := false) (et_not (a := true) (et_B (ev_isi (ev_var rfl) hc))) (fun _ => et_not (et_chain ev_int (ln rfl) r2_le (fun _ => ev_int) (fun _ => r2_le)))) (Bool.false_or _)) (fun z => rt_is (rt_ret ev_bl) ?_) (fun z => ?_)
    · show Dt.bl false = .bl ((decide (1 ≤ s.length) && decide (s.length ≤ 8)) && _)
      rw [Bool.not_eq_true'] at z
      have e : (decide (1 ≤ s.length) && decide (s.length ≤ 8)) = false := by
        rw [← z]
        congr 1 <;> exact decide_eq_decide.mpr (by omega)
      rw [e, Bool.false_and]
    · rw [Bool.not_eq_false'] at z
      have e : (decide (1 ≤ s.length) && decide (s.length ≤ 8)) = true := by
        rw [← z]
        congr 1 <;> exact decide_eq_decide.mpr (by omega)
      refine rt_is (rt_ret (ev_cb (ea_cons (ev_is (ev_lcS (s := s) (es := (s.cps.toList.map fun c => decide (c ∈ abcS.cps.toList)).map Dt.bl) (by rw [List.length_map, List.length_map, Array.length_toList]) (ev_var rfl) hl (fun k x hk hx => ?_)) rfl) ea_nil) rc_all)) ?_
      · rw [List.getElem?_map, List.getElem?_map] at hx
        have hk2 : s.cps.toList[k]? = some (s.cps.getD k 0) := by
          rw [Array.getElem?_toList, Array.getD_eq_getD_getElem?, Array.getElem?_eq_getElem hk]
          rfl
        rw [hk2] at hx
        cases hx
        exact ev_op (ev_var rfl) ev_str (by exact r2_sgIn)
      · show _ = Dt.bl ((decide (1 ≤ s.length) && decide (s.length ≤ 8)) && _)
        rw [e, Bool.true_and, List.all_map]
        rfl
  · have c0 : c = false := by
      cases c with
      | false => rfl
      | true => exact absurd (hiff.mp rfl) h
    subst c0
    refine rt_yes (b := true) (et_is (et_or (a := true) (b := true) (et_not (a := false) (et_B (ev_isi (ev_var rfl) hc))) (fun z => by cases z)) rfl) rfl (rt_is (rt_ret ev_bl) ?_)
    cases x with
    | str s => exact absurd ⟨s, rfl⟩ h
    | _ => rfl
def R_fastD (ds : List Dt) (d : Dt) : Prop := ∃ x : Dt, ds = [x] ∧ Sz x ∧ d = .bl (isSpD x)
theorem h__law_is_fast (T : Txt K mg ca fa ka) : Has P w K mg base CX0 3 "_law_is_fast" ["_law_thing"] (spP K R_fastD) := by
  refine T.d__law_is_fast.pure sc__law_is_fast (fun ds d h => by obtain ⟨x, rfl, _⟩ := h; rfl) (fun f cdv A outer s H E hr => (pss_one (ps_ret (pe_and (pe_h (h__law_good T) hr (by decide) pass0 (pa_cons (pv 0) pa_nil)) (pe_one (pe_cmpR op_lt (pe_callB cr_abs (by rfl) T.m_abs (by decide +kernel) (pa_cons (pe_ix (ixK (K := K) rfl) (pv 0) pe_int (fun _ _ => rfl)) pa_nil)) (pe_ix (ixK (K := K) rfl) (pv 0) pe_int (fun _ _ => rfl)) (nomark _))))))) ?_
  rintro ds d ⟨x, rfl, hs, rfl⟩
  cases hf : isFr x with
  | false =>
    have e : isSpD x = false := by
      unfold isSpD
      split
      · rename_i t b
        rw [hf, Bool.false_and]
      · rfl
    rw [e]
    exact rt_ret (ev_andV (a := false) (b := false) (ev_is (ev_call (ea_cons (ev_var rfl) ea_nil) (by exact ⟨x, rfl, hs, rfl⟩)) (by rw [hf])) (fun z => by cases z))
  | true =>
    obtain ⟨t, u, rfl⟩ : ∃ t u : Int, x = .tup [.int t, .int u] := by
      unfold isFr at hf
      split at hf
      · exact ⟨_, _, rfl⟩
      · cases hf
    have e : isSpD (.tup [.int t, .int u]) = decide ((t.natAbs : Int) < u) := by
      show (isFr (.tup [.int t, .int u]) && _) = _
      rw [hf, Bool.true_and]
    rw [e]
    exact rt_ret (ev_andV (a := true) (ev_is (ev_call (ea_cons (ev_var rfl) ea_nil) (by exact ⟨_, rfl, hs, rfl⟩)) (by rw [hf])) (fun _ => ev_op (ev_cb (ea_cons (ev_op (ev_var rfl) ev_int ix0) ea_nil) rc_abs) (ev_op (ev_var rfl) ev_int ix1) r2_lt))
def R_root (ds : List Dt) (d : Dt) : Prop := ∃ m : Nat, ds = [.int (m : Int)] ∧ Bt 4400 (m : Int) ∧ d = .int (sq m : Int)
theorem h__law_root (T : Txt K mg ca fa ka) : Has P w K mg base CX0 1 "_law_root" ["_law_number"] (spP K R_root) := by
  refine T.d__law_root.pure sc__law_root (fun ds d h => by obtain ⟨x, rfl, _⟩ := h; rfl) (fun f cdv A outer s H E hr => (pss_cons (ps_set (i := 1) sc__law_root.nd rfl (Or.inl rfl) pe_int) (pss_cons (ps_set (i := 2) sc__law_root.nd rfl (Or.inl rfl) pe_int) (pss_cons (ps_while PassesOwn.never (pt_cmpR op_le (pe_op op_mulA (pv 2) (pv 2)) (pv 0) (nomark _)) (pss_one (ps_set (i := 2) sc__law_root.nd rfl (Or.inl rfl) (pe_op op_mulA pe_int (pv 2))))) (pss_cons (ps_while PassesOwn.never (pt_cmpR op_gt (pv 2) pe_int (nomark _)) (pss_cons (ps_if (pt_cmpR op_le (pe_op op_mulA (pe_op op_add (pv 1) (pv 2)) (pe_op op_add (pv 1) (pv 2))) (pv 0) (nomark _)) (pss_one (ps_set (i := 1) sc__law_root.nd rfl (Or.inl rfl) (pe_op op_add (pv 1) (pv 2)))) pss_nil) (pss_one (ps_set (i := 2) sc__law_root.nd rfl (Or.inl rfl) (pe_op op_fdivA (pv 2) pe_int))))) (pss_one (ps_ret (pv 1)))))))) ?_
  rintro ds d ⟨m, rfl, hm, rfl⟩
  have big : ∀ b : Nat, b ≤ 4 * m + 4 → Bt 4403 (b : Int) := fun b hb => by
    unfold Bt at *
    rw [Int.natAbs_natCast] at *
    have e : 2 ^ 4403 = 2 ^ 4400 * 8 := by rw [← Nat.pow_add 2 4400 3]
    generalize 2 ^ 4403 = X at *
    generalize 2 ^ 4400 = Y at *
    omega
  have sqle : ∀ b : Nat, b ≤ b * b := fun b => Nat.le_mul_self b
  refine rt_seq (nt_asg ev_int) (rt_seq (nt_asg ev_int) ?_)
  refine rt_ip (ip_while (fun l sl => ∃ b k : Nat, l = 2 * m + 2 - b ∧ b = 2 ^ k ∧ b ≤ 2 * m + 1 ∧ sl = [.d (.int m), .d (.int 0), .d (.int b)]) (2 * m + 1) ⟨1, 0, by omega, rfl, by omega, rfl⟩ ?_)
  rintro l sl ⟨b, k, hl, hk, hb, rfl⟩
  have b1 : 1 ≤ b := by rw [hk]; exact Nat.one_le_two_pow
  refine ⟨_, et_test (ev_op (ev_op (ev_var rfl) (ev_var rfl) (r2_mul (mulok (big b (by omega)) (big b (by omega)) (by decide)))) (ev_var rfl) r2_le), fun h => ?_, fun h => ?_⟩
  · have h : (b : Int) * (b : Int) ≤ (m : Int) := of_decide_eq_true h
    have h : b * b ≤ m := by rw [← Int.natCast_mul] at h; omega
    have := sqle b
    refine ip_end (nt_asg (ev_op ev_int (ev_var rfl) (r2_mul (mulL ⟨by decide, by decide⟩)))) ⟨2 * m + 2 - 2 * b, by omega, 2 * b, k + 1, rfl, by rw [Nat.pow_succ]; omega, by omega, ?_⟩
    rfl
  · have h : ¬ (b : Int) * (b : Int) ≤ (m : Int) := of_decide_eq_false h
    have h : m < b * b := by rw [← Int.natCast_mul] at h; omega
    refine rt_ip (ip_while (fun l sl => ∃ f c : Nat, l = c ∧ f * f ≤ m ∧ c ≤ 2 * m + 1 ∧ (c = 0 ∧ m < (f + 1) * (f + 1) ∨ ∃ k, c = 2 ^ k ∧ m < (f + 2 * c) * (f + 2 * c)) ∧ sl = [.d (.int m), .d (.int f), .d (.int c)]) b ⟨0, b, rfl, by omega, by omega, .inr ⟨k, hk, ?_⟩, rfl⟩ ?_)
    · have : b * b ≤ (0 + 2 * b) * (0 + 2 * b) := Nat.mul_le_mul (by omega) (by omega)
      omega
    · rintro l sl ⟨f, c, hl, hf, hc, ho, rfl⟩
      have := sqle f
      refine ⟨_, et_test (ev_op (ev_var rfl) ev_int r2_gt), fun h => ?_, fun h => ?_⟩
      · have h0 : (0 : Int) < (c : Int) := of_decide_eq_true h
        have fin : ∀ g : Nat, g * g ≤ m → m < (g + c) * (g + c) → (c / 2 = 0 ∧ m < (g + 1) * (g + 1) ∨ ∃ k, c / 2 = 2 ^ k ∧ m < (g + 2 * (c / 2)) * (g + 2 * (c / 2))) := fun g hg hg2 => by
          rcases ho with ⟨z, _⟩ | ⟨j, hj, _⟩
          · omega
          · cases j with
            | zero =>
              have c1 : c = 1 := by rw [hj] <;> rfl
              subst c1
              exact .inl ⟨rfl, hg2⟩
            | succ j =>
              rw [Nat.pow_succ] at hj
              refine .inr ⟨j, by omega, ?_⟩
              rw [show 2 * (c / 2) = c by omega]
              exact hg2
        have ho2 : m < (f + 2 * c) * (f + 2 * c) := by
          rcases ho with ⟨z, _⟩ | ⟨_, _, h⟩
          · omega
          · exact h
        have half : ((c : Int)).fdiv 2 = ((c / 2 : Nat) : Int) := by
          rw [Int.fdiv_eq_ediv_of_nonneg _ (by decide)]
          rfl
        have eb : ((f : Int) + (c : Int)) = ((f + c : Nat) : Int) := rfl
        have bfc : Bt 4403 ((f : Int) + (c : Int)) := by rw [eb]; exact big _ (by omega)
        have step : ∀ g : Nat, g * g ≤ m → m < (g + c) * (g + c) → Ip K (tAsg (tOp (rI CDivA fun i j => .int (i.fdiv j)) (tVar 2) (tC (.int 2))) (gName 2)) [.d (.int m), .d (.int g), .d (.int c)] [] fun sl2 => ∃ m', m' < l ∧ ∃ f c : Nat, m' = c ∧ f * f ≤ m ∧ c ≤ 2 * m + 1 ∧ (c = 0 ∧ m < (f + 1) * (f + 1) ∨ ∃ k, c = 2 ^ k ∧ m < (f + 2 * c) * (f + 2 * c)) ∧ sl2 = [.d (.int m), .d (.int f), .d (.int c)] := fun g hg hg2 => by
          refine ip_end (nt_asg (ev_op (ev_var rfl) ev_int (r2_div (divok (n := 2) (by decide) (by show Int.natAbs 2 < 2 ^ 2; decide) (by decide))))) ⟨c / 2, by omega, g, c / 2, rfl, hg, by omega, fin g hg hg2, ?_⟩
          rw [half] <;> rfl
        refine ip_nt (sl1 := [.d (.int m), .d (.int (if (f + c) * (f + c) ≤ m then f + c else f : Nat)), .d (.int c)]) (nt_if (et_test (ev_op (ev_op (ev_op (ev_var rfl) (ev_var rfl) r2_add) (ev_op (ev_var rfl) (ev_var rfl) r2_add) (r2_mul (mulok (by exact bfc) (by exact bfc) (by decide)))) (ev_var rfl) r2_le)) (fun h => ?_) (fun h => ?_)) ?_
        · have h : ((f : Int) + (c : Int)) * ((f : Int) + (c : Int)) ≤ (m : Int) := of_decide_eq_true h
          rw [eb, ← Int.natCast_mul] at h
          refine nt_is (nt_asg (ev_op (ev_var rfl) (ev_var rfl) r2_add)) ?_
          rw [if_pos (by omega)]
          rfl
        · have h : ¬ ((f : Int) + (c : Int)) * ((f : Int) + (c : Int)) ≤ (m : Int) := of_decide_eq_false h
          rw [eb, ← Int.natCast_mul] at h
          refine nt_is nt_next ?_
          rw [if_neg (by omega)]
        · by_cases hq : (f + c) * (f + c) ≤ m
          · rw [if_pos hq]
            exact step _ hq (by rw [show f + c + c = f + 2 * c by omega]; exact ho2)
          · rw [if_neg hq]
            exact step _ hf (by omega)
      · have h0 : ¬ (0 : Int) < (c : Int) := of_decide_eq_false h
        have c0 : c = 0 := by omega
        refine rt_is (rt_ret (ev_var rfl)) ?_
        have hf2 : m < (f + 1) * (f + 1) := by
          rcases ho with ⟨_, h⟩ | ⟨j, hj, _⟩
          · exact h
          · have := Nat.one_le_two_pow (n := j)
            omega
        rw [isq_unique (sq_spec m).1 (sq_spec m).2 hf hf2]
def R_rooted (ds : List Dt) (d : Dt) : Prop := ∃ x : Rat, ds = [fq x] ∧ Bq 4000 x ∧ d = rootD x
theorem h__law_rooted (T : Txt K mg ca fa ka) : Has P w K mg base CX0 2 "_law_rooted" ["_law_one"] (spP K R_rooted) := by
  refine T.d__law_rooted.pure sc__law_rooted (fun ds d h => by obtain ⟨x, rfl, _⟩ := h; rfl) (fun f cdv A outer s H E hr => (pss_cons (ps_if (pt_cmpR op_lt (pe_ix (ixK (K := K) rfl) (pv 0) pe_int (fun _ _ => rfl)) pe_int (nomark _)) (pss_one (ps_ret pe_non)) pss_nil) (pss_cons (ps_par (i := 1) (j := 2) rfl sc__law_rooted.nd rfl rfl (by decide) rfl rfl (pa_cons (pe_h (h__law_root T) hr (by decide) pass0 (pa_cons (pe_ix (ixK (K := K) rfl) (pv 0) pe_int (fun _ _ => rfl)) pa_nil)) (pa_cons (pe_h (h__law_root T) hr (by decide) pass0 (pa_cons (pe_ix (ixK (K := K) rfl) (pv 0) pe_int (fun _ _ => rfl)) pa_nil)) pa_nil)) (by rfl)) (pss_cons (ps_if (PW.pt (pw_or (pt_cmpR (neK (K := K) rfl hr.units) (pe_op op_mulA (pv 1) (pv 1)) (pe_ix (ixK (K := K) rfl) (pv 0) pe_int (fun _ _ => rfl)) (nomark _)) (pw_or1 (pt_cmpR (neK (K := K) rfl hr.units) (pe_op op_mulA (pv 2) (pv 2)) (pe_ix (ixK (K := K) rfl) (pv 0) pe_int (fun _ _ => rfl)) (nomark _))))) (pss_one (ps_ret pe_non)) pss_nil) (pss_one (ps_ret (pe_tup (pa_cons (pv 1) (pa_cons (pv 2) pa_nil))))))))) ?_
  rintro ds d ⟨x, rfl, ⟨bn, bd⟩, rfl⟩
  refine rt_cond (et_test (ev_op (ev_op (ev_var rfl) ev_int fx0) ev_int r2_lt)) (fun hb => ?_) (fun hb => ?_)
  · refine rt_is (rt_ret ev_non) ?_
    unfold rootD
    rw [if_pos (of_decide_eq_true hb)]
  · have h0 : ¬ x.num < 0 := of_decide_eq_false hb
    have hn : ((x.num.toNat : Nat) : Int) = x.num := Int.toNat_of_nonneg (by omega)
    have bn2 : Bt 4400 ((x.num.toNat : Nat) : Int) := by rw [hn]; exact bn.mono (by decide)
    refine rt_seq (nt_par (ea_cons (ev_call (ea_cons (ev_op (ev_var rfl) ev_int fx0) ea_nil) (by exact ⟨x.num.toNat, by rw [hn], bn2, rfl⟩)) (ea_cons (ev_call (ea_cons (ev_op (ev_var rfl) ev_int fx1) ea_nil) (by exact ⟨x.den, rfl, bd.mono (by decide), rfl⟩)) ea_nil))) ?_
    have b1 : Bt 4000 (sq x.num.toNat : Int) := bt_sq (by rw [hn]; exact bn)
    have b2 : Bt 4000 (sq x.den : Int) := bt_sq bd
    refine rt_cond (et_or (et_test (ev_op (ev_op (ev_var rfl) (ev_var rfl) (r2_mul (mulok b1 b1 (by decide)))) (ev_op (ev_var rfl) ev_int fx0) r2_neI)) (fun _ => et_test (ev_op (ev_op (ev_var rfl) (ev_var rfl) (r2_mul (mulok (by exact b2) (by exact b2) (by decide)))) (ev_op (ev_var rfl) ev_int fx1) r2_neI))) (fun hb => ?_) (fun hb => ?_)
    · refine rt_is (rt_ret ev_non) ?_
      unfold rootD
      rw [if_neg h0, if_neg ?_]
      rintro ⟨e1, e2⟩
      have a1 : (sq x.num.toNat : Int) * (sq x.num.toNat : Int) = x.num := by rw [← Int.natCast_mul, e1, hn]
      have a2 : (sq x.den : Int) * (sq x.den : Int) = (x.den : Int) := by rw [← Int.natCast_mul, e2]
      change (!((sq x.num.toNat : Int) * (sq x.num.toNat : Int) == x.num) || !((sq x.den : Int) * (sq x.den : Int) == (x.den : Int))) = true at hb
      rw [a1, a2] at hb
      simp at hb
    · refine rt_is (rt_ret (ev_tup (ea_cons (ev_var rfl) (ea_cons (ev_var rfl) ea_nil)))) ?_
      change (!((sq x.num.toNat : Int) * (sq x.num.toNat : Int) == x.num) || !((sq x.den : Int) * (sq x.den : Int) == (x.den : Int))) = false at hb
      rw [Bool.or_eq_false_iff, Bool.not_eq_false', Bool.not_eq_false', beq_iff_eq, beq_iff_eq] at hb
      have hq : sq x.num.toNat * sq x.num.toNat = x.num.toNat ∧ sq x.den * sq x.den = x.den := by
        refine ⟨?_, ?_⟩
        · have := hb.1
          rw [← Int.natCast_mul] at this
          omega
        · have := hb.2
          rw [← Int.natCast_mul] at this
          omega
      unfold rootD
      rw [if_neg h0, if_pos hq] <;> rfl
theorem h__law_gap (T : Txt K mg ca fa ka) : Has P w K mg base CX0 2 "_law_gap" ["_law_one", "_law_other"] (spP K R_gap) := by
  refine T.d__law_gap.pure sc__law_gap (fun ds d h => by obtain ⟨x, y, rfl, _⟩ := h; rfl) (fun f cdv A outer s H E hr => (pss_one (ps_ret (pe_h (h__law_low T) hr (by decide) pass0 (pa_cons (pe_op op_sub (pe_op op_mulA (pe_ix (ixK (K := K) rfl) (pv 0) pe_int (fun _ _ => rfl)) (pe_ix (ixK (K := K) rfl) (pv 1) pe_int (fun _ _ => rfl))) (pe_op op_mulA (pe_ix (ixK (K := K) rfl) (pv 1) pe_int (fun _ _ => rfl)) (pe_ix (ixK (K := K) rfl) (pv 0) pe_int (fun _ _ => rfl)))) (pa_cons (pe_op op_mulA (pe_ix (ixK (K := K) rfl) (pv 0) pe_int (fun _ _ => rfl)) (pe_ix (ixK (K := K) rfl) (pv 1) pe_int (fun _ _ => rfl))) pa_nil)))))) ?_
  rintro ds d ⟨x, y, rfl, bx, by_, rfl⟩
  refine rt_ret (ev_call (ea_cons (ev_op (ev_op (ev_op (ev_var rfl) ev_int fx0) (ev_op (ev_var rfl) ev_int fx1) (r2_mul (mulok bx.1 by_.2 (by decide)))) (ev_op (ev_op (ev_var rfl) ev_int fx0) (ev_op (ev_var rfl) ev_int fx1) (r2_mul (mulok by_.1 bx.2 (by decide)))) r2_sub) (ea_cons (ev_op (ev_op (ev_var rfl) ev_int fx1) (ev_op (ev_var rfl) ev_int fx1) (r2_mul (mulok bx.2 by_.2 (by decide)))) ea_nil)) ⟨_, _, rfl, Int.mul_ne_zero (den_ne x) (den_ne y), (bt_mul bx.2 by_.2).mono (by decide), ?_⟩)
  rw [q_sub]
theorem h__law_prod (T : Txt K mg ca fa ka) : Has P w K mg base CX0 2 "_law_prod" ["_law_one", "_law_other"] (spP K R_prod) := by
  refine T.d__law_prod.pure sc__law_prod (fun ds d h => by obtain ⟨x, y, rfl, _⟩ := h; rfl) (fun f cdv A outer s H E hr => (pss_one (ps_ret (pe_h (h__law_low T) hr (by decide) pass0 (pa_cons (pe_op op_mulA (pe_ix (ixK (K := K) rfl) (pv 0) pe_int (fun _ _ => rfl)) (pe_ix (ixK (K := K) rfl) (pv 1) pe_int (fun _ _ => rfl))) (pa_cons (pe_op op_mulA (pe_ix (ixK (K := K) rfl) (pv 0) pe_int (fun _ _ => rfl)) (pe_ix (ixK (K := K) rfl) (pv 1) pe_int (fun _ _ => rfl))) pa_nil)))))) ?_
  rintro ds d ⟨x, y, rfl, bx, by_, rfl⟩
  refine rt_ret (ev_call (ea_cons (ev_op (ev_op (ev_var rfl) ev_int fx0) (ev_op (ev_var rfl) ev_int fx0) (r2_mul (mulok bx.1 by_.1 (by decide)))) (ea_cons (ev_op (ev_op (ev_var rfl) ev_int fx1) (ev_op (ev_var rfl) ev_int fx1) (r2_mul (mulok bx.2 by_.2 (by decide)))) ea_nil)) ⟨_, _, rfl, Int.mul_ne_zero (den_ne x) (den_ne y), (bt_mul bx.2 by_.2).mono (by decide), ?_⟩)
  rw [q_mul]
def R_beatL (ds : List Dt) (d : Dt) : Prop := ∃ x : Rat, ds = [fq x] ∧ Bq 1990 x ∧ d = beatD x
theorem h__law_beat (T : Txt K mg ca fa ka) : Has P w K mg base CX0 3 "_law_beat" ["_law_speed_here"] (spP K R_beatL) := by
  refine T.d__law_beat.pure sc__law_beat (fun ds d h => by obtain ⟨x, rfl, _⟩ := h; rfl) (fun f cdv A outer s H E hr => (pss_one (ps_ret (pe_h (h__law_rooted T) hr (by decide) pass0 (pa_cons (pe_h (h__law_gap T) hr (by decide) pass0 (pa_cons (pe_tup (pa_cons pe_int (pa_cons pe_int pa_nil))) (pa_cons (pe_h (h__law_prod T) hr (by decide) pass0 (pa_cons (pv 0) (pa_cons (pv 0) pa_nil))) pa_nil))) pa_nil))))) ?_
  rintro ds d ⟨x, rfl, bx, rfl⟩
  have e1 : (Dt.tup [.int 1, .int 1]) = fq 1 := rfl
  exact rt_ret (ev_call (ea_cons (ev_call (ea_cons (ev_is (by walk_at "ev") e1) (ea_cons (ev_call (by walk_at "ea") (by walk_at "rok")) ea_nil)) (by walk_at "rok")) ea_nil) (by exact ⟨_, rfl, (bq_low bx).mono (by decide), rfl⟩))
def R_rfs (b : Bst) (ds : List Dt) (d : Dt) : Prop := ∃ de : Deed, ds = [.str de.w, .lst de.t] ∧ DeedOk de ∧ d = wD (refw b de)
theorem h__law_refused_as (T : Txt K mg ca fa ka) : Has P w K mg base CX0 4 "_law_refused_as" ["_law_state", "_law_word", "_law_told"] (spStQ K R_rfs) := by
  refine T.d__law_refused_as.askS sc__law_refused_as (fun b ds d h => by obtain ⟨_, rfl, _⟩ := h; rfl) (fun f cdv A outer s H E hr => (pss_cons (ps_if (pt_cmpR (eqK (K := K) rfl hr.units) (pv 1) pe_str (nomark _)) (pss_one (ps_ret (pe_ifExp (pt_cmpR (eqEK (K := K) rfl hr.units) (pe_dget (lt64 hr.units) (pv 0) pe_str (fun _ _ => rfl)) (pe_lst pa_nil) (nomark _)) pe_str pe_non))) pss_nil) (pss_cons (ps_if (pt_cmpR (eqK (K := K) rfl hr.units) (pv 1) pe_str (nomark _)) (pss_cons (ps_if (pt_not (pt_val (pe_h (h__law_named_well T) hr (by decide) pass0 (pa_cons (pe_ix (ixK (K := K) rfl) (pv 2) pe_int (fun _ _ => rfl)) pa_nil)))) (pss_one (ps_ret pe_str)) pss_nil) (pss_cons (ps_if (pt_not (pt_val (pe_h (h__law_is_it T) hr (by decide) pass0 (pa_cons (pe_ix (ixK (K := K) rfl) (pv 2) pe_int (fun _ _ => rfl)) pa_nil)))) (pss_one (ps_ret pe_str)) pss_nil) (pss_one (ps_ret (pe_ifExp (PW.pt (pw_and (pt_cmp (pc_dnotin (lt64 hr.units) (pe_ix (ixK (K := K) rfl) (pv 2) pe_int (fun _ _ => rfl)) (pe_dget (lt64 hr.units) (pv 0) pe_str (fun _ _ => rfl)))) (pw_and1 (pt_cmpR (eqK (K := K) rfl hr.units) (pe_callB call_lenR (by rfl) T.m_len (by decide +kernel) (pa_cons (pe_dget (lt64 hr.units) (pv 0) pe_str (fun _ _ => rfl)) pa_nil)) pe_int (nomark _))))) pe_str pe_non))))) pss_nil) (pss_cons (ps_if (pt_cmpR (eqK (K := K) rfl hr.units) (pv 1) pe_str (nomark _)) (pss_one (ps_ret (pe_ifExp (PW.pt (pw_and (pt_val (pe_h (h__law_named_well T) hr (by decide) pass0 (pa_cons (pe_ix (ixK (K := K) rfl) (pv 2) pe_int (fun _ _ => rfl)) pa_nil))) (pw_and1 (pt_cmp (pc_din (lt64 hr.units) (pe_ix (ixK (K := K) rfl) (pv 2) pe_int (fun _ _ => rfl)) (pe_dget (lt64 hr.units) (pv 0) pe_str (fun _ _ => rfl))))))) pe_non pe_str))) pss_nil) (pss_cons (ps_if (pt_not (pt_val (pe_h (h__law_is_fast T) hr (by decide) pass0 (pa_cons (pe_ix (ixK (K := K) rfl) (pv 2) pe_int (fun _ _ => rfl)) pa_nil)))) (pss_one (ps_ret pe_str)) pss_nil) (pss_one (ps_ret (pe_ifExp (pt_cmpR op_isN1 (pe_h (h__law_beat T) hr (by decide) pass0 (pa_cons (pe_ix (ixK (K := K) rfl) (pv 2) pe_int (fun _ _ => rfl)) pa_nil)) pe_non (nomark _)) pe_str pe_non)))))))) ?_
  rintro y b ds d ⟨de, rfl, ok, rfl⟩
  have hw : ∀ {sl : List Sl} {s z : Str} {c : Bool}, sl[1]? = some (.d (.str s)) → SeqAt.shaped (.str s) = true → SeqAt.shaped (.str z) = true → (s == z) = c → EbT K (fun G H => SoR K y G H b) (tTest (tOp (rEqD K) (tVar 1) (tC (.str z)))) sl c := fun h1 h2 h3 h4 => ebt_ev (et_is (et_test (ev_op (ev_var h1) ev_str (r2_eqS h2 h3))) h4)
  have x0 : ∀ {sl : List Sl} {a : Dt} {l : List Dt}, sl[2]? = some (.d (.lst (a :: l))) → Ev K (tOp (rIx K) (tVar 2) (tC (.int 0))) sl a := fun {sl a l} h => ev_op (ev_var h) ev_int (r2_ixL ((atI_k (k := 0) (a :: l) (Nat.succ_pos _)).trans rfl))
  have x1 : ∀ {sl : List Sl} {a c : Dt} {l : List Dt}, sl[2]? = some (.d (.lst (a :: c :: l))) → Ev K (tOp (rIx K) (tVar 2) (tC (.int 1))) sl c := fun {sl a c l} h => ev_op (ev_var h) ev_int (r2_ixL ((atI_k (k := 1) (a :: c :: l) (Nat.succ_lt_succ (Nat.succ_pos _))).trans rfl))
  cases de with
  | undo =>
    refine br_yes stb_sr (hw (s := "undo") rfl (by decide +kernel) (by decide +kernel) (by decide +kernel)) ?_
    refine br_ret stb_sr (eb_if stb_sr (ebt_test (es_pastE (fun _ _ h => h) rfl)) (fun z => eb_ev ?_) (fun z => eb_ev ?_))
    · exact ev_is ev_str (by show _ = wD (if b.past.isEmpty = true then some "deed" else none); rw [if_pos z]; rfl)
    · exact ev_is ev_non (by show _ = wD (if b.past.isEmpty = true then some "deed" else none); rw [if_neg (by rw [z]; exact Bool.false_ne_true)]; rfl)
  | put x z =>
    obtain ⟨⟨o1, _⟩, o2, o3⟩ := ok
    refine br_no stb_sr (hw (s := "put") rfl (by decide +kernel) (by decide +kernel) (by decide +kernel)) ?_
    refine br_yes stb_sr (hw (s := "put") rfl (by decide +kernel) (by decide +kernel) (by decide +kernel)) ?_
    show Br _ _ _ _ _ _ (wD (if isNm x = false then some "name" else if isHp z = false then some "hap" else if (!(getX b.haps x).isSome && decide (b.haps.length = 12)) = true then some "many" else none))
    cases hn : isNm x with
    | false =>
      rw [if_pos rfl]
      exact br_yes stb_sr (ebt_is (ebt_not (ebt_B (eb_ev (ev_call (ea_cons (x0 rfl) ea_nil) (by exact ⟨x, rfl, o1, rfl⟩))))) (by rw [hn]; rfl)) (br_ret stb_sr (eb_ev ev_str))
    | true =>
      rw [if_neg (fun q => by cases q)]
      refine br_no stb_sr (ebt_is (ebt_not (ebt_B (eb_ev (ev_call (ea_cons (x0 rfl) ea_nil) (by exact ⟨x, rfl, o1, rfl⟩))))) (by rw [hn]; rfl)) ?_
      cases hh : isHp z with
      | false =>
        rw [if_pos rfl]
        exact br_yes stb_sr (ebt_is (ebt_not (ebt_B (eb_ev (ev_call (ea_cons (x1 rfl) ea_nil) (by exact ⟨z, rfl, o2, rfl⟩))))) (by rw [hh]; rfl)) (br_ret stb_sr (eb_ev ev_str))
      | true =>
        rw [if_neg (fun q => by cases q)]
        refine br_no stb_sr (ebt_is (ebt_not (ebt_B (eb_ev (ev_call (ea_cons (x1 rfl) ea_nil) (by exact ⟨z, rfl, o2, rfl⟩))))) (by rw [hh]; rfl)) ?_
        obtain ⟨n, rfl⟩ := isNm_str hn
        have e12 : (((b.haps.length : Nat) : Int) == 12) = decide (b.haps.length = 12) := by
          by_cases h : b.haps.length = 12
          · rw [h]; rfl
          · rw [decide_eq_false h]
            exact beq_eq_false_iff_ne.mpr (by omega)
        refine br_ret stb_sr (eb_if stb_sr (b := !(getH b.haps n).isSome && decide (b.haps.length = 12)) (ebt_and stb_sr (ebt_B (es_notin stb_sr (fun _ _ h => h) rfl (eb_ev (x0 rfl)))) (fun _ => ebt_is (ebt_test (eb_op stb_sr (es_len (fun _ _ h => h) rfl) (eb_ev ev_int) r2_eqI)) e12) rfl) (fun q => eb_ev ?_) (fun q => eb_ev ?_))
        · exact ev_is ev_str (by rw [show getX b.haps (.str n) = getH b.haps n from rfl, if_pos q]; rfl)
        · exact ev_is ev_non (by rw [if_neg (by rw [show getX b.haps (.str n) = getH b.haps n from rfl, q]; exact Bool.false_ne_true)]; rfl)
  | drop x =>
    refine br_no stb_sr (hw (s := "drop") rfl (by decide +kernel) (by decide +kernel) (by decide +kernel)) ?_
    refine br_no stb_sr (hw (s := "drop") rfl (by decide +kernel) (by decide +kernel) (by decide +kernel)) ?_
    refine br_yes stb_sr (hw (s := "drop") rfl (by decide +kernel) (by decide +kernel) (by decide +kernel)) ?_
    show Br _ _ _ _ _ _ (wD (if (isNm x && (getX b.haps x).isSome) = true then none else some "name"))
    have ok' : TxtB x := ok
    cases hn : isNm x with
    | false =>
      rw [Bool.false_and, if_neg Bool.false_ne_true]
      exact br_ret stb_sr (eb_if stb_sr (b := false) (ebt_and (c := false) stb_sr (a := false) (ebt_is (ebt_B (eb_ev (ev_call (ea_cons (x0 rfl) ea_nil) (by exact ⟨x, rfl, ok', rfl⟩)))) hn) (fun z => by cases z) rfl) (fun z => by cases z) (fun _ => eb_ev ev_str))
    | true =>
      rw [Bool.true_and]
      obtain ⟨n, rfl⟩ := isNm_str hn
      refine br_ret stb_sr (eb_if stb_sr (b := (getH b.haps n).isSome) (ebt_and (c := (getH b.haps n).isSome) stb_sr (a := true) (ebt_is (ebt_B (eb_ev (ev_call (ea_cons (x0 rfl) ea_nil) (by exact ⟨_, rfl, ok', rfl⟩)))) hn) (fun _ => ebt_B (es_in stb_sr (fun _ _ h => h) rfl (eb_ev (x0 rfl)))) (Bool.true_and _)) (fun q => eb_ev ?_) (fun q => eb_ev ?_))
      · exact ev_is ev_non (by rw [show getX b.haps (.str n) = getH b.haps n from rfl, if_pos q]; rfl)
      · exact ev_is ev_str (by rw [show getX b.haps (.str n) = getH b.haps n from rfl, if_neg (by rw [q]; exact Bool.false_ne_true)]; rfl)
  | turn x =>
    obtain ⟨o1, o2⟩ := ok
    refine br_no stb_sr (hw (s := "turn") rfl (by decide +kernel) (by decide +kernel) (by decide +kernel)) ?_
    refine br_no stb_sr (hw (s := "turn") rfl (by decide +kernel) (by decide +kernel) (by decide +kernel)) ?_
    refine br_no stb_sr (hw (s := "turn") rfl (by decide +kernel) (by decide +kernel) (by decide +kernel)) ?_
    show Br _ _ _ _ _ _ (wD (spdR x))
    cases hs : isSpD x with
    | false =>
      refine br_is (br_yes stb_sr (ebt_is (ebt_not (ebt_B (eb_ev (ev_call (ea_cons (x0 rfl) ea_nil) (by exact ⟨x, rfl, o1, rfl⟩))))) (by rw [hs]; rfl)) (br_ret stb_sr (eb_ev ev_str))) ?_
      unfold spdR
      rw [if_pos hs]
      rfl
    | true =>
      refine br_no stb_sr (ebt_is (ebt_not (ebt_B (eb_ev (ev_call (ea_cons (x0 rfl) ea_nil) (by exact ⟨x, rfl, o1, rfl⟩))))) (by rw [hs]; rfl)) ?_
      obtain ⟨v, rfl, sv, bv⟩ := o2 hs
      have e : spdR (fq v) = (if isNon (beatD v) = true then some ("plain" : Str) else none) := by
        unfold spdR
        rw [if_neg (by rw [hs]; exact fun q => by cases q), ratOf_fq]
      rw [e]
      refine br_ret stb_sr (eb_if stb_sr (b := isNon (beatD v)) (ebt_ev (et_test (ev_op (ev_call (ea_cons (x0 rfl) ea_nil) (by exact ⟨v, rfl, bv.mono (by decide), rfl⟩)) ev_non r2_isN))) (fun z => eb_ev ?_) (fun z => eb_ev ?_))
      · exact ev_is ev_str (by rw [if_pos z]; rfl)
      · exact ev_is ev_non (by rw [if_neg (by rw [z]; exact Bool.false_ne_true)]; rfl)
  | push x =>
    obtain ⟨o1, o2⟩ := ok
    refine br_no stb_sr (hw (s := "push") rfl (by decide +kernel) (by decide +kernel) (by decide +kernel)) ?_
    refine br_no stb_sr (hw (s := "push") rfl (by decide +kernel) (by decide +kernel) (by decide +kernel)) ?_
    refine br_no stb_sr (hw (s := "push") rfl (by decide +kernel) (by decide +kernel) (by decide +kernel)) ?_
    show Br _ _ _ _ _ _ (wD (spdR x))
    cases hs : isSpD x with
    | false =>
      refine br_is (br_yes stb_sr (ebt_is (ebt_not (ebt_B (eb_ev (ev_call (ea_cons (x0 rfl) ea_nil) (by exact ⟨x, rfl, o1, rfl⟩))))) (by rw [hs]; rfl)) (br_ret stb_sr (eb_ev ev_str))) ?_
      unfold spdR
      rw [if_pos hs]
      rfl
    | true =>
      refine br_no stb_sr (ebt_is (ebt_not (ebt_B (eb_ev (ev_call (ea_cons (x0 rfl) ea_nil) (by exact ⟨x, rfl, o1, rfl⟩))))) (by rw [hs]; rfl)) ?_
      obtain ⟨v, rfl, sv, bv⟩ := o2 hs
      have e : spdR (fq v) = (if isNon (beatD v) = true then some ("plain" : Str) else none) := by
        unfold spdR
        rw [if_neg (by rw [hs]; exact fun q => by cases q), ratOf_fq]
      rw [e]
      refine br_ret stb_sr (eb_if stb_sr (b := isNon (beatD v)) (ebt_ev (et_test (ev_op (ev_call (ea_cons (x0 rfl) ea_nil) (by exact ⟨v, rfl, bv.mono (by decide), rfl⟩)) ev_non r2_isN))) (fun z => eb_ev ?_) (fun z => eb_ev ?_))
      · exact ev_is ev_str (by rw [if_pos z]; rfl)
      · exact ev_is ev_non (by rw [if_neg (by rw [z]; exact Bool.false_ne_true)]; rfl)
theorem h__law_sum (T : Txt K mg ca fa ka) : Has P w K mg base CX0 2 "_law_sum" ["_law_one", "_law_other"] (spP K R_sum) := by
  refine T.d__law_sum.pure sc__law_sum (fun ds d h => by obtain ⟨x, y, rfl, _⟩ := h; rfl) (fun f cdv A outer s H E hr => (pss_one (ps_ret (pe_h (h__law_low T) hr (by decide) pass0 (pa_cons (pe_op op_add (pe_op op_mulA (pe_ix (ixK (K := K) rfl) (pv 0) pe_int (fun _ _ => rfl)) (pe_ix (ixK (K := K) rfl) (pv 1) pe_int (fun _ _ => rfl))) (pe_op op_mulA (pe_ix (ixK (K := K) rfl) (pv 1) pe_int (fun _ _ => rfl)) (pe_ix (ixK (K := K) rfl) (pv 0) pe_int (fun _ _ => rfl)))) (pa_cons (pe_op op_mulA (pe_ix (ixK (K := K) rfl) (pv 0) pe_int (fun _ _ => rfl)) (pe_ix (ixK (K := K) rfl) (pv 1) pe_int (fun _ _ => rfl))) pa_nil)))))) ?_
  rintro ds d ⟨x, y, rfl, bx, by_, rfl⟩
  refine rt_ret (ev_call (ea_cons (ev_op (ev_op (ev_op (ev_var rfl) ev_int fx0) (ev_op (ev_var rfl) ev_int fx1) (r2_mul (mulok bx.1 by_.2 (by decide)))) (ev_op (ev_op (ev_var rfl) ev_int fx0) (ev_op (ev_var rfl) ev_int fx1) (r2_mul (mulok by_.1 bx.2 (by decide)))) r2_add) (ea_cons (ev_op (ev_op (ev_var rfl) ev_int fx1) (ev_op (ev_var rfl) ev_int fx1) (r2_mul (mulok bx.2 by_.2 (by decide)))) ea_nil)) ⟨_, _, rfl, Int.mul_ne_zero (den_ne x) (den_ne y), (bt_mul bx.2 by_.2).mono (by decide), ?_⟩)
  rw [q_add]
theorem h__law_quot (T : Txt K mg ca fa ka) : Has P w K mg base CX0 2 "_law_quot" ["_law_one", "_law_other"] (spP K R_quot) := by
  refine T.d__law_quot.pure sc__law_quot (fun ds d h => by obtain ⟨x, y, rfl, _⟩ := h; rfl) (fun f cdv A outer s H E hr => (pss_one (ps_ret (pe_h (h__law_low T) hr (by decide) pass0 (pa_cons (pe_op op_mulA (pe_ix (ixK (K := K) rfl) (pv 0) pe_int (fun _ _ => rfl)) (pe_ix (ixK (K := K) rfl) (pv 1) pe_int (fun _ _ => rfl))) (pa_cons (pe_op op_mulA (pe_ix (ixK (K := K) rfl) (pv 0) pe_int (fun _ _ => rfl)) (pe_ix (ixK (K := K) rfl) (pv 1) pe_int (fun _ _ => rfl))) pa_nil)))))) ?_
  rintro ds d ⟨x, y, rfl, bx, by_, y0, rfl⟩
  refine rt_ret (ev_call (ea_cons (ev_op (ev_op (ev_var rfl) ev_int fx0) (ev_op (ev_var rfl) ev_int fx1) (r2_mul (mulok bx.1 by_.2 (by decide)))) (ea_cons (ev_op (ev_op (ev_var rfl) ev_int fx1) (ev_op (ev_var rfl) ev_int fx0) (r2_mul (mulok bx.2 by_.1 (by decide)))) ea_nil)) ⟨_, _, rfl, Int.mul_ne_zero (den_ne x) (num_ne.mpr y0), (bt_mul bx.2 by_.1).mono (by decide), ?_⟩)
  rw [q_div]
theorem h__law_joined (T : Txt K mg ca fa ka) : Has P w K mg base CX0 3 "_law_joined" ["_law_one", "_law_other"] (spP K R_joined) := by
  refine T.d__law_joined.pure sc__law_joined (fun ds d h => by obtain ⟨x, y, rfl, _⟩ := h; rfl) (fun f cdv A outer s H E hr => (pss_one (ps_ret (pe_h (h__law_quot T) hr (by decide) pass0 (pa_cons (pe_h (h__law_sum T) hr (by decide) pass0 (pa_cons (pv 0) (pa_cons (pv 1) pa_nil))) (pa_cons (pe_h (h__law_sum T) hr (by decide) pass0 (pa_cons (pe_tup (pa_cons pe_int (pa_cons pe_int pa_nil))) (pa_cons (pe_h (h__law_prod T) hr (by decide) pass0 (pa_cons (pv 0) (pa_cons (pv 1) pa_nil))) pa_nil))) pa_nil)))))) ?_
  rintro ds d ⟨x, y, rfl, ⟨n, m, bx, by_, hnm⟩, h, rfl⟩
  rw [jn_def]
  have b1 : Bq 4400 1 := bq_one.mono (by decide)
  have bx4 : Bq 4400 x := bx.mono (by omega)
  have by4 : Bq 4400 y := by_.mono (by omega)
  have bs : Bq 4400 (x + y) := (bq_add bx by_).mono (by omega)
  have bp : Bq 4400 (x * y) := (bq_mul bx by_).mono (by omega)
  have bq : Bq 4400 (1 + x * y) := (bq_add bq_one (bq_mul bx by_)).mono (by omega)
  clear bx by_
  have e1 : (Dt.tup [.int 1, .int 1]) = fq 1 := rfl
  refine rt_ret ?_
  refine ev_call (ea_cons (ev_call (by walk_at "ea") (by walk_at "rok")) (ea_cons (ev_call (ea_cons (ev_is (by walk_at "ev") e1) (by walk_at "ea")) (by walk_at "rok")) ea_nil)) (by walk_at "rok")
def R_kpt (b : Bst) (ds : List Dt) (d : Dt) (b' : Bst) : Prop := ∃ de : Deed, ds = [.str de.w, .lst de.t] ∧ DeedOk de ∧ SpB b ∧ DoneR b de d b'
theorem h__law_kept (T : Txt K mg ca fa ka) : Has P w K mg base CX0 5 "_law_kept" ["_law_state", "_law_word", "_law_told"] (spStD K R_kpt) := by
  refine T.d__law_kept.deedS sc__law_kept (fun b ds d b' h => by obtain ⟨_, rfl, _⟩ := h; rfl) (fun f cdv A outer s H E hr => (pss_cons (ps_set (i := 3) sc__law_kept.nd rfl (Or.inl rfl) (pe_h (h__law_refused_as T) hr (by decide) pass0 (pa_cons (pv 0) (pa_cons (pv 1) (pa_cons (pv 2) pa_nil))))) (pss_cons (ps_if (pt_cmpR op_notN1 (pv 3) pe_non (nomark _)) (pss_one (ps_ret (pv 3))) pss_nil) (pss_cons (ps_if (pt_cmpR (eqK (K := K) rfl hr.units) (pv 1) pe_str (nomark _)) (pss_cons (ps_asg (bm0K (K := K) rfl (pe_bm0 PySem.F.plainAttrs_list PySem.F.slot_list_pop PySem.F.type_list_pop mt_pop (pe_dget (lt64 hr.units) (pv 0) pe_str (fun _ _ => rfl)))) (tupK (K := K) (n := 2) rfl rfl (pgs_cons (pg_sub (pv 0) pe_str (set_dict (lt64 hr.units))) (pgs_cons (pg_sub (pv 0) pe_str (set_dict (lt64 hr.units))) pgs_nil)))) (pss_one (ps_ret pe_non))) pss_nil) (pss_cons (ps_expr (bmK (K := K) rfl (pe_bm PySem.F.plainAttrs_list PySem.F.slot_list_append PySem.F.type_list_append mt_append (pe_dget (lt64 hr.units) (pv 0) pe_str (fun _ _ => rfl)) (pa_cons (pe_tup (pa_cons (pe_dget (lt64 hr.units) (pv 0) pe_str (fun _ _ => rfl)) (pa_cons (pe_dget (lt64 hr.units) (pv 0) pe_str (fun _ _ => rfl)) pa_nil))) pa_nil)))) (pss_cons (ps_dput (lt64 hr.units) (pv 0) pe_str (pe_callTy dictH (by rfl) T.m_dict (by decide +kernel) (pa_cons (pe_dget (lt64 hr.units) (pv 0) pe_str (fun _ _ => rfl)) pa_nil)) (by rfl)) (pss_cons (ps_if (pt_cmpR (eqK (K := K) rfl hr.units) (pv 1) pe_str (nomark _)) (pss_one (ps_dput (lt64 hr.units) (pe_dget (lt64 hr.units) (pv 0) pe_str (fun _ _ => rfl)) (pe_ix (ixK (K := K) rfl) (pv 2) pe_int (fun _ _ => rfl)) (pe_ix (ixK (K := K) rfl) (pv 2) pe_int (fun _ _ => rfl)) (by rfl))) (pss_one (ps_if (pt_cmpR (eqK (K := K) rfl hr.units) (pv 1) pe_str (nomark _)) (pss_one (ps_expr (pe_dpop1 (pe_dget (lt64 hr.units) (pv 0) pe_str (fun _ _ => rfl)) (pe_ix (ixK (K := K) rfl) (pv 2) pe_int (fun _ _ => rfl)) ⟨rfl, rfl, rfl, rfl⟩))) (pss_one (ps_dput (lt64 hr.units) (pv 0) pe_str (pe_ifExp (pt_cmpR (eqK (K := K) rfl hr.units) (pv 1) pe_str (nomark _)) (pe_ix (ixK (K := K) rfl) (pv 2) pe_int (fun _ _ => rfl)) (pe_h (h__law_joined T) hr (by decide) pass0 (pa_cons (pe_dget (lt64 hr.units) (pv 0) pe_str (fun _ _ => rfl)) (pa_cons (pe_ix (ixK (K := K) rfl) (pv 2) pe_int (fun _ _ => rfl)) pa_nil)))) (by rfl)))))) (pss_one (ps_ret pe_non))))))))) ?_
  rintro y p b ds d b' ⟨de, rfl, ok, ⟨l1, l2, ss, bs⟩, h⟩
  have hw : ∀ {sl : List Sl} {s z : Str} {c : Bool}, sl[1]? = some (.d (.str s)) → SeqAt.shaped (.str s) = true → SeqAt.shaped (.str z) = true → (s == z) = c → EvT K (tTest (tOp (rEqD K) (tVar 1) (tC (.str z)))) sl c := fun h1 h2 h3 h4 => et_is (et_test (ev_op (ev_var h1) ev_str (r2_eqS h2 h3))) h4
  have x0 : ∀ {sl : List Sl} {a : Dt} {l : List Dt}, sl[2]? = some (.d (.lst (a :: l))) → Ev K (tOp (rIx K) (tVar 2) (tC (.int 0))) sl a := fun {sl a l} h => ev_op (ev_var h) ev_int (r2_ixL ((atI_k (k := 0) (a :: l) (Nat.succ_pos _)).trans rfl))
  have x1 : ∀ {sl : List Sl} {a c : Dt} {l : List Dt}, sl[2]? = some (.d (.lst (a :: c :: l))) → Ev K (tOp (rIx K) (tVar 2) (tC (.int 1))) sl c := fun {sl a c l} h => ev_op (ev_var h) ev_int (r2_ixL ((atI_k (k := 1) (a :: c :: l) (Nat.succ_lt_succ (Nat.succ_pos _))).trans rfl))
  refine br_seq (bn_asg (N := fun s => s = [.raw (.ref y), .d (.str de.w), .d (.lst de.t), .d (wD (refw b de))]) (x := wD (refw b de)) stb_so (es_call stb_so (fun _ _ h => h.r) rfl (eba_ev (by walk_at "ea")) (by exact ⟨de, rfl, ok, rfl⟩)) rfl) ?_
  rintro s rfl
  rcases h with ⟨w, hr2, rfl, rfl⟩ | ⟨hr2, rfl, ha⟩
  · rw [hr2]
    exact br_yes stb_so (ebt_ev (et_is (et_test (ev_op (ev_var rfl) ev_non r2_notN)) rfl)) (br_ret stb_so (eb_ev (ev_var rfl)))
  rw [hr2]
  refine br_no stb_so (ebt_ev (et_is (et_test (ev_op (ev_var rfl) ev_non r2_notN)) rfl)) ?_
  cases de with
  | undo =>
    obtain ⟨h0, s0, pt, hp, rfl⟩ := ha
    exact br_yes stb_so (ebt_ev (hw (s := "undo") rfl (by decide +kernel) (by decide +kernel) (by decide +kernel))) (br_seq (bs_undo rfl hp) fun s _ => br_ret stb_so (eb_ev ev_non))
  | put x z =>
    obtain ⟨n, q, rfl, rfl, rfl⟩ := ha
    refine br_no stb_so (ebt_ev (hw (s := "put") rfl (by decide +kernel) (by decide +kernel) (by decide +kernel))) ?_
    refine br_seq (bs_past rfl l2) ?_
    rintro s rfl
    refine br_two (bs_put (n := n) (q := q) rfl l1 (hw (s := "put") rfl (by decide +kernel) (by decide +kernel) (by decide +kernel)) (x0 rfl) (x1 rfl)) ?_
    rintro s rfl
    exact br_ret stb_so (eb_ev ev_non)
  | drop x =>
    obtain ⟨n, rfl, hg, rfl⟩ := ha
    refine br_no stb_so (ebt_ev (hw (s := "drop") rfl (by decide +kernel) (by decide +kernel) (by decide +kernel))) ?_
    refine br_seq (bs_past rfl l2) ?_
    rintro s rfl
    refine br_two (bs_drop (n := n) rfl hg (hw (s := "drop") rfl (by decide +kernel) (by decide +kernel) (by decide +kernel)) (hw (s := "drop") rfl (by decide +kernel) (by decide +kernel) (by decide +kernel)) (x0 rfl)) ?_
    rintro s rfl
    exact br_ret stb_so (eb_ev ev_non)
  | turn x =>
    obtain ⟨v, w, rfl, hv, bv, rfl⟩ := ha
    refine br_no stb_so (ebt_ev (hw (s := "turn") rfl (by decide +kernel) (by decide +kernel) (by decide +kernel))) ?_
    refine br_seq (bs_past rfl l2) ?_
    rintro s rfl
    refine br_two (bs_spd (v := v) rfl (hw (s := "turn") rfl (by decide +kernel) (by decide +kernel) (by decide +kernel)) (hw (s := "turn") rfl (by decide +kernel) (by decide +kernel) (by decide +kernel)) (eb_if stb_w (b := true) (ebt_ev (hw (s := "turn") rfl (by decide +kernel) (by decide +kernel) (by decide +kernel))) (fun _ => eb_ev (x0 rfl)) (fun z => by cases z))) ?_
    rintro s rfl
    exact br_ret stb_so (eb_ev ev_non)
  | push x =>
    obtain ⟨v, w, rfl, hv, bv, rfl⟩ := ha
    refine br_no stb_so (ebt_ev (hw (s := "push") rfl (by decide +kernel) (by decide +kernel) (by decide +kernel))) ?_
    refine br_seq (bs_past rfl l2) ?_
    rintro s rfl
    refine br_two (bs_spd (v := jn b.speed v) rfl (hw (s := "push") rfl (by decide +kernel) (by decide +kernel) (by decide +kernel)) (hw (s := "push") rfl (by decide +kernel) (by decide +kernel) (by decide +kernel)) (eb_if stb_w (b := false) (ebt_ev (hw (s := "push") rfl (by decide +kernel) (by decide +kernel) (by decide +kernel))) (fun z => by cases z) (fun _ => eb_call (eba_cons stb_w (ew_speed rfl) (eba_ev (ea_cons (x0 rfl) ea_nil))) (by exact ⟨b.speed, v, rfl, ⟨4000, 67, bs, bv, by decide⟩, sp_ne ss hv.s, rfl⟩)))) ?_
    rintro s rfl
    exact br_ret stb_so (eb_ev ev_non)
def Kd (ca : Nat → Addr) (D : Addr) (ans : Str) : Prop := (D = ca 16 ∧ ans = "name") ∨ (D = ca 2 ∧ ans = "hap") ∨ (D = ca 4 ∧ ans = "speed") ∨ (D = ca 6 ∧ ans = "plain") ∨ (D = ca 17 ∧ ans = "deed") ∨ (D = ca 5 ∧ ans = "many")
theorem h__law_kind_of (T : Txt K mg ca fa ka) : HasE P w K mg base 1 "_law_kind_of" "_law_e" (Kd ca) := by
  obtain ⟨f, fd, F, hm, b⟩ := T.d__law_kind_of.ex
  refine ⟨f, fd, fun D ans h => ?_, hm, F.kp, b⟩
  rcases h with ⟨rfl, rfl⟩ | ⟨rfl, rfl⟩ | ⟨rfl, rfl⟩ | ⟨rfl, rfl⟩ | ⟨rfl, rfl⟩ | ⟨rfl, rfl⟩
  · refine fnE_of F sc__law_kind_of (fun cdv A outer s H a oe hr hz hf => (pss_cons (ps_set (i := 1) sc__law_kind_of.nd rfl (Or.inl rfl) (pe_lst (pa_cons (pe_callB (isE (K := K) rfl List.mem_cons_self T.e_NoName hz hf) (by rfl) T.m_isinstance (by decide +kernel) (pa_cons (pv 0) (pa_cons (pe_glob (v := .ref (ca 17)) (by rfl) T.c_NoDeed rfl) pa_nil))) (pa_cons (pe_callB (isE (K := K) rfl List.mem_cons_self T.e_NoName hz hf) (by rfl) T.m_isinstance (by decide +kernel) (pa_cons (pv 0) (pa_cons (pe_glob (v := .ref (ca 15)) (by rfl) T.c_NoFlash rfl) pa_nil))) (pa_cons (pe_callB (isE (K := K) rfl List.mem_cons_self T.e_NoName hz hf) (by rfl) T.m_isinstance (by decide +kernel) (pa_cons (pv 0) (pa_cons (pe_glob (v := .ref (ca 1)) (by rfl) T.c_NoFraction rfl) pa_nil))) (pa_cons (pe_callB (isE (K := K) rfl List.mem_cons_self T.e_NoName hz hf) (by rfl) T.m_isinstance (by decide +kernel) (pa_cons (pv 0) (pa_cons (pe_glob (v := .ref (ca 2)) (by rfl) T.c_NoHap rfl) pa_nil))) pa_nil)))))) (pss_cons (ps_set (i := 1) sc__law_kind_of.nd rfl (Or.inl rfl) (pe_op (catK (K := K) rfl) (pv 1) (pe_lst (pa_cons (pe_callB (isE (K := K) rfl List.mem_cons_self T.e_NoName hz hf) (by rfl) T.m_isinstance (by decide +kernel) (pa_cons (pv 0) (pa_cons (pe_glob (v := .ref (ca 8)) (by rfl) T.c_NoHaps rfl) pa_nil))) (pa_cons (pe_callB (isE (K := K) rfl List.mem_cons_self T.e_NoName hz hf) (by rfl) T.m_isinstance (by decide +kernel) (pa_cons (pv 0) (pa_cons (pe_glob (v := .ref (ca 16)) (by rfl) T.c_NoName rfl) pa_nil))) (pa_cons (pe_callB (isE (K := K) rfl List.mem_cons_self T.e_NoName hz hf) (by rfl) T.m_isinstance (by decide +kernel) (pa_cons (pv 0) (pa_cons (pe_glob (v := .ref (ca 11)) (by rfl) T.c_NoNumber rfl) pa_nil))) pa_nil)))))) (pss_cons (ps_set (i := 1) sc__law_kind_of.nd rfl (Or.inl rfl) (pe_op (catK (K := K) rfl) (pv 1) (pe_lst (pa_cons (pe_callB (isE (K := K) rfl List.mem_cons_self T.e_NoName hz hf) (by rfl) T.m_isinstance (by decide +kernel) (pa_cons (pv 0) (pa_cons (pe_glob (v := .ref (ca 9)) (by rfl) T.c_NoOrder rfl) pa_nil))) (pa_cons (pe_callB (isE (K := K) rfl List.mem_cons_self T.e_NoName hz hf) (by rfl) T.m_isinstance (by decide +kernel) (pa_cons (pv 0) (pa_cons (pe_glob (v := .ref (ca 13)) (by rfl) T.c_NoRod rfl) pa_nil))) (pa_cons (pe_callB (isE (K := K) rfl List.mem_cons_self T.e_NoName hz hf) (by rfl) T.m_isinstance (by decide +kernel) (pa_cons (pv 0) (pa_cons (pe_glob (v := .ref (ca 18)) (by rfl) T.c_NoRow rfl) pa_nil))) (pa_cons (pe_callB (isE (K := K) rfl List.mem_cons_self T.e_NoName hz hf) (by rfl) T.m_isinstance (by decide +kernel) (pa_cons (pv 0) (pa_cons (pe_glob (v := .ref (ca 12)) (by rfl) T.c_NoSeat rfl) pa_nil))) pa_nil))))))) (pss_cons (ps_set (i := 1) sc__law_kind_of.nd rfl (Or.inl rfl) (pe_op (catK (K := K) rfl) (pv 1) (pe_lst (pa_cons (pe_callB (isE (K := K) rfl List.mem_cons_self T.e_NoName hz hf) (by rfl) T.m_isinstance (by decide +kernel) (pa_cons (pv 0) (pa_cons (pe_glob (v := .ref (ca 4)) (by rfl) T.c_NoSpeed rfl) pa_nil))) (pa_cons (pe_callB (isE (K := K) rfl List.mem_cons_self T.e_NoName hz hf) (by rfl) T.m_isinstance (by decide +kernel) (pa_cons (pv 0) (pa_cons (pe_glob (v := .ref (ca 10)) (by rfl) T.c_NoStep rfl) pa_nil))) (pa_cons (pe_callB (isE (K := K) rfl List.mem_cons_self T.e_NoName hz hf) (by rfl) T.m_isinstance (by decide +kernel) (pa_cons (pv 0) (pa_cons (pe_glob (v := .ref (ca 7)) (by rfl) T.c_NoStretch rfl) pa_nil))) pa_nil)))))) (pss_cons (ps_set (i := 1) sc__law_kind_of.nd rfl (Or.inl rfl) (pe_op (catK (K := K) rfl) (pv 1) (pe_lst (pa_cons (pe_callB (isE (K := K) rfl List.mem_cons_self T.e_NoName hz hf) (by rfl) T.m_isinstance (by decide +kernel) (pa_cons (pv 0) (pa_cons (pe_glob (v := .ref (ca 3)) (by rfl) T.c_NoText rfl) pa_nil))) (pa_cons (pe_callB (isE (K := K) rfl List.mem_cons_self T.e_NoName hz hf) (by rfl) T.m_isinstance (by decide +kernel) (pa_cons (pv 0) (pa_cons (pe_glob (v := .ref (ca 6)) (by rfl) T.c_NotPlain rfl) pa_nil))) (pa_cons (pe_callB (isE (K := K) rfl List.mem_cons_self T.e_NoName hz hf) (by rfl) T.m_isinstance (by decide +kernel) (pa_cons (pv 0) (pa_cons (pe_glob (v := .ref (ca 14)) (by rfl) T.c_NoWay rfl) pa_nil))) (pa_cons (pe_callB (isE (K := K) rfl List.mem_cons_self T.e_NoName hz hf) (by rfl) T.m_isinstance (by decide +kernel) (pa_cons (pv 0) (pa_cons (pe_glob (v := .ref (ca 5)) (by rfl) T.c_TooMany rfl) pa_nil))) pa_nil))))))) (pss_cons (ps_if (PW.pt (pw_or (pt_cmpR (neK (K := K) rfl (unH hr)) (bmK (K := K) rfl (pe_bm PySem.F.plainAttrs_list PySem.F.slot_list_count PySem.F.type_list_count (cntK (K := K) rfl (unH hr)) (pv 1) (pa_cons pe_bl pa_nil))) pe_int (nomark _)) (pw_or1 (pt_not (pt_val (pe_callB (isE (K := K) rfl List.mem_cons_self T.e_NoName hz hf) (by rfl) T.m_isinstance (by decide +kernel) (pa_cons (pv 0) (pa_cons (pe_bltn (v := .ty "ValueError") (by rfl) T.m_ValueError (by decide +kernel) rfl) pa_nil)))))))) (pss_one (ps_ret pe_str)) pss_nil) (pss_cons (ps_set (i := 2) sc__law_kind_of.nd rfl (Or.inl rfl) (pe_lst (pa_cons pe_str (pa_cons pe_str (pa_cons pe_str (pa_cons pe_str (pa_cons pe_str (pa_cons pe_str (pa_cons pe_str (pa_cons pe_str (pa_cons pe_str (pa_cons pe_str (pa_cons pe_str (pa_cons pe_str pa_nil)))))))))))))) (pss_one (ps_ret (pe_ix (ixK (K := K) rfl) (pe_op (catK (K := K) rfl) (pv 2) (pe_lst (pa_cons pe_str (pa_cons pe_str (pa_cons pe_str (pa_cons pe_str (pa_cons pe_str (pa_cons pe_str pa_nil)))))))) (bmK (K := K) rfl (pe_bm PySem.F.plainAttrs_list PySem.F.slot_list_index PySem.F.type_list_index (idxK (K := K) rfl) (pv 1) (pa_cons pe_bl pa_nil))) (fun _ _ => rfl)))))))))))) fun a => ?_
    refine (rt_seq (nt_asg (ev_lst (ea_cons (ev_isE rfl (fun _ r => r) T.k_NoName_NoDeed) (ea_cons (ev_isE rfl (fun _ r => r) T.k_NoName_NoFlash) (ea_cons (ev_isE rfl (fun _ r => r) T.k_NoName_NoFraction) (ea_cons (ev_isE rfl (fun _ r => r) T.k_NoName_NoHap) ea_nil)))))) (rt_seq (nt_asg (ev_op (ev_var rfl) (ev_lst (ea_cons (ev_isE rfl (fun _ r => r) T.k_NoName_NoHaps) (ea_cons (ev_isE rfl (fun _ r => r) T.k_NoName_NoName) (ea_cons (ev_isE rfl (fun _ r => r) T.k_NoName_NoNumber) ea_nil)))) (r2_cat (by exact Nat.le_of_ble_eq_true rfl)))) (rt_seq (nt_asg (ev_op (ev_var rfl) (ev_lst (ea_cons (ev_isE rfl (fun _ r => r) T.k_NoName_NoOrder) (ea_cons (ev_isE rfl (fun _ r => r) T.k_NoName_NoRod) (ea_cons (ev_isE rfl (fun _ r => r) T.k_NoName_NoRow) (ea_cons (ev_isE rfl (fun _ r => r) T.k_NoName_NoSeat) ea_nil))))) (r2_cat (by exact Nat.le_of_ble_eq_true rfl)))) (rt_seq (nt_asg (ev_op (ev_var rfl) (ev_lst (ea_cons (ev_isE rfl (fun _ r => r) T.k_NoName_NoSpeed) (ea_cons (ev_isE rfl (fun _ r => r) T.k_NoName_NoStep) (ea_cons (ev_isE rfl (fun _ r => r) T.k_NoName_NoStretch) ea_nil)))) (r2_cat (by exact Nat.le_of_ble_eq_true rfl)))) (rt_seq (nt_asg (ev_op (ev_var rfl) (ev_lst (ea_cons (ev_isE rfl (fun _ r => r) T.k_NoName_NoText) (ea_cons (ev_isE rfl (fun _ r => r) T.k_NoName_NotPlain) (ea_cons (ev_isE rfl (fun _ r => r) T.k_NoName_NoWay) (ea_cons (ev_isE rfl (fun _ r => r) T.k_NoName_TooMany) ea_nil))))) (r2_cat (by exact Nat.le_of_ble_eq_true rfl)))) ?_)))))
    refine rt_cond (b := false) (et_is (et_or (et_test (ev_op (ev_count (bs := [false, false, false, false, false, true, false, false, false, false, false, false, false, false, false, false, false, false]) (ev_var rfl)) ev_int r2_neI)) (fun _ => et_not (et_B (ev_isE rfl (fun _ r => r) T.v_NoName)))) rfl) (fun h => by cases h) (fun _ => ?_)
    refine rt_seq (nt_asg (ev_lst (ea_cons ev_str (ea_cons ev_str (ea_cons ev_str (ea_cons ev_str (ea_cons ev_str (ea_cons ev_str (ea_cons ev_str (ea_cons ev_str (ea_cons ev_str (ea_cons ev_str (ea_cons ev_str (ea_cons ev_str ea_nil)))))))))))))) ?_
    refine rt_ret (ev_op (ev_op (ev_var rfl) (ev_lst (ea_cons ev_str (ea_cons ev_str (ea_cons ev_str (ea_cons ev_str (ea_cons ev_str (ea_cons ev_str ea_nil))))))) (r2_cat (by exact Nat.le_of_ble_eq_true rfl))) (ev_index (bs := [false, false, false, false, false, true, false, false, false, false, false, false, false, false, false, false, false, false]) (j := 5) (ev_var rfl) rfl ?_) (r2_ixL rfl))
    intro m hm
    match m, hm with
    | 0, _ => rfl
    | 1, _ => rfl
    | 2, _ => rfl
    | 3, _ => rfl
    | 4, _ => rfl
    | m + 5, h => exact absurd h (by omega)
  · refine fnE_of F sc__law_kind_of (fun cdv A outer s H a oe hr hz hf => (pss_cons (ps_set (i := 1) sc__law_kind_of.nd rfl (Or.inl rfl) (pe_lst (pa_cons (pe_callB (isE (K := K) rfl List.mem_cons_self T.e_NoHap hz hf) (by rfl) T.m_isinstance (by decide +kernel) (pa_cons (pv 0) (pa_cons (pe_glob (v := .ref (ca 17)) (by rfl) T.c_NoDeed rfl) pa_nil))) (pa_cons (pe_callB (isE (K := K) rfl List.mem_cons_self T.e_NoHap hz hf) (by rfl) T.m_isinstance (by decide +kernel) (pa_cons (pv 0) (pa_cons (pe_glob (v := .ref (ca 15)) (by rfl) T.c_NoFlash rfl) pa_nil))) (pa_cons (pe_callB (isE (K := K) rfl List.mem_cons_self T.e_NoHap hz hf) (by rfl) T.m_isinstance (by decide +kernel) (pa_cons (pv 0) (pa_cons (pe_glob (v := .ref (ca 1)) (by rfl) T.c_NoFraction rfl) pa_nil))) (pa_cons (pe_callB (isE (K := K) rfl List.mem_cons_self T.e_NoHap hz hf) (by rfl) T.m_isinstance (by decide +kernel) (pa_cons (pv 0) (pa_cons (pe_glob (v := .ref (ca 2)) (by rfl) T.c_NoHap rfl) pa_nil))) pa_nil)))))) (pss_cons (ps_set (i := 1) sc__law_kind_of.nd rfl (Or.inl rfl) (pe_op (catK (K := K) rfl) (pv 1) (pe_lst (pa_cons (pe_callB (isE (K := K) rfl List.mem_cons_self T.e_NoHap hz hf) (by rfl) T.m_isinstance (by decide +kernel) (pa_cons (pv 0) (pa_cons (pe_glob (v := .ref (ca 8)) (by rfl) T.c_NoHaps rfl) pa_nil))) (pa_cons (pe_callB (isE (K := K) rfl List.mem_cons_self T.e_NoHap hz hf) (by rfl) T.m_isinstance (by decide +kernel) (pa_cons (pv 0) (pa_cons (pe_glob (v := .ref (ca 16)) (by rfl) T.c_NoName rfl) pa_nil))) (pa_cons (pe_callB (isE (K := K) rfl List.mem_cons_self T.e_NoHap hz hf) (by rfl) T.m_isinstance (by decide +kernel) (pa_cons (pv 0) (pa_cons (pe_glob (v := .ref (ca 11)) (by rfl) T.c_NoNumber rfl) pa_nil))) pa_nil)))))) (pss_cons (ps_set (i := 1) sc__law_kind_of.nd rfl (Or.inl rfl) (pe_op (catK (K := K) rfl) (pv 1) (pe_lst (pa_cons (pe_callB (isE (K := K) rfl List.mem_cons_self T.e_NoHap hz hf) (by rfl) T.m_isinstance (by decide +kernel) (pa_cons (pv 0) (pa_cons (pe_glob (v := .ref (ca 9)) (by rfl) T.c_NoOrder rfl) pa_nil))) (pa_cons (pe_callB (isE (K := K) rfl List.mem_cons_self T.e_NoHap hz hf) (by rfl) T.m_isinstance (by decide +kernel) (pa_cons (pv 0) (pa_cons (pe_glob (v := .ref (ca 13)) (by rfl) T.c_NoRod rfl) pa_nil))) (pa_cons (pe_callB (isE (K := K) rfl List.mem_cons_self T.e_NoHap hz hf) (by rfl) T.m_isinstance (by decide +kernel) (pa_cons (pv 0) (pa_cons (pe_glob (v := .ref (ca 18)) (by rfl) T.c_NoRow rfl) pa_nil))) (pa_cons (pe_callB (isE (K := K) rfl List.mem_cons_self T.e_NoHap hz hf) (by rfl) T.m_isinstance (by decide +kernel) (pa_cons (pv 0) (pa_cons (pe_glob (v := .ref (ca 12)) (by rfl) T.c_NoSeat rfl) pa_nil))) pa_nil))))))) (pss_cons (ps_set (i := 1) sc__law_kind_of.nd rfl (Or.inl rfl) (pe_op (catK (K := K) rfl) (pv 1) (pe_lst (pa_cons (pe_callB (isE (K := K) rfl List.mem_cons_self T.e_NoHap hz hf) (by rfl) T.m_isinstance (by decide +kernel) (pa_cons (pv 0) (pa_cons (pe_glob (v := .ref (ca 4)) (by rfl) T.c_NoSpeed rfl) pa_nil))) (pa_cons (pe_callB (isE (K := K) rfl List.mem_cons_self T.e_NoHap hz hf) (by rfl) T.m_isinstance (by decide +kernel) (pa_cons (pv 0) (pa_cons (pe_glob (v := .ref (ca 10)) (by rfl) T.c_NoStep rfl) pa_nil))) (pa_cons (pe_callB (isE (K := K) rfl List.mem_cons_self T.e_NoHap hz hf) (by rfl) T.m_isinstance (by decide +kernel) (pa_cons (pv 0) (pa_cons (pe_glob (v := .ref (ca 7)) (by rfl) T.c_NoStretch rfl) pa_nil))) pa_nil)))))) (pss_cons (ps_set (i := 1) sc__law_kind_of.nd rfl (Or.inl rfl) (pe_op (catK (K := K) rfl) (pv 1) (pe_lst (pa_cons (pe_callB (isE (K := K) rfl List.mem_cons_self T.e_NoHap hz hf) (by rfl) T.m_isinstance (by decide +kernel) (pa_cons (pv 0) (pa_cons (pe_glob (v := .ref (ca 3)) (by rfl) T.c_NoText rfl) pa_nil))) (pa_cons (pe_callB (isE (K := K) rfl List.mem_cons_self T.e_NoHap hz hf) (by rfl) T.m_isinstance (by decide +kernel) (pa_cons (pv 0) (pa_cons (pe_glob (v := .ref (ca 6)) (by rfl) T.c_NotPlain rfl) pa_nil))) (pa_cons (pe_callB (isE (K := K) rfl List.mem_cons_self T.e_NoHap hz hf) (by rfl) T.m_isinstance (by decide +kernel) (pa_cons (pv 0) (pa_cons (pe_glob (v := .ref (ca 14)) (by rfl) T.c_NoWay rfl) pa_nil))) (pa_cons (pe_callB (isE (K := K) rfl List.mem_cons_self T.e_NoHap hz hf) (by rfl) T.m_isinstance (by decide +kernel) (pa_cons (pv 0) (pa_cons (pe_glob (v := .ref (ca 5)) (by rfl) T.c_TooMany rfl) pa_nil))) pa_nil))))))) (pss_cons (ps_if (PW.pt (pw_or (pt_cmpR (neK (K := K) rfl (unH hr)) (bmK (K := K) rfl (pe_bm PySem.F.plainAttrs_list PySem.F.slot_list_count PySem.F.type_list_count (cntK (K := K) rfl (unH hr)) (pv 1) (pa_cons pe_bl pa_nil))) pe_int (nomark _)) (pw_or1 (pt_not (pt_val (pe_callB (isE (K := K) rfl List.mem_cons_self T.e_NoHap hz hf) (by rfl) T.m_isinstance (by decide +kernel) (pa_cons (pv 0) (pa_cons (pe_bltn (v := .ty "ValueError") (by rfl) T.m_ValueError (by decide +kernel) rfl) pa_nil)))))))) (pss_one (ps_ret pe_str)) pss_nil) (pss_cons (ps_set (i := 2) sc__law_kind_of.nd rfl (Or.inl rfl) (pe_lst (pa_cons pe_str (pa_cons pe_str (pa_cons pe_str (pa_cons pe_str (pa_cons pe_str (pa_cons pe_str (pa_cons pe_str (pa_cons pe_str (pa_cons pe_str (pa_cons pe_str (pa_cons pe_str (pa_cons pe_str pa_nil)))))))))))))) (pss_one (ps_ret (pe_ix (ixK (K := K) rfl) (pe_op (catK (K := K) rfl) (pv 2) (pe_lst (pa_cons pe_str (pa_cons pe_str (pa_cons pe_str (pa_cons pe_str (pa_cons pe_str (pa_cons pe_str pa_nil)))))))) (bmK (K := K) rfl (pe_bm PySem.F.plainAttrs_list PySem.F.slot_list_index PySem.F.type_list_index (idxK (K := K) rfl) (pv 1) (pa_cons pe_bl pa_nil))) (fun _ _ => rfl)))))))))))) fun a => ?_
    refine (rt_seq (nt_asg (ev_lst (ea_cons (ev_isE rfl (fun _ r => r) T.k_NoHap_NoDeed) (ea_cons (ev_isE rfl (fun _ r => r) T.k_NoHap_NoFlash) (ea_cons (ev_isE rfl (fun _ r => r) T.k_NoHap_NoFraction) (ea_cons (ev_isE rfl (fun _ r => r) T.k_NoHap_NoHap) ea_nil)))))) (rt_seq (nt_asg (ev_op (ev_var rfl) (ev_lst (ea_cons (ev_isE rfl (fun _ r => r) T.k_NoHap_NoHaps) (ea_cons (ev_isE rfl (fun _ r => r) T.k_NoHap_NoName) (ea_cons (ev_isE rfl (fun _ r => r) T.k_NoHap_NoNumber) ea_nil)))) (r2_cat (by exact Nat.le_of_ble_eq_true rfl)))) (rt_seq (nt_asg (ev_op (ev_var rfl) (ev_lst (ea_cons (ev_isE rfl (fun _ r => r) T.k_NoHap_NoOrder) (ea_cons (ev_isE rfl (fun _ r => r) T.k_NoHap_NoRod) (ea_cons (ev_isE rfl (fun _ r => r) T.k_NoHap_NoRow) (ea_cons (ev_isE rfl (fun _ r => r) T.k_NoHap_NoSeat) ea_nil))))) (r2_cat (by exact Nat.le_of_ble_eq_true rfl)))) (rt_seq (nt_asg (ev_op (ev_var rfl) (ev_lst (ea_cons (ev_isE rfl (fun _ r => r) T.k_NoHap_NoSpeed) (ea_cons (ev_isE rfl (fun _ r => r) T.k_NoHap_NoStep) (ea_cons (ev_isE rfl (fun _ r => r) T.k_NoHap_NoStretch) ea_nil)))) (r2_cat (by exact Nat.le_of_ble_eq_true rfl)))) (rt_seq (nt_asg (ev_op (ev_var rfl) (ev_lst (ea_cons (ev_isE rfl (fun _ r => r) T.k_NoHap_NoText) (ea_cons (ev_isE rfl (fun _ r => r) T.k_NoHap_NotPlain) (ea_cons (ev_isE rfl (fun _ r => r) T.k_NoHap_NoWay) (ea_cons (ev_isE rfl (fun _ r => r) T.k_NoHap_TooMany) ea_nil))))) (r2_cat (by exact Nat.le_of_ble_eq_true rfl)))) ?_)))))
    refine rt_cond (b := false) (et_is (et_or (et_test (ev_op (ev_count (bs := [false, false, false, true, false, false, false, false, false, false, false, false, false, false, false, false, false, false]) (ev_var rfl)) ev_int r2_neI)) (fun _ => et_not (et_B (ev_isE rfl (fun _ r => r) T.v_NoHap)))) rfl) (fun h => by cases h) (fun _ => ?_)
    refine rt_seq (nt_asg (ev_lst (ea_cons ev_str (ea_cons ev_str (ea_cons ev_str (ea_cons ev_str (ea_cons ev_str (ea_cons ev_str (ea_cons ev_str (ea_cons ev_str (ea_cons ev_str (ea_cons ev_str (ea_cons ev_str (ea_cons ev_str ea_nil)))))))))))))) ?_
    refine rt_ret (ev_op (ev_op (ev_var rfl) (ev_lst (ea_cons ev_str (ea_cons ev_str (ea_cons ev_str (ea_cons ev_str (ea_cons ev_str (ea_cons ev_str ea_nil))))))) (r2_cat (by exact Nat.le_of_ble_eq_true rfl))) (ev_index (bs := [false, false, false, true, false, false, false, false, false, false, false, false, false, false, false, false, false, false]) (j := 3) (ev_var rfl) rfl ?_) (r2_ixL rfl))
    intro m hm
    match m, hm with
    | 0, _ => rfl
    | 1, _ => rfl
    | 2, _ => rfl
    | m + 3, h => exact absurd h (by omega)
  · refine fnE_of F sc__law_kind_of (fun cdv A outer s H a oe hr hz hf => (pss_cons (ps_set (i := 1) sc__law_kind_of.nd rfl (Or.inl rfl) (pe_lst (pa_cons (pe_callB (isE (K := K) rfl List.mem_cons_self T.e_NoSpeed hz hf) (by rfl) T.m_isinstance (by decide +kernel) (pa_cons (pv 0) (pa_cons (pe_glob (v := .ref (ca 17)) (by rfl) T.c_NoDeed rfl) pa_nil))) (pa_cons (pe_callB (isE (K := K) rfl List.mem_cons_self T.e_NoSpeed hz hf) (by rfl) T.m_isinstance (by decide +kernel) (pa_cons (pv 0) (pa_cons (pe_glob (v := .ref (ca 15)) (by rfl) T.c_NoFlash rfl) pa_nil))) (pa_cons (pe_callB (isE (K := K) rfl List.mem_cons_self T.e_NoSpeed hz hf) (by rfl) T.m_isinstance (by decide +kernel) (pa_cons (pv 0) (pa_cons (pe_glob (v := .ref (ca 1)) (by rfl) T.c_NoFraction rfl) pa_nil))) (pa_cons (pe_callB (isE (K := K) rfl List.mem_cons_self T.e_NoSpeed hz hf) (by rfl) T.m_isinstance (by decide +kernel) (pa_cons (pv 0) (pa_cons (pe_glob (v := .ref (ca 2)) (by rfl) T.c_NoHap rfl) pa_nil))) pa_nil)))))) (pss_cons (ps_set (i := 1) sc__law_kind_of.nd rfl (Or.inl rfl) (pe_op (catK (K := K) rfl) (pv 1) (pe_lst (pa_cons (pe_callB (isE (K := K) rfl List.mem_cons_self T.e_NoSpeed hz hf) (by rfl) T.m_isinstance (by decide +kernel) (pa_cons (pv 0) (pa_cons (pe_glob (v := .ref (ca 8)) (by rfl) T.c_NoHaps rfl) pa_nil))) (pa_cons (pe_callB (isE (K := K) rfl List.mem_cons_self T.e_NoSpeed hz hf) (by rfl) T.m_isinstance (by decide +kernel) (pa_cons (pv 0) (pa_cons (pe_glob (v := .ref (ca 16)) (by rfl) T.c_NoName rfl) pa_nil))) (pa_cons (pe_callB (isE (K := K) rfl List.mem_cons_self T.e_NoSpeed hz hf) (by rfl) T.m_isinstance (by decide +kernel) (pa_cons (pv 0) (pa_cons (pe_glob (v := .ref (ca 11)) (by rfl) T.c_NoNumber rfl) pa_nil))) pa_nil)))))) (pss_cons (ps_set (i := 1) sc__law_kind_of.nd rfl (Or.inl rfl) (pe_op (catK (K := K) rfl) (pv 1) (pe_lst (pa_cons (pe_callB (isE (K := K) rfl List.mem_cons_self T.e_NoSpeed hz hf) (by rfl) T.m_isinstance (by decide +kernel) (pa_cons (pv 0) (pa_cons (pe_glob (v := .ref (ca 9)) (by rfl) T.c_NoOrder rfl) pa_nil))) (pa_cons (pe_callB (isE (K := K) rfl List.mem_cons_self T.e_NoSpeed hz hf) (by rfl) T.m_isinstance (by decide +kernel) (pa_cons (pv 0) (pa_cons (pe_glob (v := .ref (ca 13)) (by rfl) T.c_NoRod rfl) pa_nil))) (pa_cons (pe_callB (isE (K := K) rfl List.mem_cons_self T.e_NoSpeed hz hf) (by rfl) T.m_isinstance (by decide +kernel) (pa_cons (pv 0) (pa_cons (pe_glob (v := .ref (ca 18)) (by rfl) T.c_NoRow rfl) pa_nil))) (pa_cons (pe_callB (isE (K := K) rfl List.mem_cons_self T.e_NoSpeed hz hf) (by rfl) T.m_isinstance (by decide +kernel) (pa_cons (pv 0) (pa_cons (pe_glob (v := .ref (ca 12)) (by rfl) T.c_NoSeat rfl) pa_nil))) pa_nil))))))) (pss_cons (ps_set (i := 1) sc__law_kind_of.nd rfl (Or.inl rfl) (pe_op (catK (K := K) rfl) (pv 1) (pe_lst (pa_cons (pe_callB (isE (K := K) rfl List.mem_cons_self T.e_NoSpeed hz hf) (by rfl) T.m_isinstance (by decide +kernel) (pa_cons (pv 0) (pa_cons (pe_glob (v := .ref (ca 4)) (by rfl) T.c_NoSpeed rfl) pa_nil))) (pa_cons (pe_callB (isE (K := K) rfl List.mem_cons_self T.e_NoSpeed hz hf) (by rfl) T.m_isinstance (by decide +kernel) (pa_cons (pv 0) (pa_cons (pe_glob (v := .ref (ca 10)) (by rfl) T.c_NoStep rfl) pa_nil))) (pa_cons (pe_callB (isE (K := K) rfl List.mem_cons_self T.e_NoSpeed hz hf) (by rfl) T.m_isinstance (by decide +kernel) (pa_cons (pv 0) (pa_cons (pe_glob (v := .ref (ca 7)) (by rfl) T.c_NoStretch rfl) pa_nil))) pa_nil)))))) (pss_cons (ps_set (i := 1) sc__law_kind_of.nd rfl (Or.inl rfl) (pe_op (catK (K := K) rfl) (pv 1) (pe_lst (pa_cons (pe_callB (isE (K := K) rfl List.mem_cons_self T.e_NoSpeed hz hf) (by rfl) T.m_isinstance (by decide +kernel) (pa_cons (pv 0) (pa_cons (pe_glob (v := .ref (ca 3)) (by rfl) T.c_NoText rfl) pa_nil))) (pa_cons (pe_callB (isE (K := K) rfl List.mem_cons_self T.e_NoSpeed hz hf) (by rfl) T.m_isinstance (by decide +kernel) (pa_cons (pv 0) (pa_cons (pe_glob (v := .ref (ca 6)) (by rfl) T.c_NotPlain rfl) pa_nil))) (pa_cons (pe_callB (isE (K := K) rfl List.mem_cons_self T.e_NoSpeed hz hf) (by rfl) T.m_isinstance (by decide +kernel) (pa_cons (pv 0) (pa_cons (pe_glob (v := .ref (ca 14)) (by rfl) T.c_NoWay rfl) pa_nil))) (pa_cons (pe_callB (isE (K := K) rfl List.mem_cons_self T.e_NoSpeed hz hf) (by rfl) T.m_isinstance (by decide +kernel) (pa_cons (pv 0) (pa_cons (pe_glob (v := .ref (ca 5)) (by rfl) T.c_TooMany rfl) pa_nil))) pa_nil))))))) (pss_cons (ps_if (PW.pt (pw_or (pt_cmpR (neK (K := K) rfl (unH hr)) (bmK (K := K) rfl (pe_bm PySem.F.plainAttrs_list PySem.F.slot_list_count PySem.F.type_list_count (cntK (K := K) rfl (unH hr)) (pv 1) (pa_cons pe_bl pa_nil))) pe_int (nomark _)) (pw_or1 (pt_not (pt_val (pe_callB (isE (K := K) rfl List.mem_cons_self T.e_NoSpeed hz hf) (by rfl) T.m_isinstance (by decide +kernel) (pa_cons (pv 0) (pa_cons (pe_bltn (v := .ty "ValueError") (by rfl) T.m_ValueError (by decide +kernel) rfl) pa_nil)))))))) (pss_one (ps_ret pe_str)) pss_nil) (pss_cons (ps_set (i := 2) sc__law_kind_of.nd rfl (Or.inl rfl) (pe_lst (pa_cons pe_str (pa_cons pe_str (pa_cons pe_str (pa_cons pe_str (pa_cons pe_str (pa_cons pe_str (pa_cons pe_str (pa_cons pe_str (pa_cons pe_str (pa_cons pe_str (pa_cons pe_str (pa_cons pe_str pa_nil)))))))))))))) (pss_one (ps_ret (pe_ix (ixK (K := K) rfl) (pe_op (catK (K := K) rfl) (pv 2) (pe_lst (pa_cons pe_str (pa_cons pe_str (pa_cons pe_str (pa_cons pe_str (pa_cons pe_str (pa_cons pe_str pa_nil)))))))) (bmK (K := K) rfl (pe_bm PySem.F.plainAttrs_list PySem.F.slot_list_index PySem.F.type_list_index (idxK (K := K) rfl) (pv 1) (pa_cons pe_bl pa_nil))) (fun _ _ => rfl)))))))))))) fun a => ?_
    refine (rt_seq (nt_asg (ev_lst (ea_cons (ev_isE rfl (fun _ r => r) T.k_NoSpeed_NoDeed) (ea_cons (ev_isE rfl (fun _ r => r) T.k_NoSpeed_NoFlash) (ea_cons (ev_isE rfl (fun _ r => r) T.k_NoSpeed_NoFraction) (ea_cons (ev_isE rfl (fun _ r => r) T.k_NoSpeed_NoHap) ea_nil)))))) (rt_seq (nt_asg (ev_op (ev_var rfl) (ev_lst (ea_cons (ev_isE rfl (fun _ r => r) T.k_NoSpeed_NoHaps) (ea_cons (ev_isE rfl (fun _ r => r) T.k_NoSpeed_NoName) (ea_cons (ev_isE rfl (fun _ r => r) T.k_NoSpeed_NoNumber) ea_nil)))) (r2_cat (by exact Nat.le_of_ble_eq_true rfl)))) (rt_seq (nt_asg (ev_op (ev_var rfl) (ev_lst (ea_cons (ev_isE rfl (fun _ r => r) T.k_NoSpeed_NoOrder) (ea_cons (ev_isE rfl (fun _ r => r) T.k_NoSpeed_NoRod) (ea_cons (ev_isE rfl (fun _ r => r) T.k_NoSpeed_NoRow) (ea_cons (ev_isE rfl (fun _ r => r) T.k_NoSpeed_NoSeat) ea_nil))))) (r2_cat (by exact Nat.le_of_ble_eq_true rfl)))) (rt_seq (nt_asg (ev_op (ev_var rfl) (ev_lst (ea_cons (ev_isE rfl (fun _ r => r) T.k_NoSpeed_NoSpeed) (ea_cons (ev_isE rfl (fun _ r => r) T.k_NoSpeed_NoStep) (ea_cons (ev_isE rfl (fun _ r => r) T.k_NoSpeed_NoStretch) ea_nil)))) (r2_cat (by exact Nat.le_of_ble_eq_true rfl)))) (rt_seq (nt_asg (ev_op (ev_var rfl) (ev_lst (ea_cons (ev_isE rfl (fun _ r => r) T.k_NoSpeed_NoText) (ea_cons (ev_isE rfl (fun _ r => r) T.k_NoSpeed_NotPlain) (ea_cons (ev_isE rfl (fun _ r => r) T.k_NoSpeed_NoWay) (ea_cons (ev_isE rfl (fun _ r => r) T.k_NoSpeed_TooMany) ea_nil))))) (r2_cat (by exact Nat.le_of_ble_eq_true rfl)))) ?_)))))
    refine rt_cond (b := false) (et_is (et_or (et_test (ev_op (ev_count (bs := [false, false, false, false, false, false, false, false, false, false, false, true, false, false, false, false, false, false]) (ev_var rfl)) ev_int r2_neI)) (fun _ => et_not (et_B (ev_isE rfl (fun _ r => r) T.v_NoSpeed)))) rfl) (fun h => by cases h) (fun _ => ?_)
    refine rt_seq (nt_asg (ev_lst (ea_cons ev_str (ea_cons ev_str (ea_cons ev_str (ea_cons ev_str (ea_cons ev_str (ea_cons ev_str (ea_cons ev_str (ea_cons ev_str (ea_cons ev_str (ea_cons ev_str (ea_cons ev_str (ea_cons ev_str ea_nil)))))))))))))) ?_
    refine rt_ret (ev_op (ev_op (ev_var rfl) (ev_lst (ea_cons ev_str (ea_cons ev_str (ea_cons ev_str (ea_cons ev_str (ea_cons ev_str (ea_cons ev_str ea_nil))))))) (r2_cat (by exact Nat.le_of_ble_eq_true rfl))) (ev_index (bs := [false, false, false, false, false, false, false, false, false, false, false, true, false, false, false, false, false, false]) (j := 11) (ev_var rfl) rfl ?_) (r2_ixL rfl))
    intro m hm
    match m, hm with
    | 0, _ => rfl
    | 1, _ => rfl
    | 2, _ => rfl
    | 3, _ => rfl
    | 4, _ => rfl
    | 5, _ => rfl
    | 6, _ => rfl
    | 7, _ => rfl
    | 8, _ => rfl
    | 9, _ => rfl
    | 10, _ => rfl
    | m + 11, h => exact absurd h (by omega)
  · refine fnE_of F sc__law_kind_of (fun cdv A outer s H a oe hr hz hf => (pss_cons (ps_set (i := 1) sc__law_kind_of.nd rfl (Or.inl rfl) (pe_lst (pa_cons (pe_callB (isE (K := K) rfl List.mem_cons_self T.e_NotPlain hz hf) (by rfl) T.m_isinstance (by decide +kernel) (pa_cons (pv 0) (pa_cons (pe_glob (v := .ref (ca 17)) (by rfl) T.c_NoDeed rfl) pa_nil))) (pa_cons (pe_callB (isE (K := K) rfl List.mem_cons_self T.e_NotPlain hz hf) (by rfl) T.m_isinstance (by decide +kernel) (pa_cons (pv 0) (pa_cons (pe_glob (v := .ref (ca 15)) (by rfl) T.c_NoFlash rfl) pa_nil))) (pa_cons (pe_callB (isE (K := K) rfl List.mem_cons_self T.e_NotPlain hz hf) (by rfl) T.m_isinstance (by decide +kernel) (pa_cons (pv 0) (pa_cons (pe_glob (v := .ref (ca 1)) (by rfl) T.c_NoFraction rfl) pa_nil))) (pa_cons (pe_callB (isE (K := K) rfl List.mem_cons_self T.e_NotPlain hz hf) (by rfl) T.m_isinstance (by decide +kernel) (pa_cons (pv 0) (pa_cons (pe_glob (v := .ref (ca 2)) (by rfl) T.c_NoHap rfl) pa_nil))) pa_nil)))))) (pss_cons (ps_set (i := 1) sc__law_kind_of.nd rfl (Or.inl rfl) (pe_op (catK (K := K) rfl) (pv 1) (pe_lst (pa_cons (pe_callB (isE (K := K) rfl List.mem_cons_self T.e_NotPlain hz hf) (by rfl) T.m_isinstance (by decide +kernel) (pa_cons (pv 0) (pa_cons (pe_glob (v := .ref (ca 8)) (by rfl) T.c_NoHaps rfl) pa_nil))) (pa_cons (pe_callB (isE (K := K) rfl List.mem_cons_self T.e_NotPlain hz hf) (by rfl) T.m_isinstance (by decide +kernel) (pa_cons (pv 0) (pa_cons (pe_glob (v := .ref (ca 16)) (by rfl) T.c_NoName rfl) pa_nil))) (pa_cons (pe_callB (isE (K := K) rfl List.mem_cons_self T.e_NotPlain hz hf) (by rfl) T.m_isinstance (by decide +kernel) (pa_cons (pv 0) (pa_cons (pe_glob (v := .ref (ca 11)) (by rfl) T.c_NoNumber rfl) pa_nil))) pa_nil)))))) (pss_cons (ps_set (i := 1) sc__law_kind_of.nd rfl (Or.inl rfl) (pe_op (catK (K := K) rfl) (pv 1) (pe_lst (pa_cons (pe_callB (isE (K := K) rfl List.mem_cons_self T.e_NotPlain hz hf) (by rfl) T.m_isinstance (by decide +kernel) (pa_cons (pv 0) (pa_cons (pe_glob (v := .ref (ca 9)) (by rfl) T.c_NoOrder rfl) pa_nil))) (pa_cons (pe_callB (isE (K := K) rfl List.mem_cons_self T.e_NotPlain hz hf) (by rfl) T.m_isinstance (by decide +kernel) (pa_cons (pv 0) (pa_cons (pe_glob (v := .ref (ca 13)) (by rfl) T.c_NoRod rfl) pa_nil))) (pa_cons (pe_callB (isE (K := K) rfl List.mem_cons_self T.e_NotPlain hz hf) (by rfl) T.m_isinstance (by decide +kernel) (pa_cons (pv 0) (pa_cons (pe_glob (v := .ref (ca 18)) (by rfl) T.c_NoRow rfl) pa_nil))) (pa_cons (pe_callB (isE (K := K) rfl List.mem_cons_self T.e_NotPlain hz hf) (by rfl) T.m_isinstance (by decide +kernel) (pa_cons (pv 0) (pa_cons (pe_glob (v := .ref (ca 12)) (by rfl) T.c_NoSeat rfl) pa_nil))) pa_nil))))))) (pss_cons (ps_set (i := 1) sc__law_kind_of.nd rfl (Or.inl rfl) (pe_op (catK (K := K) rfl) (pv 1) (pe_lst (pa_cons (pe_callB (isE (K := K) rfl List.mem_cons_self T.e_NotPlain hz hf) (by rfl) T.m_isinstance (by decide +kernel) (pa_cons (pv 0) (pa_cons (pe_glob (v := .ref (ca 4)) (by rfl) T.c_NoSpeed rfl) pa_nil))) (pa_cons (pe_callB (isE (K := K) rfl List.mem_cons_self T.e_NotPlain hz hf) (by rfl) T.m_isinstance (by decide +kernel) (pa_cons (pv 0) (pa_cons (pe_glob (v := .ref (ca 10)) (by rfl) T.c_NoStep rfl) pa_nil))) (pa_cons (pe_callB (isE (K := K) rfl List.mem_cons_self T.e_NotPlain hz hf) (by rfl) T.m_isinstance (by decide +kernel) (pa_cons (pv 0) (pa_cons (pe_glob (v := .ref (ca 7)) (by rfl) T.c_NoStretch rfl) pa_nil))) pa_nil)))))) (pss_cons (ps_set (i := 1) sc__law_kind_of.nd rfl (Or.inl rfl) (pe_op (catK (K := K) rfl) (pv 1) (pe_lst (pa_cons (pe_callB (isE (K := K) rfl List.mem_cons_self T.e_NotPlain hz hf) (by rfl) T.m_isinstance (by decide +kernel) (pa_cons (pv 0) (pa_cons (pe_glob (v := .ref (ca 3)) (by rfl) T.c_NoText rfl) pa_nil))) (pa_cons (pe_callB (isE (K := K) rfl List.mem_cons_self T.e_NotPlain hz hf) (by rfl) T.m_isinstance (by decide +kernel) (pa_cons (pv 0) (pa_cons (pe_glob (v := .ref (ca 6)) (by rfl) T.c_NotPlain rfl) pa_nil))) (pa_cons (pe_callB (isE (K := K) rfl List.mem_cons_self T.e_NotPlain hz hf) (by rfl) T.m_isinstance (by decide +kernel) (pa_cons (pv 0) (pa_cons (pe_glob (v := .ref (ca 14)) (by rfl) T.c_NoWay rfl) pa_nil))) (pa_cons (pe_callB (isE (K := K) rfl List.mem_cons_self T.e_NotPlain hz hf) (by rfl) T.m_isinstance (by decide +kernel) (pa_cons (pv 0) (pa_cons (pe_glob (v := .ref (ca 5)) (by rfl) T.c_TooMany rfl) pa_nil))) pa_nil))))))) (pss_cons (ps_if (PW.pt (pw_or (pt_cmpR (neK (K := K) rfl (unH hr)) (bmK (K := K) rfl (pe_bm PySem.F.plainAttrs_list PySem.F.slot_list_count PySem.F.type_list_count (cntK (K := K) rfl (unH hr)) (pv 1) (pa_cons pe_bl pa_nil))) pe_int (nomark _)) (pw_or1 (pt_not (pt_val (pe_callB (isE (K := K) rfl List.mem_cons_self T.e_NotPlain hz hf) (by rfl) T.m_isinstance (by decide +kernel) (pa_cons (pv 0) (pa_cons (pe_bltn (v := .ty "ValueError") (by rfl) T.m_ValueError (by decide +kernel) rfl) pa_nil)))))))) (pss_one (ps_ret pe_str)) pss_nil) (pss_cons (ps_set (i := 2) sc__law_kind_of.nd rfl (Or.inl rfl) (pe_lst (pa_cons pe_str (pa_cons pe_str (pa_cons pe_str (pa_cons pe_str (pa_cons pe_str (pa_cons pe_str (pa_cons pe_str (pa_cons pe_str (pa_cons pe_str (pa_cons pe_str (pa_cons pe_str (pa_cons pe_str pa_nil)))))))))))))) (pss_one (ps_ret (pe_ix (ixK (K := K) rfl) (pe_op (catK (K := K) rfl) (pv 2) (pe_lst (pa_cons pe_str (pa_cons pe_str (pa_cons pe_str (pa_cons pe_str (pa_cons pe_str (pa_cons pe_str pa_nil)))))))) (bmK (K := K) rfl (pe_bm PySem.F.plainAttrs_list PySem.F.slot_list_index PySem.F.type_list_index (idxK (K := K) rfl) (pv 1) (pa_cons pe_bl pa_nil))) (fun _ _ => rfl)))))))))))) fun a => ?_
    refine (rt_seq (nt_asg (ev_lst (ea_cons (ev_isE rfl (fun _ r => r) T.k_NotPlain_NoDeed) (ea_cons (ev_isE rfl (fun _ r => r) T.k_NotPlain_NoFlash) (ea_cons (ev_isE rfl (fun _ r => r) T.k_NotPlain_NoFraction) (ea_cons (ev_isE rfl (fun _ r => r) T.k_NotPlain_NoHap) ea_nil)))))) (rt_seq (nt_asg (ev_op (ev_var rfl) (ev_lst (ea_cons (ev_isE rfl (fun _ r => r) T.k_NotPlain_NoHaps) (ea_cons (ev_isE rfl (fun _ r => r) T.k_NotPlain_NoName) (ea_cons (ev_isE rfl (fun _ r => r) T.k_NotPlain_NoNumber) ea_nil)))) (r2_cat (by exact Nat.le_of_ble_eq_true rfl)))) (rt_seq (nt_asg (ev_op (ev_var rfl) (ev_lst (ea_cons (ev_isE rfl (fun _ r => r) T.k_NotPlain_NoOrder) (ea_cons (ev_isE rfl (fun _ r => r) T.k_NotPlain_NoRod) (ea_cons (ev_isE rfl (fun _ r => r) T.k_NotPlain_NoRow) (ea_cons (ev_isE rfl (fun _ r => r) T.k_NotPlain_NoSeat) ea_nil))))) (r2_cat (by exact Nat.le_of_ble_eq_true rfl)))) (rt_seq (nt_asg (ev_op (ev_var rfl) (ev_lst (ea_cons (ev_isE rfl (fun _ r => r) T.k_NotPlain_NoSpeed) (ea_cons (ev_isE rfl (fun _ r => r) T.k_NotPlain_NoStep) (ea_cons (ev_isE rfl (fun _ r => r) T.k_NotPlain_NoStretch) ea_nil)))) (r2_cat (by exact Nat.le_of_ble_eq_true rfl)))) (rt_seq (nt_asg (ev_op (ev_var rfl) (ev_lst (ea_cons (ev_isE rfl (fun _ r => r) T.k_NotPlain_NoText) (ea_cons (ev_isE rfl (fun _ r => r) T.k_NotPlain_NotPlain) (ea_cons (ev_isE rfl (fun _ r => r) T.k_NotPlain_NoWay) (ea_cons (ev_isE rfl (fun _ r => r) T.k_NotPlain_TooMany) ea_nil))))) (r2_cat (by exact Nat.le_of_ble_eq_true rfl)))) ?_)))))
    refine rt_cond (b := false) (et_is (et_or (et_test (ev_op (ev_count (bs := [false, false, false, false, false, false, false, false, false, false, false, false, false, false, false, true, false, false]) (ev_var rfl)) ev_int r2_neI)) (fun _ => et_not (et_B (ev_isE rfl (fun _ r => r) T.v_NotPlain)))) rfl) (fun h => by cases h) (fun _ => ?_)
    refine rt_seq (nt_asg (ev_lst (ea_cons ev_str (ea_cons ev_str (ea_cons ev_str (ea_cons ev_str (ea_cons ev_str (ea_cons ev_str (ea_cons ev_str (ea_cons ev_str (ea_cons ev_str (ea_cons ev_str (ea_cons ev_str (ea_cons ev_str ea_nil)))))))))))))) ?_
    refine rt_ret (ev_op (ev_op (ev_var rfl) (ev_lst (ea_cons ev_str (ea_cons ev_str (ea_cons ev_str (ea_cons ev_str (ea_cons ev_str (ea_cons ev_str ea_nil))))))) (r2_cat (by exact Nat.le_of_ble_eq_true rfl))) (ev_index (bs := [false, false, false, false, false, false, false, false, false, false, false, false, false, false, false, true, false, false]) (j := 15) (ev_var rfl) rfl ?_) (r2_ixL rfl))
    intro m hm
    match m, hm with
    | 0, _ => rfl
    | 1, _ => rfl
    | 2, _ => rfl
    | 3, _ => rfl
    | 4, _ => rfl
    | 5, _ => rfl
    | 6, _ => rfl
    | 7, _ => rfl
    | 8, _ => rfl
    | 9, _ => rfl
    | 10, _ => rfl
    | 11, _ => rfl
    | 12, _ => rfl
    | 13, _ => rfl
    | 14, _ => rfl
    | m + 15, h => exact absurd h (by omega)
  · refine fnE_of F sc__law_kind_of (fun cdv A outer s H a oe hr hz hf => (pss_cons (ps_set (i := 1) sc__law_kind_of.nd rfl (Or.inl rfl) (pe_lst (pa_cons (pe_callB (isE (K := K) rfl List.mem_cons_self T.e_NoDeed hz hf) (by rfl) T.m_isinstance (by decide +kernel) (pa_cons (pv 0) (pa_cons (pe_glob (v := .ref (ca 17)) (by rfl) T.c_NoDeed rfl) pa_nil))) (pa_cons (pe_callB (isE (K := K) rfl List.mem_cons_self T.e_NoDeed hz hf) (by rfl) T.m_isinstance (by decide +kernel) (pa_cons (pv 0) (pa_cons (pe_glob (v := .ref (ca 15)) (by rfl) T.c_NoFlash rfl) pa_nil))) (pa_cons (pe_callB (isE (K := K) rfl List.mem_cons_self T.e_NoDeed hz hf) (by rfl) T.m_isinstance (by decide +kernel) (pa_cons (pv 0) (pa_cons (pe_glob (v := .ref (ca 1)) (by rfl) T.c_NoFraction rfl) pa_nil))) (pa_cons (pe_callB (isE (K := K) rfl List.mem_cons_self T.e_NoDeed hz hf) (by rfl) T.m_isinstance (by decide +kernel) (pa_cons (pv 0) (pa_cons (pe_glob (v := .ref (ca 2)) (by rfl) T.c_NoHap rfl) pa_nil))) pa_nil)))))) (pss_cons (ps_set (i := 1) sc__law_kind_of.nd rfl (Or.inl rfl) (pe_op (catK (K := K) rfl) (pv 1) (pe_lst (pa_cons (pe_callB (isE (K := K) rfl List.mem_cons_self T.e_NoDeed hz hf) (by rfl) T.m_isinstance (by decide +kernel) (pa_cons (pv 0) (pa_cons (pe_glob (v := .ref (ca 8)) (by rfl) T.c_NoHaps rfl) pa_nil))) (pa_cons (pe_callB (isE (K := K) rfl List.mem_cons_self T.e_NoDeed hz hf) (by rfl) T.m_isinstance (by decide +kernel) (pa_cons (pv 0) (pa_cons (pe_glob (v := .ref (ca 16)) (by rfl) T.c_NoName rfl) pa_nil))) (pa_cons (pe_callB (isE (K := K) rfl List.mem_cons_self T.e_NoDeed hz hf) (by rfl) T.m_isinstance (by decide +kernel) (pa_cons (pv 0) (pa_cons (pe_glob (v := .ref (ca 11)) (by rfl) T.c_NoNumber rfl) pa_nil))) pa_nil)))))) (pss_cons (ps_set (i := 1) sc__law_kind_of.nd rfl (Or.inl rfl) (pe_op (catK (K := K) rfl) (pv 1) (pe_lst (pa_cons (pe_callB (isE (K := K) rfl List.mem_cons_self T.e_NoDeed hz hf) (by rfl) T.m_isinstance (by decide +kernel) (pa_cons (pv 0) (pa_cons (pe_glob (v := .ref (ca 9)) (by rfl) T.c_NoOrder rfl) pa_nil))) (pa_cons (pe_callB (isE (K := K) rfl List.mem_cons_self T.e_NoDeed hz hf) (by rfl) T.m_isinstance (by decide +kernel) (pa_cons (pv 0) (pa_cons (pe_glob (v := .ref (ca 13)) (by rfl) T.c_NoRod rfl) pa_nil))) (pa_cons (pe_callB (isE (K := K) rfl List.mem_cons_self T.e_NoDeed hz hf) (by rfl) T.m_isinstance (by decide +kernel) (pa_cons (pv 0) (pa_cons (pe_glob (v := .ref (ca 18)) (by rfl) T.c_NoRow rfl) pa_nil))) (pa_cons (pe_callB (isE (K := K) rfl List.mem_cons_self T.e_NoDeed hz hf) (by rfl) T.m_isinstance (by decide +kernel) (pa_cons (pv 0) (pa_cons (pe_glob (v := .ref (ca 12)) (by rfl) T.c_NoSeat rfl) pa_nil))) pa_nil))))))) (pss_cons (ps_set (i := 1) sc__law_kind_of.nd rfl (Or.inl rfl) (pe_op (catK (K := K) rfl) (pv 1) (pe_lst (pa_cons (pe_callB (isE (K := K) rfl List.mem_cons_self T.e_NoDeed hz hf) (by rfl) T.m_isinstance (by decide +kernel) (pa_cons (pv 0) (pa_cons (pe_glob (v := .ref (ca 4)) (by rfl) T.c_NoSpeed rfl) pa_nil))) (pa_cons (pe_callB (isE (K := K) rfl List.mem_cons_self T.e_NoDeed hz hf) (by rfl) T.m_isinstance (by decide +kernel) (pa_cons (pv 0) (pa_cons (pe_glob (v := .ref (ca 10)) (by rfl) T.c_NoStep rfl) pa_nil))) (pa_cons (pe_callB (isE (K := K) rfl List.mem_cons_self T.e_NoDeed hz hf) (by rfl) T.m_isinstance (by decide +kernel) (pa_cons (pv 0) (pa_cons (pe_glob (v := .ref (ca 7)) (by rfl) T.c_NoStretch rfl) pa_nil))) pa_nil)))))) (pss_cons (ps_set (i := 1) sc__law_kind_of.nd rfl (Or.inl rfl) (pe_op (catK (K := K) rfl) (pv 1) (pe_lst (pa_cons (pe_callB (isE (K := K) rfl List.mem_cons_self T.e_NoDeed hz hf) (by rfl) T.m_isinstance (by decide +kernel) (pa_cons (pv 0) (pa_cons (pe_glob (v := .ref (ca 3)) (by rfl) T.c_NoText rfl) pa_nil))) (pa_cons (pe_callB (isE (K := K) rfl List.mem_cons_self T.e_NoDeed hz hf) (by rfl) T.m_isinstance (by decide +kernel) (pa_cons (pv 0) (pa_cons (pe_glob (v := .ref (ca 6)) (by rfl) T.c_NotPlain rfl) pa_nil))) (pa_cons (pe_callB (isE (K := K) rfl List.mem_cons_self T.e_NoDeed hz hf) (by rfl) T.m_isinstance (by decide +kernel) (pa_cons (pv 0) (pa_cons (pe_glob (v := .ref (ca 14)) (by rfl) T.c_NoWay rfl) pa_nil))) (pa_cons (pe_callB (isE (K := K) rfl List.mem_cons_self T.e_NoDeed hz hf) (by rfl) T.m_isinstance (by decide +kernel) (pa_cons (pv 0) (pa_cons (pe_glob (v := .ref (ca 5)) (by rfl) T.c_TooMany rfl) pa_nil))) pa_nil))))))) (pss_cons (ps_if (PW.pt (pw_or (pt_cmpR (neK (K := K) rfl (unH hr)) (bmK (K := K) rfl (pe_bm PySem.F.plainAttrs_list PySem.F.slot_list_count PySem.F.type_list_count (cntK (K := K) rfl (unH hr)) (pv 1) (pa_cons pe_bl pa_nil))) pe_int (nomark _)) (pw_or1 (pt_not (pt_val (pe_callB (isE (K := K) rfl List.mem_cons_self T.e_NoDeed hz hf) (by rfl) T.m_isinstance (by decide +kernel) (pa_cons (pv 0) (pa_cons (pe_bltn (v := .ty "ValueError") (by rfl) T.m_ValueError (by decide +kernel) rfl) pa_nil)))))))) (pss_one (ps_ret pe_str)) pss_nil) (pss_cons (ps_set (i := 2) sc__law_kind_of.nd rfl (Or.inl rfl) (pe_lst (pa_cons pe_str (pa_cons pe_str (pa_cons pe_str (pa_cons pe_str (pa_cons pe_str (pa_cons pe_str (pa_cons pe_str (pa_cons pe_str (pa_cons pe_str (pa_cons pe_str (pa_cons pe_str (pa_cons pe_str pa_nil)))))))))))))) (pss_one (ps_ret (pe_ix (ixK (K := K) rfl) (pe_op (catK (K := K) rfl) (pv 2) (pe_lst (pa_cons pe_str (pa_cons pe_str (pa_cons pe_str (pa_cons pe_str (pa_cons pe_str (pa_cons pe_str pa_nil)))))))) (bmK (K := K) rfl (pe_bm PySem.F.plainAttrs_list PySem.F.slot_list_index PySem.F.type_list_index (idxK (K := K) rfl) (pv 1) (pa_cons pe_bl pa_nil))) (fun _ _ => rfl)))))))))))) fun a => ?_
    refine (rt_seq (nt_asg (ev_lst (ea_cons (ev_isE rfl (fun _ r => r) T.k_NoDeed_NoDeed) (ea_cons (ev_isE rfl (fun _ r => r) T.k_NoDeed_NoFlash) (ea_cons (ev_isE rfl (fun _ r => r) T.k_NoDeed_NoFraction) (ea_cons (ev_isE rfl (fun _ r => r) T.k_NoDeed_NoHap) ea_nil)))))) (rt_seq (nt_asg (ev_op (ev_var rfl) (ev_lst (ea_cons (ev_isE rfl (fun _ r => r) T.k_NoDeed_NoHaps) (ea_cons (ev_isE rfl (fun _ r => r) T.k_NoDeed_NoName) (ea_cons (ev_isE rfl (fun _ r => r) T.k_NoDeed_NoNumber) ea_nil)))) (r2_cat (by exact Nat.le_of_ble_eq_true rfl)))) (rt_seq (nt_asg (ev_op (ev_var rfl) (ev_lst (ea_cons (ev_isE rfl (fun _ r => r) T.k_NoDeed_NoOrder) (ea_cons (ev_isE rfl (fun _ r => r) T.k_NoDeed_NoRod) (ea_cons (ev_isE rfl (fun _ r => r) T.k_NoDeed_NoRow) (ea_cons (ev_isE rfl (fun _ r => r) T.k_NoDeed_NoSeat) ea_nil))))) (r2_cat (by exact Nat.le_of_ble_eq_true rfl)))) (rt_seq (nt_asg (ev_op (ev_var rfl) (ev_lst (ea_cons (ev_isE rfl (fun _ r => r) T.k_NoDeed_NoSpeed) (ea_cons (ev_isE rfl (fun _ r => r) T.k_NoDeed_NoStep) (ea_cons (ev_isE rfl (fun _ r => r) T.k_NoDeed_NoStretch) ea_nil)))) (r2_cat (by exact Nat.le_of_ble_eq_true rfl)))) (rt_seq (nt_asg (ev_op (ev_var rfl) (ev_lst (ea_cons (ev_isE rfl (fun _ r => r) T.k_NoDeed_NoText) (ea_cons (ev_isE rfl (fun _ r => r) T.k_NoDeed_NotPlain) (ea_cons (ev_isE rfl (fun _ r => r) T.k_NoDeed_NoWay) (ea_cons (ev_isE rfl (fun _ r => r) T.k_NoDeed_TooMany) ea_nil))))) (r2_cat (by exact Nat.le_of_ble_eq_true rfl)))) ?_)))))
    refine rt_cond (b := false) (et_is (et_or (et_test (ev_op (ev_count (bs := [true, false, false, false, false, false, false, false, false, false, false, false, false, false, false, false, false, false]) (ev_var rfl)) ev_int r2_neI)) (fun _ => et_not (et_B (ev_isE rfl (fun _ r => r) T.v_NoDeed)))) rfl) (fun h => by cases h) (fun _ => ?_)
    refine rt_seq (nt_asg (ev_lst (ea_cons ev_str (ea_cons ev_str (ea_cons ev_str (ea_cons ev_str (ea_cons ev_str (ea_cons ev_str (ea_cons ev_str (ea_cons ev_str (ea_cons ev_str (ea_cons ev_str (ea_cons ev_str (ea_cons ev_str ea_nil)))))))))))))) ?_
    refine rt_ret (ev_op (ev_op (ev_var rfl) (ev_lst (ea_cons ev_str (ea_cons ev_str (ea_cons ev_str (ea_cons ev_str (ea_cons ev_str (ea_cons ev_str ea_nil))))))) (r2_cat (by exact Nat.le_of_ble_eq_true rfl))) (ev_index (bs := [true, false, false, false, false, false, false, false, false, false, false, false, false, false, false, false, false, false]) (j := 0) (ev_var rfl) rfl ?_) (r2_ixL rfl))
    intro m hm
    match m, hm with
    | m + 0, h => exact absurd h (by omega)
  · refine fnE_of F sc__law_kind_of (fun cdv A outer s H a oe hr hz hf => (pss_cons (ps_set (i := 1) sc__law_kind_of.nd rfl (Or.inl rfl) (pe_lst (pa_cons (pe_callB (isE (K := K) rfl List.mem_cons_self T.e_TooMany hz hf) (by rfl) T.m_isinstance (by decide +kernel) (pa_cons (pv 0) (pa_cons (pe_glob (v := .ref (ca 17)) (by rfl) T.c_NoDeed rfl) pa_nil))) (pa_cons (pe_callB (isE (K := K) rfl List.mem_cons_self T.e_TooMany hz hf) (by rfl) T.m_isinstance (by decide +kernel) (pa_cons (pv 0) (pa_cons (pe_glob (v := .ref (ca 15)) (by rfl) T.c_NoFlash rfl) pa_nil))) (pa_cons (pe_callB (isE (K := K) rfl List.mem_cons_self T.e_TooMany hz hf) (by rfl) T.m_isinstance (by decide +kernel) (pa_cons (pv 0) (pa_cons (pe_glob (v := .ref (ca 1)) (by rfl) T.c_NoFraction rfl) pa_nil))) (pa_cons (pe_callB (isE (K := K) rfl List.mem_cons_self T.e_TooMany hz hf) (by rfl) T.m_isinstance (by decide +kernel) (pa_cons (pv 0) (pa_cons (pe_glob (v := .ref (ca 2)) (by rfl) T.c_NoHap rfl) pa_nil))) pa_nil)))))) (pss_cons (ps_set (i := 1) sc__law_kind_of.nd rfl (Or.inl rfl) (pe_op (catK (K := K) rfl) (pv 1) (pe_lst (pa_cons (pe_callB (isE (K := K) rfl List.mem_cons_self T.e_TooMany hz hf) (by rfl) T.m_isinstance (by decide +kernel) (pa_cons (pv 0) (pa_cons (pe_glob (v := .ref (ca 8)) (by rfl) T.c_NoHaps rfl) pa_nil))) (pa_cons (pe_callB (isE (K := K) rfl List.mem_cons_self T.e_TooMany hz hf) (by rfl) T.m_isinstance (by decide +kernel) (pa_cons (pv 0) (pa_cons (pe_glob (v := .ref (ca 16)) (by rfl) T.c_NoName rfl) pa_nil))) (pa_cons (pe_callB (isE (K := K) rfl List.mem_cons_self T.e_TooMany hz hf) (by rfl) T.m_isinstance (by decide +kernel) (pa_cons (pv 0) (pa_cons (pe_glob (v := .ref (ca 11)) (by rfl) T.c_NoNumber rfl) pa_nil))) pa_nil)))))) (pss_cons (ps_set (i := 1) sc__law_kind_of.nd rfl (Or.inl rfl) (pe_op (catK (K := K) rfl) (pv 1) (pe_lst (pa_cons (pe_callB (isE (K := K) rfl List.mem_cons_self T.e_TooMany hz hf) (by rfl) T.m_isinstance (by decide +kernel) (pa_cons (pv 0) (pa_cons (pe_glob (v := .ref (ca 9)) (by rfl) T.c_NoOrder rfl) pa_nil))) (pa_cons (pe_callB (isE (K := K) rfl List.mem_cons_self T.e_TooMany hz hf) (by rfl) T.m_isinstance (by decide +kernel) (pa_cons (pv 0) (pa_cons (pe_glob (v := .ref (ca 13)) (by rfl) T.c_NoRod rfl) pa_nil))) (pa_cons (pe_callB (isE (K := K) rfl List.mem_cons_self T.e_TooMany hz hf) (by rfl) T.m_isinstance (by decide +kernel) (pa_cons (pv 0) (pa_cons (pe_glob (v := .ref (ca 18)) (by rfl) T.c_NoRow rfl) pa_nil))) (pa_cons (pe_callB (isE (K := K) rfl List.mem_cons_self T.e_TooMany hz hf) (by rfl) T.m_isinstance (by decide +kernel) (pa_cons (pv 0) (pa_cons (pe_glob (v := .ref (ca 12)) (by rfl) T.c_NoSeat rfl) pa_nil))) pa_nil))))))) (pss_cons (ps_set (i := 1) sc__law_kind_of.nd rfl (Or.inl rfl) (pe_op (catK (K := K) rfl) (pv 1) (pe_lst (pa_cons (pe_callB (isE (K := K) rfl List.mem_cons_self T.e_TooMany hz hf) (by rfl) T.m_isinstance (by decide +kernel) (pa_cons (pv 0) (pa_cons (pe_glob (v := .ref (ca 4)) (by rfl) T.c_NoSpeed rfl) pa_nil))) (pa_cons (pe_callB (isE (K := K) rfl List.mem_cons_self T.e_TooMany hz hf) (by rfl) T.m_isinstance (by decide +kernel) (pa_cons (pv 0) (pa_cons (pe_glob (v := .ref (ca 10)) (by rfl) T.c_NoStep rfl) pa_nil))) (pa_cons (pe_callB (isE (K := K) rfl List.mem_cons_self T.e_TooMany hz hf) (by rfl) T.m_isinstance (by decide +kernel) (pa_cons (pv 0) (pa_cons (pe_glob (v := .ref (ca 7)) (by rfl) T.c_NoStretch rfl) pa_nil))) pa_nil)))))) (pss_cons (ps_set (i := 1) sc__law_kind_of.nd rfl (Or.inl rfl) (pe_op (catK (K := K) rfl) (pv 1) (pe_lst (pa_cons (pe_callB (isE (K := K) rfl List.mem_cons_self T.e_TooMany hz hf) (by rfl) T.m_isinstance (by decide +kernel) (pa_cons (pv 0) (pa_cons (pe_glob (v := .ref (ca 3)) (by rfl) T.c_NoText rfl) pa_nil))) (pa_cons (pe_callB (isE (K := K) rfl List.mem_cons_self T.e_TooMany hz hf) (by rfl) T.m_isinstance (by decide +kernel) (pa_cons (pv 0) (pa_cons (pe_glob (v := .ref (ca 6)) (by rfl) T.c_NotPlain rfl) pa_nil))) (pa_cons (pe_callB (isE (K := K) rfl List.mem_cons_self T.e_TooMany hz hf) (by rfl) T.m_isinstance (by decide +kernel) (pa_cons (pv 0) (pa_cons (pe_glob (v := .ref (ca 14)) (by rfl) T.c_NoWay rfl) pa_nil))) (pa_cons (pe_callB (isE (K := K) rfl List.mem_cons_self T.e_TooMany hz hf) (by rfl) T.m_isinstance (by decide +kernel) (pa_cons (pv 0) (pa_cons (pe_glob (v := .ref (ca 5)) (by rfl) T.c_TooMany rfl) pa_nil))) pa_nil))))))) (pss_cons (ps_if (PW.pt (pw_or (pt_cmpR (neK (K := K) rfl (unH hr)) (bmK (K := K) rfl (pe_bm PySem.F.plainAttrs_list PySem.F.slot_list_count PySem.F.type_list_count (cntK (K := K) rfl (unH hr)) (pv 1) (pa_cons pe_bl pa_nil))) pe_int (nomark _)) (pw_or1 (pt_not (pt_val (pe_callB (isE (K := K) rfl List.mem_cons_self T.e_TooMany hz hf) (by rfl) T.m_isinstance (by decide +kernel) (pa_cons (pv 0) (pa_cons (pe_bltn (v := .ty "ValueError") (by rfl) T.m_ValueError (by decide +kernel) rfl) pa_nil)))))))) (pss_one (ps_ret pe_str)) pss_nil) (pss_cons (ps_set (i := 2) sc__law_kind_of.nd rfl (Or.inl rfl) (pe_lst (pa_cons pe_str (pa_cons pe_str (pa_cons pe_str (pa_cons pe_str (pa_cons pe_str (pa_cons pe_str (pa_cons pe_str (pa_cons pe_str (pa_cons pe_str (pa_cons pe_str (pa_cons pe_str (pa_cons pe_str pa_nil)))))))))))))) (pss_one (ps_ret (pe_ix (ixK (K := K) rfl) (pe_op (catK (K := K) rfl) (pv 2) (pe_lst (pa_cons pe_str (pa_cons pe_str (pa_cons pe_str (pa_cons pe_str (pa_cons pe_str (pa_cons pe_str pa_nil)))))))) (bmK (K := K) rfl (pe_bm PySem.F.plainAttrs_list PySem.F.slot_list_index PySem.F.type_list_index (idxK (K := K) rfl) (pv 1) (pa_cons pe_bl pa_nil))) (fun _ _ => rfl)))))))))))) fun a => ?_
    refine (rt_seq (nt_asg (ev_lst (ea_cons (ev_isE rfl (fun _ r => r) T.k_TooMany_NoDeed) (ea_cons (ev_isE rfl (fun _ r => r) T.k_TooMany_NoFlash) (ea_cons (ev_isE rfl (fun _ r => r) T.k_TooMany_NoFraction) (ea_cons (ev_isE rfl (fun _ r => r) T.k_TooMany_NoHap) ea_nil)))))) (rt_seq (nt_asg (ev_op (ev_var rfl) (ev_lst (ea_cons (ev_isE rfl (fun _ r => r) T.k_TooMany_NoHaps) (ea_cons (ev_isE rfl (fun _ r => r) T.k_TooMany_NoName) (ea_cons (ev_isE rfl (fun _ r => r) T.k_TooMany_NoNumber) ea_nil)))) (r2_cat (by exact Nat.le_of_ble_eq_true rfl)))) (rt_seq (nt_asg (ev_op (ev_var rfl) (ev_lst (ea_cons (ev_isE rfl (fun _ r => r) T.k_TooMany_NoOrder) (ea_cons (ev_isE rfl (fun _ r => r) T.k_TooMany_NoRod) (ea_cons (ev_isE rfl (fun _ r => r) T.k_TooMany_NoRow) (ea_cons (ev_isE rfl (fun _ r => r) T.k_TooMany_NoSeat) ea_nil))))) (r2_cat (by exact Nat.le_of_ble_eq_true rfl)))) (rt_seq (nt_asg (ev_op (ev_var rfl) (ev_lst (ea_cons (ev_isE rfl (fun _ r => r) T.k_TooMany_NoSpeed) (ea_cons (ev_isE rfl (fun _ r => r) T.k_TooMany_NoStep) (ea_cons (ev_isE rfl (fun _ r => r) T.k_TooMany_NoStretch) ea_nil)))) (r2_cat (by exact Nat.le_of_ble_eq_true rfl)))) (rt_seq (nt_asg (ev_op (ev_var rfl) (ev_lst (ea_cons (ev_isE rfl (fun _ r => r) T.k_TooMany_NoText) (ea_cons (ev_isE rfl (fun _ r => r) T.k_TooMany_NotPlain) (ea_cons (ev_isE rfl (fun _ r => r) T.k_TooMany_NoWay) (ea_cons (ev_isE rfl (fun _ r => r) T.k_TooMany_TooMany) ea_nil))))) (r2_cat (by exact Nat.le_of_ble_eq_true rfl)))) ?_)))))
    refine rt_cond (b := false) (et_is (et_or (et_test (ev_op (ev_count (bs := [false, false, false, false, false, false, false, false, false, false, false, false, false, false, false, false, false, true]) (ev_var rfl)) ev_int r2_neI)) (fun _ => et_not (et_B (ev_isE rfl (fun _ r => r) T.v_TooMany)))) rfl) (fun h => by cases h) (fun _ => ?_)
    refine rt_seq (nt_asg (ev_lst (ea_cons ev_str (ea_cons ev_str (ea_cons ev_str (ea_cons ev_str (ea_cons ev_str (ea_cons ev_str (ea_cons ev_str (ea_cons ev_str (ea_cons ev_str (ea_cons ev_str (ea_cons ev_str (ea_cons ev_str ea_nil)))))))))))))) ?_
    refine rt_ret (ev_op (ev_op (ev_var rfl) (ev_lst (ea_cons ev_str (ea_cons ev_str (ea_cons ev_str (ea_cons ev_str (ea_cons ev_str (ea_cons ev_str ea_nil))))))) (r2_cat (by exact Nat.le_of_ble_eq_true rfl))) (ev_index (bs := [false, false, false, false, false, false, false, false, false, false, false, false, false, false, false, false, false, true]) (j := 17) (ev_var rfl) rfl ?_) (r2_ixL rfl))
    intro m hm
    match m, hm with
    | 0, _ => rfl
    | 1, _ => rfl
    | 2, _ => rfl
    | 3, _ => rfl
    | 4, _ => rfl
    | 5, _ => rfl
    | 6, _ => rfl
    | 7, _ => rfl
    | 8, _ => rfl
    | 9, _ => rfl
    | 10, _ => rfl
    | 11, _ => rfl
    | 12, _ => rfl
    | 13, _ => rfl
    | 14, _ => rfl
    | 15, _ => rfl
    | 16, _ => rfl
    | m + 17, h => exact absurd h (by omega)
def R_dn (b : Bst) (ds : List Dt) (d : Dt) (b' : Bst) : Prop := ∃ de : Deed, ds = [.str de.w, .lst de.t] ∧ DeedOk de ∧ SpB b ∧ b.haps.length ≤ 12 ∧ DoneR b de d b'
theorem h__law_done (T : Txt K mg ca fa ka) : Has P w K mg base CX0 8 "_law_done" ["_law_bench", "_law_word", "_law_told"] (spBnD K (ca 19) R_dn) := by
  refine T.d__law_done.deedB sc__law_done (fun b ds d b' h => by obtain ⟨_, rfl, _⟩ := h; rfl) (fun f cdv A outer s H E hr => (pss_cons (tryT (K := K) rfl (ps_try_as (i := 4) (Wout := fun _ _ _ _ => False) rfl rfl sc__law_done.nd rfl rfl ⟨rfl, by decide, Or.inl T.c_MotionError⟩ takes0 (fun W pn xe tk po => (pss_one (ps_if (pt_cmpR (eqK (K := K) rfl hr.units) (pv 1) pe_str (nomark _)) (pss_one (ps_set (i := 3) sc__law_done.nd rfl (Or.inl rfl) (by exact (pe_mhS (h_Bench_put T) T.cl_Bench hr (by decide) (fun σ => passAt tk σ) (pv 0) (pa_cons (pe_ix (ixK (K := K) rfl) (pv 2) pe_int (fun _ _ => rfl)) (pa_cons (pe_ix (ixK (K := K) rfl) (pv 2) pe_int (fun _ _ => rfl)) pa_nil)))))) (pss_one (ps_if (pt_cmpR (eqK (K := K) rfl hr.units) (pv 1) pe_str (nomark _)) (pss_one (ps_set (i := 3) sc__law_done.nd rfl (Or.inl rfl) (by exact (pe_mhS (h_Bench_drop T) T.cl_Bench hr (by decide) (fun σ => passAt tk σ) (pv 0) (pa_cons (pe_ix (ixK (K := K) rfl) (pv 2) pe_int (fun _ _ => rfl)) pa_nil))))) (pss_one (ps_if (pt_cmpR (eqK (K := K) rfl hr.units) (pv 1) pe_str (nomark _)) (pss_one (ps_set (i := 3) sc__law_done.nd rfl (Or.inl rfl) (by exact (pe_mhS (h_Bench_turn T) T.cl_Bench hr (by decide) (fun σ => passAt tk σ) (pv 0) (pa_cons (pe_ix (ixK (K := K) rfl) (pv 2) pe_int (fun _ _ => rfl)) pa_nil))))) (pss_one (ps_if (pt_cmpR (eqK (K := K) rfl hr.units) (pv 1) pe_str (nomark _)) (pss_one (ps_set (i := 3) sc__law_done.nd rfl (Or.inl rfl) (by exact (pe_mhS (h_Bench_push T) T.cl_Bench hr (by decide) (fun σ => passAt tk σ) (pv 0) (pa_cons (pe_ix (ixK (K := K) rfl) (pv 2) pe_int (fun _ _ => rfl)) pa_nil))))) (pss_one (ps_set (i := 3) sc__law_done.nd rfl (Or.inl rfl) (by exact (pe_mhS0 (h_Bench_undo T) T.cl_Bench hr (by decide) (fun σ => passAt tk σ) (pv 0) ))))))))))))) (fun a oe cls d pn hz hf => (pss_one (ps_ret (pe_kind (i := 4) (h__law_kind_of T) (roomS hr) (by decide) List.mem_cons_self hz hf rfl (Or.inl rfl))))))) (pss_one (ps_ret (pe_ifExp (pt_cmpR op_isN1 (pv 3) pe_non (nomark _)) pe_non pe_str))))) ?_
  rintro y p b ds d b' ⟨de, rfl, ok, ⟨l1, l2, ss, bs⟩, l12, h⟩
  have hw : ∀ {sl : List Sl} {s z : Str} {c : Bool}, sl[1]? = some (.d (.str s)) → SeqAt.shaped (.str s) = true → SeqAt.shaped (.str z) = true → (s == z) = c → EvT K (tTest (tOp (rEqD K) (tVar 1) (tC (.str z)))) sl c := fun h1 h2 h3 h4 => et_is (et_test (ev_op (ev_var h1) ev_str (r2_eqS h2 h3))) h4
  have x0 : ∀ {sl : List Sl} {a : Dt} {l : List Dt}, sl[2]? = some (.d (.lst (a :: l))) → Ev K (tOp (rIx K) (tVar 2) (tC (.int 0))) sl a := fun {sl a l} h => ev_op (ev_var h) ev_int (r2_ixL ((atI_k (k := 0) (a :: l) (Nat.succ_pos _)).trans rfl))
  have x1 : ∀ {sl : List Sl} {a c : Dt} {l : List Dt}, sl[2]? = some (.d (.lst (a :: c :: l))) → Ev K (tOp (rIx K) (tVar 2) (tC (.int 1))) sl c := fun {sl a c l} h => ev_op (ev_var h) ev_int (r2_ixL ((atI_k (k := 1) (a :: c :: l) (Nat.succ_lt_succ (Nat.succ_pos _))).trans rfl))
  have fin : ∀ {b2 : Bst} (s : List Sl), s = (List.set [Sl.raw (.ref y), .d (.str de.w), .d (.lst de.t), .no, .no] 3 (.d .non)) → Br K [y, p] (fun G H => BnAt K (ca 19) y p G H b2) (fun G H => BnAt K (ca 19) y p G H b2) (tRet (tIf (tTest (tOp rIsN (tVar 3) (tC .non))) (tC .non) (tC (.str "told")))) s .non := fun {b2} s e => by
    subst e
    exact br_ret stb_bn (eb_if stb_bn (b := true) (ebt_ev (et_is (et_test (ev_op (ev_var rfl) ev_non r2_isN)) rfl)) (fun _ => eb_ev ev_non) (fun z => by cases z))
  cases de with
  | undo =>
    rcases h with ⟨w, hr2, rfl, rfl⟩ | ⟨hr2, rfl, ha⟩
    · have hr2 : (if b'.past.isEmpty = true then some ("deed" : Str) else none) = some w := hr2
      have e : b'.past = [] := by
        cases hp : b'.past with
        | nil => rfl
        | cons l r => rw [hp] at hr2; cases hr2
      have ew : w = "deed" := by rw [e] at hr2; cases hr2; rfl
      subst ew
      exact br_try_out (N := fun _ => True) stb_bn (tw_if stb_bn (b := false) (ebt_ev (hw (s := "undo") rfl (by decide +kernel) (by decide +kernel) (by decide +kernel))) (fun z => by cases z) (fun _ => tw_if stb_bn (b := false) (ebt_ev (hw (s := "undo") rfl (by decide +kernel) (by decide +kernel) (by decide +kernel))) (fun z => by cases z) (fun _ => tw_if stb_bn (b := false) (ebt_ev (hw (s := "undo") rfl (by decide +kernel) (by decide +kernel) (by decide +kernel))) (fun z => by cases z) (fun _ => tw_if stb_bn (b := false) (ebt_ev (hw (s := "undo") rfl (by decide +kernel) (by decide +kernel) (by decide +kernel))) (fun z => by cases z) (fun _ => tw_deedX rfl (by decide +kernel) (by decide +kernel) (by decide +kernel) ea_nil (by exact ⟨rfl, e, rfl⟩)))))) (by show 4 < 5; decide) ⟨_, "deed", rfl, T.r_NoDeed, .inr (.inr (.inr (.inr (.inl ⟨rfl, rfl⟩)))), rfl⟩
    · obtain ⟨h0, s0, pt, hp, rfl⟩ := ha
      exact br_try_go (tw_if stb_bn (b := false) (ebt_ev (hw (s := "undo") rfl (by decide +kernel) (by decide +kernel) (by decide +kernel))) (fun z => by cases z) (fun _ => tw_if stb_bn (b := false) (ebt_ev (hw (s := "undo") rfl (by decide +kernel) (by decide +kernel) (by decide +kernel))) (fun z => by cases z) (fun _ => tw_if stb_bn (b := false) (ebt_ev (hw (s := "undo") rfl (by decide +kernel) (by decide +kernel) (by decide +kernel))) (fun z => by cases z) (fun _ => tw_if stb_bn (b := false) (ebt_ev (hw (s := "undo") rfl (by decide +kernel) (by decide +kernel) (by decide +kernel))) (fun z => by cases z) (fun _ => tw_deed rfl (by decide +kernel) (by decide +kernel) (by decide +kernel) ea_nil (by exact ⟨rfl, h0, s0, pt, hp, rfl⟩)))))) fin
  | put x z =>
    obtain ⟨⟨o1, _⟩, o2, o3⟩ := ok
    rcases h with ⟨w, hr2, rfl, rfl⟩ | ⟨hr2, rfl, ha⟩
    · rcases ref_put hr2 with ⟨h1, rfl⟩ | ⟨h1, h2, rfl⟩ | ⟨n, rfl, h1, h2, h3, h4, rfl⟩
      · exact br_try_out (N := fun _ => True) stb_bn (tw_if stb_bn (b := true) (ebt_ev (hw (s := "put") rfl (by decide +kernel) (by decide +kernel) (by decide +kernel))) (fun _ => tw_deedX rfl (by decide +kernel) (by decide +kernel) (by decide +kernel) (ea_cons (x0 rfl) (ea_cons (x1 rfl) ea_nil)) (by exact ⟨x, z, rfl, o1, .inl ⟨h1, rfl⟩⟩)) (fun z => by cases z)) (by show 4 < 5; decide) ⟨_, "name", rfl, T.r_NoName, .inl ⟨rfl, rfl⟩, rfl⟩
      · exact br_try_out (N := fun _ => True) stb_bn (tw_if stb_bn (b := true) (ebt_ev (hw (s := "put") rfl (by decide +kernel) (by decide +kernel) (by decide +kernel))) (fun _ => tw_deedX rfl (by decide +kernel) (by decide +kernel) (by decide +kernel) (ea_cons (x0 rfl) (ea_cons (x1 rfl) ea_nil)) (by exact ⟨x, z, rfl, o1, .inr (.inl ⟨h1, h2, rfl⟩)⟩)) (fun z => by cases z)) (by show 4 < 5; decide) ⟨_, "hap", rfl, T.r_NoHap, .inr (.inl ⟨rfl, rfl⟩), rfl⟩
      · exact br_try_out (N := fun _ => True) stb_bn (tw_if stb_bn (b := true) (ebt_ev (hw (s := "put") rfl (by decide +kernel) (by decide +kernel) (by decide +kernel))) (fun _ => tw_deedX rfl (by decide +kernel) (by decide +kernel) (by decide +kernel) (ea_cons (x0 rfl) (ea_cons (x1 rfl) ea_nil)) (by exact ⟨_, z, rfl, o1, .inr (.inr ⟨n, rfl, h1, h2, h3, by omega, rfl⟩)⟩)) (fun z => by cases z)) (by show 4 < 5; decide) ⟨_, "many", rfl, T.r_TooMany, .inr (.inr (.inr (.inr (.inr (⟨rfl, rfl⟩))))), rfl⟩
    · obtain ⟨n, q, rfl, rfl, rfl⟩ := ha
      obtain ⟨h1, h2⟩ := ref_put0 hr2
      exact br_try_go (tw_if stb_bn (b := true) (ebt_ev (hw (s := "put") rfl (by decide +kernel) (by decide +kernel) (by decide +kernel))) (fun _ => tw_deed rfl (by decide +kernel) (by decide +kernel) (by decide +kernel) (ea_cons (x0 rfl) (ea_cons (x1 rfl) ea_nil)) (by exact ⟨n, q, rfl, o1 _ rfl, h1, h2.imp id (by omega), l1, l2, rfl⟩)) (fun z => by cases z)) fin
  | drop x =>
    have ok' : TxtB x := ok
    rcases h with ⟨w, hr2, rfl, rfl⟩ | ⟨hr2, rfl, ha⟩
    · obtain ⟨h1, rfl⟩ := ref_drop ok' hr2
      exact br_try_out (N := fun _ => True) stb_bn (tw_if stb_bn (b := false) (ebt_ev (hw (s := "drop") rfl (by decide +kernel) (by decide +kernel) (by decide +kernel))) (fun z => by cases z) (fun _ => tw_if stb_bn (b := true) (ebt_ev (hw (s := "drop") rfl (by decide +kernel) (by decide +kernel) (by decide +kernel))) (fun _ => tw_deedX rfl (by decide +kernel) (by decide +kernel) (by decide +kernel) (ea_cons (x0 rfl) ea_nil) (by exact ⟨x, rfl, h1, rfl⟩)) (fun z => by cases z))) (by show 4 < 5; decide) ⟨_, "name", rfl, T.r_NoName, .inl ⟨rfl, rfl⟩, rfl⟩
    · obtain ⟨n, rfl, hg, rfl⟩ := ha
      exact br_try_go (tw_if stb_bn (b := false) (ebt_ev (hw (s := "drop") rfl (by decide +kernel) (by decide +kernel) (by decide +kernel))) (fun z => by cases z) (fun _ => tw_if stb_bn (b := true) (ebt_ev (hw (s := "drop") rfl (by decide +kernel) (by decide +kernel) (by decide +kernel))) (fun _ => tw_deed rfl (by decide +kernel) (by decide +kernel) (by decide +kernel) (ea_cons (x0 rfl) ea_nil) (by exact ⟨n, rfl, ok' _ rfl, ref_drop0 hr2, hg, l2, rfl⟩)) (fun z => by cases z))) fin
  | turn x =>
    have ok' : SpdB x := ok
    rcases h with ⟨w, hr2, rfl, rfl⟩ | ⟨hr2, rfl, ha⟩
    · rcases ref_spd ok' hr2 with ⟨h1, rfl⟩ | ⟨v, rfl, sv, bv, h1, rfl⟩
      · exact br_try_out (N := fun _ => True) stb_bn (tw_if stb_bn (b := false) (ebt_ev (hw (s := "turn") rfl (by decide +kernel) (by decide +kernel) (by decide +kernel))) (fun z => by cases z) (fun _ => tw_if stb_bn (b := false) (ebt_ev (hw (s := "turn") rfl (by decide +kernel) (by decide +kernel) (by decide +kernel))) (fun z => by cases z) (fun _ => tw_if stb_bn (b := true) (ebt_ev (hw (s := "turn") rfl (by decide +kernel) (by decide +kernel) (by decide +kernel))) (fun _ => tw_deedX rfl (by decide +kernel) (by decide +kernel) (by decide +kernel) (ea_cons (x0 rfl) ea_nil) (by exact ⟨_, rfl, .inl ⟨h1, rfl⟩⟩)) (fun z => by cases z)))) (by show 4 < 5; decide) ⟨_, "speed", rfl, T.r_NoSpeed, .inr (.inr (.inl ⟨rfl, rfl⟩)), rfl⟩
      · exact br_try_out (N := fun _ => True) stb_bn (tw_if stb_bn (b := false) (ebt_ev (hw (s := "turn") rfl (by decide +kernel) (by decide +kernel) (by decide +kernel))) (fun z => by cases z) (fun _ => tw_if stb_bn (b := false) (ebt_ev (hw (s := "turn") rfl (by decide +kernel) (by decide +kernel) (by decide +kernel))) (fun z => by cases z) (fun _ => tw_if stb_bn (b := true) (ebt_ev (hw (s := "turn") rfl (by decide +kernel) (by decide +kernel) (by decide +kernel))) (fun _ => tw_deedX rfl (by decide +kernel) (by decide +kernel) (by decide +kernel) (ea_cons (x0 rfl) ea_nil) (by exact ⟨_, rfl, .inr ⟨v, rfl, sv, bv.mono (by decide), h1, rfl⟩⟩)) (fun z => by cases z)))) (by show 4 < 5; decide) ⟨_, "plain", rfl, T.r_NotPlain, .inr (.inr (.inr (.inl ⟨rfl, rfl⟩))), rfl⟩
    · obtain ⟨v, u, rfl, hv, bv, rfl⟩ := ha
      exact br_try_go (tw_if stb_bn (b := false) (ebt_ev (hw (s := "turn") rfl (by decide +kernel) (by decide +kernel) (by decide +kernel))) (fun z => by cases z) (fun _ => tw_if stb_bn (b := false) (ebt_ev (hw (s := "turn") rfl (by decide +kernel) (by decide +kernel) (by decide +kernel))) (fun z => by cases z) (fun _ => tw_if stb_bn (b := true) (ebt_ev (hw (s := "turn") rfl (by decide +kernel) (by decide +kernel) (by decide +kernel))) (fun _ => tw_deed rfl (by decide +kernel) (by decide +kernel) (by decide +kernel) (ea_cons (x0 rfl) ea_nil) (by exact ⟨v, u, rfl, hv, bv.mono (by decide), l2, rfl⟩)) (fun z => by cases z)))) fin
  | push x =>
    have ok' : SpdB x := ok
    rcases h with ⟨w, hr2, rfl, rfl⟩ | ⟨hr2, rfl, ha⟩
    · rcases ref_spd ok' hr2 with ⟨h1, rfl⟩ | ⟨v, rfl, sv, bv, h1, rfl⟩
      · exact br_try_out (N := fun _ => True) stb_bn (tw_if stb_bn (b := false) (ebt_ev (hw (s := "push") rfl (by decide +kernel) (by decide +kernel) (by decide +kernel))) (fun z => by cases z) (fun _ => tw_if stb_bn (b := false) (ebt_ev (hw (s := "push") rfl (by decide +kernel) (by decide +kernel) (by decide +kernel))) (fun z => by cases z) (fun _ => tw_if stb_bn (b := false) (ebt_ev (hw (s := "push") rfl (by decide +kernel) (by decide +kernel) (by decide +kernel))) (fun z => by cases z) (fun _ => tw_if stb_bn (b := true) (ebt_ev (hw (s := "push") rfl (by decide +kernel) (by decide +kernel) (by decide +kernel))) (fun _ => tw_deedX rfl (by decide +kernel) (by decide +kernel) (by decide +kernel) (ea_cons (x0 rfl) ea_nil) (by exact ⟨_, rfl, .inl ⟨h1, rfl⟩⟩)) (fun z => by cases z))))) (by show 4 < 5; decide) ⟨_, "speed", rfl, T.r_NoSpeed, .inr (.inr (.inl ⟨rfl, rfl⟩)), rfl⟩
      · exact br_try_out (N := fun _ => True) stb_bn (tw_if stb_bn (b := false) (ebt_ev (hw (s := "push") rfl (by decide +kernel) (by decide +kernel) (by decide +kernel))) (fun z => by cases z) (fun _ => tw_if stb_bn (b := false) (ebt_ev (hw (s := "push") rfl (by decide +kernel) (by decide +kernel) (by decide +kernel))) (fun z => by cases z) (fun _ => tw_if stb_bn (b := false) (ebt_ev (hw (s := "push") rfl (by decide +kernel) (by decide +kernel) (by decide +kernel))) (fun z => by cases z) (fun _ => tw_if stb_bn (b := true) (ebt_ev (hw (s := "push") rfl (by decide +kernel) (by decide +kernel) (by decide +kernel))) (fun _ => tw_deedX rfl (by decide +kernel) (by decide +kernel) (by decide +kernel) (ea_cons (x0 rfl) ea_nil) (by exact ⟨_, rfl, .inr ⟨v, rfl, sv, bv.mono (by decide), h1, rfl⟩⟩)) (fun z => by cases z))))) (by show 4 < 5; decide) ⟨_, "plain", rfl, T.r_NotPlain, .inr (.inr (.inr (.inl ⟨rfl, rfl⟩))), rfl⟩
    · obtain ⟨v, u, rfl, hv, bv, rfl⟩ := ha
      exact br_try_go (tw_if stb_bn (b := false) (ebt_ev (hw (s := "push") rfl (by decide +kernel) (by decide +kernel) (by decide +kernel))) (fun z => by cases z) (fun _ => tw_if stb_bn (b := false) (ebt_ev (hw (s := "push") rfl (by decide +kernel) (by decide +kernel) (by decide +kernel))) (fun z => by cases z) (fun _ => tw_if stb_bn (b := false) (ebt_ev (hw (s := "push") rfl (by decide +kernel) (by decide +kernel) (by decide +kernel))) (fun z => by cases z) (fun _ => tw_if stb_bn (b := true) (ebt_ev (hw (s := "push") rfl (by decide +kernel) (by decide +kernel) (by decide +kernel))) (fun _ => tw_deed rfl (by decide +kernel) (by decide +kernel) (by decide +kernel) (ea_cons (x0 rfl) ea_nil) (by exact ⟨v, u, rfl, hv, bv.mono (by decide), ss, ⟨4000, 67, bs, bv, by decide⟩, l2, rfl⟩)) (fun z => by cases z))))) fin
def R_see (b : Bst) (ds : List Dt) (d : Dt) : Prop := ds = [] ∧ UbB b ∧ d = seenD b
theorem h__law_seen (T : Txt K mg ca fa ka) : Has P w K mg base CX0 11 "_law_seen" ["_law_bench"] (spBnS K (ca 19) R_see) := by
  refine T.d__law_seen.askN sc__law_seen (fun b ds d h => by obtain ⟨rfl, _⟩ := h; rfl) (fun f cdv A outer s H E hr => (pss_cons (ps_set (i := 1) sc__law_seen.nd rfl (Or.inl rfl) (pe_mh0 (h_Bench_names T) T.cl_Bench hr (by decide) pass0 (pv 0) )) (pss_one (ps_ret (pe_lst (pa_cons (pv 1) (pa_cons (pe_mh0 (h_Bench_speed T) T.cl_Bench hr (by decide) pass0 (pv 0) ) (pa_cons (pe_mh0 (h_Bench_order T) T.cl_Bench hr (by decide) passL (pv 0) ) (pa_cons (pe_lc (own := [("_law_name", 2)]) (g := gName 2) (tt := tYes) rfl sc__law_seen.nd (lstK (K := K) rfl (pv 1)) (blkOk_by (own := [("_law_name", 2)]) (N := ["_law_bench", "_law_names", "_law_name"]) (sc := defScope s__law_seen) (by decide +kernel)) (fun _ _ _ _ _ => pg_name (i := 2) sc__law_seen.nd rfl (Or.inl rfl)) (fun _ _ _ _ _ => pts_nil) (fun _ _ _ _ _ => (pe_mh (h_Bench_tell T) T.cl_Bench hr (by decide) passL (pv 0) (pa_cons (pv 2) pa_nil)))) pa_nil))))))))) ?_
  rintro y b ds d ⟨rfl, hU, rfl⟩
  have h12 := hU.le
  have ln := nmsB_len b
  refine br_seq (N := fun s => s = [.raw (.ref y), .d (namesD b), .no]) (bn_asg (x := namesD b) stb_br (ebw_eb (ebw_mq wn1_ok stb_br (fun _ _ h => h) rfl (by decide +kernel) (by decide +kernel) (by decide +kernel) (eba_ev ea_nil) (by exact ⟨rfl, by omega, rfl⟩))) rfl) ?_
  rintro s rfl
  exact br_ret stb_br (eb_is (eb_lst (eba_cons stb_br (eb_ev (ev_var rfl)) (eba_cons stb_br (eb_mq stb_br (fun _ _ h => h) rfl (by decide +kernel) (by decide +kernel) (by decide +kernel) (eba_ev ea_nil) (by exact ⟨rfl, rfl⟩)) (eba_cons stb_br (ebw_eb (ebw_mq wn2_ok stb_br (fun _ _ h => h) rfl (by decide +kernel) (by decide +kernel) (by decide +kernel) (eba_ev ea_nil) (by exact ⟨rfl, hU, rfl⟩))) (eba_cons stb_br (eb_lcP (ds := (nmsB b).map Dt.str) (es := (toB b).map fun p => hapD p.1 p.2) (by rw [List.length_map, List.length_map, toB_len, ln]) stb_br (eb_ev (ev_is (ev_var rfl) (namesD_is b))) (by rw [List.length_map]; omega) (fun k d e hd he => by
    rw [List.getElem?_map] at hd he
    obtain ⟨n, hn, rfl⟩ := Option.map_eq_some_iff.mp hd
    obtain ⟨p, hp, rfl⟩ := Option.map_eq_some_iff.mp he
    unfold toB tsB at hp
    rw [List.getElem?_map, List.getElem?_map] at hp
    have hn' : (srtN (b.haps.map (·.1)))[k]? = some n := hn
    rw [hn'] at hp
    have hp := Option.some.inj hp
    have hm := List.mem_of_getElem? hn
    obtain ⟨nm, v, hv⟩ := nmsB_mem hU hm
    obtain ⟨ev, b1, b2⟩ := hapB_bq hU hv
    have n8 := (nm_small nm).1
    refine eb_is (eb_mq stb_br (fun _ _ h => h) rfl (by decide +kernel) (by decide +kernel) (by decide +kernel) (eba_ev (ea_cons (ev_var rfl) ea_nil)) (by exact ⟨n, v, btB b, rfl, by omega, nm, hv, hU.bt, hU.q, b1, b2.mono (by decide), rfl⟩)) ?_
    rw [← hp]
    simp only [getHD, hv]
    rfl)) (eba_ev ea_nil)))))) rfl)
theorem h__law_stands_right (T : Txt K mg ca fa ka) : Has P w K mg base CX0 12 "_law_stands_right" ["_law_bench", "_law_state"] (spRs K (ca 19)) := by
  refine T.d__law_stands_right.rsB sc__law_stands_right rfl (fun f cdv A outer s H E hr => (pss_cons (ps_set (i := 2) sc__law_stands_right.nd rfl (Or.inl rfl) (pe_mkB (h_Bench___init__ T) T.c_Bench hr (by decide))) (pss_cons (ps_for PassesOwn.never rfl (lstK (K := K) rfl (revLK (K := K) rfl (pe_callB (sortH rfl) (by rfl) T.m_sorted (by decide +kernel) (pa_cons (pe_dget (lt64 hr.units) (pv 1) pe_str (fun _ _ => rfl)) pa_nil)))) (pg_name (i := 3) sc__law_stands_right.nd rfl (Or.inl rfl)) (pss_one (ps_expr (pe_mh (h_Bench_put T) T.cl_Bench hr (by decide) passL (pv 2) (pa_cons (pv 3) (pa_cons (pe_dget (lt64 hr.units) (pe_dget (lt64 hr.units) (pv 1) pe_str (fun _ _ => rfl)) (pv 3) (fun _ _ => rfl)) pa_nil)))))) (pss_cons (ps_expr (pe_mh (h_Bench_turn T) T.cl_Bench hr (by decide) passL (pv 2) (pa_cons (pe_mh0 (h_Bench_speed T) T.cl_Bench hr (by decide) pass0 (pv 0) ) pa_nil))) (pss_cons (ps_if (pt_cmpR (neK (K := K) rfl hr.units) (pe_h (h__law_seen T) hr (by decide) pass0 (pa_cons (pv 2) pa_nil)) (pe_h (h__law_seen T) hr (by decide) pass0 (pa_cons (pv 0) pa_nil)) (nomark _)) (pss_one (ps_ret pe_bl)) pss_nil) (pss_cons (ps_set (i := 4) sc__law_stands_right.nd rfl (Or.inr rfl) (pe_mh0 (h_Bench_names T) T.cl_Bench hr (by decide) pass0 (pv 0) )) (pss_cons (ps_setLc (i := 5) (own := [("_law_name", 3)]) (g := gName 3) (tt := tYes) rfl sc__law_stands_right.nd rfl rfl (by rfl) (lstK (K := K) rfl (pv 4)) (blkOk_by (own := [("_law_name", 3)]) (N := ["_law_bench", "_law_state", "_law_other", "_law_name", "_law_names", "_law_told", "_law_haps", "_law_rows", "_law_number", "_law_row", "_law_one", "_law_other_one"]) (sc := defScope s__law_stands_right) (by decide +kernel)) (fun _ _ _ _ _ => pg_name (i := 3) sc__law_stands_right.nd rfl (Or.inl rfl)) (fun _ _ _ _ _ => pts_nil) (fun _ _ _ _ _ => (pe_mh (h_Bench_tell T) T.cl_Bench hr (by decide) passL (pv 0) (pa_cons (pv 3) pa_nil)))) (pss_cons (ps_if (PW.pt (pw_and (pt_cmpR op_gt (pe_callB (lenK (K := K) rfl) (by rfl) T.m_len (by decide +kernel) (pa_cons (pv 4) pa_nil)) pe_int (nomark _)) (pw_and (pt_cmpR (eqK (K := K) rfl hr.units) (unlK (K := K) rfl rfl hr.units (by rfl) T.m_len (by rfl) T.m_set (pv 5)) (pe_callB (lenK (K := K) rfl) (by rfl) T.m_len (by decide +kernel) (pa_cons (pv 5) pa_nil)) (nomark _)) (pw_and1 (pt_cmpR op_lt (pe_callB (lenK (K := K) rfl) (by rfl) T.m_len (by decide +kernel) (pa_cons (pv 5) pa_nil)) pe_int (nomark _)))))) (pss_cons (ps_setLc (i := 6) (own := [("_law_name", 3)]) (g := gName 3) (tt := tYes) rfl sc__law_stands_right.nd rfl rfl (by rfl) (lstK (K := K) rfl (pv 4)) (blkOk_by (own := [("_law_name", 3)]) (N := ["_law_bench", "_law_state", "_law_other", "_law_name", "_law_names", "_law_told", "_law_haps", "_law_rows", "_law_number", "_law_row", "_law_one", "_law_other_one"]) (sc := defScope s__law_stands_right) (by decide +kernel)) (fun _ _ _ _ _ => pg_name (i := 3) sc__law_stands_right.nd rfl (Or.inl rfl)) (fun _ _ _ _ _ => pts_nil) (fun _ _ _ _ _ => (pe_dget (lt64 hr.units) (pe_dget (lt64 hr.units) (pv 1) pe_str (fun _ _ => rfl)) (pv 3) (fun _ _ => rfl)))) (pss_cons (ps_setLc (i := 7) (own := [("_law_row", 9)]) (g := gName 9) (tt := tYes) rfl sc__law_stands_right.nd rfl rfl (by rfl) (lstK (K := K) rfl (pe_h (h_order_at T) hr (by decide) passL (pa_cons (pv 6) (pa_cons (pe_mh0 (h_Bench_speed T) T.cl_Bench hr (by decide) pass0 (pv 0) ) pa_nil)))) (blkOk_by (own := [("_law_row", 9)]) (N := ["_law_bench", "_law_state", "_law_other", "_law_name", "_law_names", "_law_told", "_law_haps", "_law_rows", "_law_number", "_law_row", "_law_one", "_law_other_one"]) (sc := defScope s__law_stands_right) (by decide +kernel)) (fun _ _ _ _ _ => pg_name (i := 9) sc__law_stands_right.nd rfl (Or.inl rfl)) (fun _ _ _ _ _ => pts_nil) (fun _ _ _ _ _ => (pe_lc (own := [("_law_number", 8)]) (g := gName 8) (tt := tYes) rfl sc__law_stands_right.nd (lstK (K := K) rfl (pv 9)) (blkOk_by (own := [("_law_number", 8)]) (N := ["_law_bench", "_law_state", "_law_other", "_law_name", "_law_names", "_law_told", "_law_haps", "_law_rows", "_law_number", "_law_row", "_law_one", "_law_other_one"]) (sc := _) (by rfl)) (fun _ _ _ _ _ => pg_name (i := 8) sc__law_stands_right.nd rfl (Or.inl rfl)) (fun _ _ _ _ _ => pts_nil) (fun _ _ _ _ _ => (pe_ix (ixK (K := K) rfl) (pv 4) (pv 8) (fun _ _ => rfl)))))) (pss_one (ps_if (PW.pt (pw_or (pt_cmpR (neK (K := K) rfl hr.units) (pv 7) (pe_mh0 (h_Bench_order T) T.cl_Bench hr (by decide) passL (pv 0) ) (nomark _)) (pw_or1 (pt_cmpR (neK (K := K) rfl hr.units) (pe_h (h_order_at T) hr (by decide) passL (pa_cons (pv 5) (pa_cons (pe_tup (pa_cons pe_int (pa_cons pe_int pa_nil))) pa_nil))) (pe_h (h_order_at T) hr (by decide) passL (pa_cons (pv 6) (pa_cons (pe_mh0 (h_Bench_speed T) T.cl_Bench hr (by decide) pass0 (pv 0) ) pa_nil))) (nomark _))))) (pss_one (ps_ret pe_bl)) pss_nil)))) pss_nil) (pss_cons (ps_for PassesOwn.never rfl (pi_range1 rfl T.m_range (pa_cons (pe_callB (lenK (K := K) rfl) (by rfl) T.m_len (by decide +kernel) (pa_cons (pv 4) pa_nil)) pa_nil)) (pg_name (i := 10) sc__law_stands_right.nd rfl (Or.inl rfl)) (pss_one (ps_for PassesOwn.never rfl (pi_range1 rfl T.m_range (pa_cons (pe_callB (lenK (K := K) rfl) (by rfl) T.m_len (by decide +kernel) (pa_cons (pv 4) pa_nil)) pa_nil)) (pg_name (i := 11) sc__law_stands_right.nd rfl (Or.inl rfl)) (pss_one (ps_if (pt_cmpR (neK (K := K) rfl hr.units) (pe_h (h_kind_of T) hr (by decide) pass0 (pa_cons (pe_ix (ixK (K := K) rfl) (pv 5) (pv 10) (fun _ _ => rfl)) (pa_cons (pe_ix (ixK (K := K) rfl) (pv 5) (pv 11) (fun _ _ => rfl)) pa_nil))) (pe_mh (h_Bench_kind T) T.cl_Bench hr (by decide) passL (pv 0) (pa_cons (pe_ix (ixK (K := K) rfl) (pv 4) (pv 10) (fun _ _ => rfl)) (pa_cons (pe_ix (ixK (K := K) rfl) (pv 4) (pv 11) (fun _ _ => rfl)) pa_nil))) (nomark _)) (pss_one (ps_ret pe_bl)) pss_nil))))) (pss_one (ps_ret pe_bl))))))))))) ?_
  rintro x y p b hU nd
  have h12 := hU.le
  have ln := nmsB_len b
  have tl := tsB_len b
  have ol := toB_len b
  obtain ⟨pl, hpl⟩ := hU.pl
  have hbt := hU.bt
  have s0 := py_seenP b
  have s1 := sh_seen hU
  obtain ⟨po, po1, po2⟩ := py_ord hU
  have sS : Stb fun G H => BnR K (ca 19) x G H b ∧ SoAt K y p G H b := fun G H G2 H2 h n => ⟨h.1.nx n, h.2.nx n⟩
  refine br_frM (us := []) (S := fun G H => BnR K (ca 19) x G H b ∧ SoAt K y p G H b) fr_make sS fun z pz fresh nz => ?_
  obtain ⟨n1, n2⟩ := fresh x fun G H h => by obtain ⟨_, _, _, _, e, _⟩ := h.1.ex; rw [e]; intro z; cases z
  obtain ⟨n3, n4⟩ := fresh y fun G H h => h.2.here.1
  obtain ⟨n5, n6⟩ := fresh p fun G H h => h.2.here.2
  have sB : ∀ b1 : Bst, Stb fun G H => (BnR K (ca 19) x G H b ∧ SoAt K y p G H b) ∧ BnAt K (ca 19) z pz G H b1 := fun b1 G H G2 H2 h n => ⟨sS _ _ _ _ h.1 n, h.2.nx n⟩
  have st : ∀ {b1 b2 : Bst} (G H G2 H2 : Hp), ((BnR K (ca 19) x G H b ∧ SoAt K y p G H b) ∧ BnAt K (ca 19) z pz G H b1) → NxP [z, pz] G H G2 H2 → BnAt K (ca 19) z pz G2 H2 b2 → ((BnR K (ca 19) x G2 H2 b ∧ SoAt K y p G2 H2 b) ∧ BnAt K (ca 19) z pz G2 H2 b2) := fun G H G2 H2 h n h2 => ⟨⟨h.1.1.nxP n (by simp [n1, n2]), h.1.2.nxP n (by simp [n3, n4]) (by simp [n5, n6])⟩, h2⟩
  have mem : z ∈ [z, pz] ∧ pz ∈ [z, pz] := ⟨by simp, by simp⟩
  have lr : ((nmsB b).reverse.map Dt.str).length = (nmsB b).length := by rw [List.length_map, List.length_reverse]
  refine br_seq (bn_forD (W := fun k G H => (BnR K (ca 19) x G H b ∧ SoAt K y p G H b) ∧ BnAt K (ca 19) z pz G H (oth b k)) (I := fun _ s => ∃ s3, s = [.raw (.ref x), .raw (.ref y), .raw (.ref z), s3, .no, .no, .no, .no, .no, .no, .no, .no]) (as := (nmsB b).reverse.map Dt.str) (sB _) ?_ (by rw [lr]; omega) ⟨_, rfl⟩ fun k d s hd hs => ?_) ?_
  · rw [List.map_reverse]
    exact eb_revL (es_sorted (fun G H h => h.1.2.r) rfl (by omega))
  · obtain ⟨s3, rfl⟩ := hs
    rw [List.getElem?_map] at hd
    obtain ⟨n, hn, rfl⟩ := Option.map_eq_some_iff.mp hd
    obtain ⟨nm, q, hq⟩ := nmsB_mem hU (List.mem_reverse.mp (List.mem_of_getElem? hn))
    have eq := (hapB_bq hU hq).1
    have n8 := (nm_small nm).1
    have hk : k < (nmsB b).length := by
      have := (List.getElem?_eq_some_iff.mp hn).1
      rwa [List.length_reverse] at this
    obtain ⟨o1, o2⟩ := oth_len b k
    exact bn_deed (b' := oth b (k + 1)) (sB _) (fun G H h => h.2) rfl (by decide +kernel) (by decide +kernel) (by decide +kernel) (eba_cons (sB _) (eb_ev (ev_var rfl)) (eba_cons (sB _) (es_hget (sB _) (fun G H h => h.1.2.r) rfl (eb_ev (ev_var rfl)) hq) (eba_ev ea_nil))) (by exact ⟨n, q, rfl, by omega, nm, .inr (by omega), by omega, by omega, by rw [← eq]; exact oth_succ nd hn⟩) mem st ⟨_, rfl⟩
  rintro s ⟨s3, rfl⟩
  rw [lr]
  obtain ⟨o1, o2⟩ := oth_len b (nmsB b).length
  refine br_seq (bn_deed (N := fun s => s = [.raw (.ref x), .raw (.ref y), .raw (.ref z), s3, .no, .no, .no, .no, .no, .no, .no, .no]) (S2 := fun G H => (BnR K (ca 19) x G H b ∧ SoAt K y p G H b) ∧ BnAt K (ca 19) z pz G H (refil b)) (b' := refil b) (sB _) (fun G H h => h.2) rfl (by decide +kernel) (by decide +kernel) (by decide +kernel) (eba_cons (sB _) (eb_mq (sB _) (fun G H h => h.1.1) rfl (by decide +kernel) (by decide +kernel) (by decide +kernel) (eba_ev ea_nil) (by exact ⟨rfl, rfl⟩)) (eba_ev ea_nil)) (by exact ⟨b.speed, pl, rfl, hpl, hU.q.mono (by decide), by omega, rfl⟩) mem st rfl) ?_
  rintro s rfl
  refine br_no (sB _) (ebt_test (eb_op (sB _) (eb_is (eb_askN (sB _) (er_var rfl) (fun G H h => h.2.r) (eba_ev ea_nil) (by exact ⟨rfl, refil_ub hU, rfl⟩)) (refil_seen hU)) (eb_askN (sB _) (er_var rfl) (fun G H h => h.1.1) (eba_ev ea_nil) (by exact ⟨rfl, hU, rfl⟩)) (r2_neSelf rfl s0 s1))) ?_
  refine br_w (S1 := fun G H => BnR K (ca 19) x G H b ∧ SoAt K y p G H b) ?_ (fun G H h => h.1)
  refine br_w2 (S2 := fun G H => BnR K (ca 19) x G H b ∧ SoAt K y p G H b) ?_ (fun _ _ _ => trivial)
  have item : ∀ {k : Nat} {d e : Dt}, ((nmsB b).map Dt.str)[k]? = some d → ((tsB b).map fun p => hapD p.1 p.2)[k]? = some e → ∃ n g, d = .str n ∧ e = hpD g ∧ n.length ≤ 90000 ∧ isNm (.str n) = true ∧ getH b.haps n = some g ∧ Bq 90 g.1 ∧ Bq 4 g.2 ∧ (nmsB b)[k]? = some n ∧ (tsB b)[k]? = some g := fun {k d e} hd he => by
    rw [List.getElem?_map] at hd he
    obtain ⟨n, hn, rfl⟩ := Option.map_eq_some_iff.mp hd
    obtain ⟨g, hg, rfl⟩ := Option.map_eq_some_iff.mp he
    have hg0 := hg
    unfold tsB at hg
    rw [List.getElem?_map] at hg
    have hn' : (srtN (b.haps.map (·.1)))[k]? = some n := hn
    rw [hn'] at hg
    have hg := Option.some.inj hg
    obtain ⟨nm, v, hv⟩ := nmsB_mem hU (List.mem_of_getElem? hn)
    obtain ⟨ev, b1, b2⟩ := hapB_bq hU hv
    have n8 := (nm_small nm).1
    have hg : (getH b.haps n).getD (0, 0) = g := hg
    rw [hv] at hg
    have hg : v = g := hg
    subst hg
    exact ⟨n, v, rfl, rfl, by omega, nm, hv, b1, b2, hn, hg0⟩
  refine br_seq (bn_asg (N := fun s => s = [.raw (.ref x), .raw (.ref y), .raw (.ref z), s3, .d (namesD b), .no, .no, .no, .no, .no, .no, .no]) (x := namesD b) sS (ebw_eb (ebw_mq wn1_ok sS (fun _ _ h => h.1) rfl (by decide +kernel) (by decide +kernel) (by decide +kernel) (eba_ev ea_nil) (by exact ⟨rfl, by omega, rfl⟩))) rfl) ?_
  rintro s rfl
  refine br_seq (bn_asg (N := fun s => s = [.raw (.ref x), .raw (.ref y), .raw (.ref z), s3, .d (namesD b), .d (hapsD (toB b)), .no, .no, .no, .no, .no, .no]) (x := hapsD (toB b)) sS ?_ rfl) ?_
  · refine eb_lcP (ds := (nmsB b).map Dt.str) (es := (toB b).map fun p => hapD p.1 p.2) (by rw [List.length_map, List.length_map, ol, ln]) sS ?_ (by rw [List.length_map]; omega) (fun k d e hd he => ?_)
    · exact eb_ev (ev_is (ev_var rfl) (namesD_is b))
    unfold toB at he
    rw [List.getElem?_map, List.getElem?_map] at he
    cases ht : (tsB b)[k]? with
    | none => rw [ht] at he; cases he
    | some g0 =>
      rw [ht] at he
      cases he
      obtain ⟨n, g, rfl, _, l1, nm, hg, g1, g2, _, e3⟩ := item (k := k) hd (by rw [List.getElem?_map, ht]; rfl)
      rw [ht] at e3
      cases e3
      exact eb_mq sS (fun _ _ h => h.1) rfl (by decide +kernel) (by decide +kernel) (by decide +kernel) (eba_ev (ea_cons (ev_var rfl) ea_nil)) (by exact ⟨n, g0, btB b, rfl, l1, nm, hg, hbt, hU.q, g1, g2.mono (by decide), rfl⟩)
  rintro s rfl
  refine br_seq (N := fun s => Paired Wk s [.raw (.ref x), .raw (.ref y), .raw (.ref z), s3, .d (namesD b), .d (hapsD (toB b)), .no, .no, .no, .no, .no, .no]) (bn_ifb sS (v := (decide (0 < ((nmsB b).length : Int))) && (((((unl ((((toB b).map fun p => hapD p.1 p.2)).map nkOf)).length : Int) == ((toB b).length : Int))) && (decide (((toB b).length : Int) < 9)))) (ebt_ev (et_and (et_test (ev_op (ev_is (ev_cb (ea_cons (ev_is (ev_var rfl) (namesD_is b)) ea_nil) rc_lenL) (by rw [List.length_map])) ev_int r2_gt)) fun _ => et_and (et_test (ev_op (ev_lenSetN (ev_var rfl) (fun d hd => by obtain ⟨q, _, rfl⟩ := List.mem_map.mp hd; exact hapD_pair _ _ _ _) (by rw [List.length_map]; omega)) (ev_is (ev_cb (ea_cons (ev_var rfl) ea_nil) rc_lenL) (by rw [List.length_map])) r2_eqI)) fun _ => et_test (ev_op (ev_is (ev_cb (ea_cons (ev_var rfl) ea_nil) rc_lenL) (by rw [List.length_map])) ev_int r2_lt))) (fun hv => ?_) (fun _ => bn_nt sS nt_next (by walk_at "wk"))) ?_
  · rw [Bool.and_eq_true, Bool.and_eq_true] at hv
    obtain ⟨v1, v2, v3⟩ := hv
    have v1 := of_decide_eq_true v1
    have v3 := of_decide_eq_true v3
    have v2 : (unl ((((toB b).map fun p => hapD p.1 p.2)).map nkOf)).length = (toB b).length := by
      have := eq_of_beq v2
      exact_mod_cast this
    have ndT : (toB b).Nodup := by
      have h := (unl_all _).mp (v2.trans (by rw [List.length_map, List.length_map]))
      rw [List.map_map] at h
      exact nodup_of _ h
    have ndO : (tsB b).Nodup := nodup_of _ ndT
    have zj : jn b.speed (-b.speed) = 0 := jn_self_neg hU.sp
    have same : standD (toB b) 0 = standD (tsB b) b.speed := by
      have := (mv_stand (ts := tsB b) (o := (0, 0)) hbt hU.sp).1
      rw [zj] at this
      exact this
    have stT : StB (toB b) 0 := ⟨bq_zero.mono (by decide), fun p hp => by
      obtain ⟨h1, h2⟩ := hU.to p hp
      rw [Rat.zero_mul, show p.1 - 0 = p.1 by grind]
      exact ⟨h1.mono (by decide), h2.mono (by decide), bq_zero.mono (by decide), h1.mono (by decide)⟩⟩
    have dT : DenOk (stQ (toB b) 0) := den_told hU.ts hU.tl hbt hU.q
    refine bn_seq (M := fun s => s = [.raw (.ref x), .raw (.ref y), .raw (.ref z), s3, .d (namesD b), .d (hapsD (toB b)), .d (hapsD (tsB b)), .no, .no, .no, .no, .no]) (bn_asg (x := hapsD (tsB b)) sS ?_ rfl) ?_
    · refine eb_lcP (ds := (nmsB b).map Dt.str) (es := (tsB b).map fun p => hapD p.1 p.2) (by rw [List.length_map, List.length_map, tl, ln]) sS ?_ (by rw [List.length_map]; omega) (fun k d e hd he => ?_)
      · exact eb_ev (ev_is (ev_var rfl) (namesD_is b))
      obtain ⟨n, g, rfl, rfl, l1, nm, hg, g1, g2, _, _⟩ := item hd he
      exact es_hget sS (fun _ _ h => h.2.r) rfl (eb_ev (ev_var rfl)) hg
    rintro s rfl
    have hoat : R_oatV [hapsD (tsB b), fq b.speed] (standD (tsB b) b.speed) := ⟨tsB b, b.speed, rfl, by omega, by omega, ndO, hU.st, st_denB hU.ts hU.tl hU.q, hU.sp, rfl⟩
    have lq := rsg_len (stQ (tsB b) b.speed)
    have lz : (stQ (tsB b) b.speed).length = (tsB b).length := List.length_map ..
    refine bn_seq (M := fun s => s = [.raw (.ref x), .raw (.ref y), .raw (.ref z), s3, .d (namesD b), .d (hapsD (toB b)), .d (hapsD (tsB b)), .d (ordB b), .no, .no, .no, .no]) (bn_asg (x := ordB b) sS ?_ rfl) ?_
    · refine eb_lcP (ds := (rsg (stQ (tsB b) b.speed)).map fun q => .lst (numsD (atQ (tsB b) b.speed q))) (es := (rsg (stQ (tsB b) b.speed)).map (rowB b)) (by rw [List.length_map, List.length_map]) sS (eb_callT (eba_cons sS (eb_ev (ev_var rfl)) (eba_cons sS (eb_mq sS (fun G H h => h.1) rfl (by decide +kernel) (by decide +kernel) (by decide +kernel) (eba_ev ea_nil) (by exact ⟨rfl, rfl⟩)) (eba_ev ea_nil))) hoat) (by rw [List.length_map]; omega) (fun k d e hd he => ?_)
      rw [List.getElem?_map] at hd he
      obtain ⟨q, hq, rfl⟩ := Option.map_eq_some_iff.mp hd
      rw [hq] at he
      cases he
      exact eb_ev (en_row (i := 8) (j := 4) (m := 9) (by omega) rfl (fun _ => rfl) (fun _ => rfl)).ev
    rintro s rfl
    obtain ⟨pd, pd1, pd2⟩ := py_standP (tsB b) b.speed
    exact bn_no sS (ebt_is (ebt_or sS (a := false) (c := false) (ebt_test (eb_op sS (eb_ev (ev_var rfl)) (ebw_eb (ebw_mq wn2_ok sS (fun _ _ h => h.1) rfl (by decide +kernel) (by decide +kernel) (by decide +kernel) (eba_ev ea_nil) (by exact ⟨rfl, hU, rfl⟩))) (r2_neSelf rfl po1 po2))) (fun _ => ebt_test (eb_op sS (eb_is (eb_callT (eba_cons sS (eb_ev (ev_var rfl)) (eba_ev (ea_cons (ev_is (by walk_at "ev") (show _ = fq 0 from rfl)) ea_nil))) (by exact ⟨toB b, 0, rfl, by omega, by omega, ndT, stT, dT, sp_zero, rfl⟩)) same) (eb_callT (eba_cons sS (eb_ev (ev_var rfl)) (eba_cons sS (eb_mq sS (fun G H h => h.1) rfl (by decide +kernel) (by decide +kernel) (by decide +kernel) (eba_ev ea_nil) (by exact ⟨rfl, rfl⟩)) (eba_ev ea_nil))) hoat) (r2_neSelf rfl pd1 pd2))) rfl) rfl) (by walk_at "wk")
  intro s hw
  refine br_slw hw ?_
  have lenN : ∀ {sl : List Sl}, sl[4]? = some (.d (namesD b)) → EvA K (tCons (tCB (rLenS K) (tCons (tVar 4) tNil)) tNil) sl [.int ((nmsB b).length : Int)] := fun h => ea_cons (ev_is (ev_cb (ea_cons (ev_is (ev_var h) (namesD_is b)) ea_nil) rc_lenL) (by rw [List.length_map])) ea_nil
  have told : ∀ {i : Nat}, i < (nmsB b).length → ∃ n g, atI ((nmsB b).map Dt.str) (i : Int) = some (.str n) ∧ atI ((toB b).map fun p => hapD p.1 p.2) (i : Int) = some (hpD (mvP b.speed (btB b) (0, 0) g)) ∧ n.length ≤ 90000 ∧ isNm (.str n) = true ∧ getH b.haps n = some g ∧ Bq 90 g.1 ∧ Bq 4 g.2 := fun {i} hi => by
    have i1 : i < ((nmsB b).map Dt.str).length := by rw [List.length_map]; exact hi
    have i2 : i < ((tsB b).map fun p => hapD p.1 p.2).length := by rw [List.length_map]; omega
    have i3 : i < ((toB b).map fun p => hapD p.1 p.2).length := by rw [List.length_map]; omega
    obtain ⟨n, g, e1, e2, l1, nm, hg, g1, g2, e3, e4⟩ := item (k := i) (List.getElem?_eq_getElem i1) (List.getElem?_eq_getElem i2)
    refine ⟨n, g, ?_, ?_, l1, nm, hg, g1, g2⟩
    · rw [atI_k _ i1, List.getElem?_eq_getElem i1, e1]
    · rw [atI_k _ i3]
      unfold toB
      rw [List.getElem?_map, List.getElem?_map, e4]
      rfl
  refine br_seq (bn_forR (S := fun _ G H => BnR K (ca 19) x G H b ∧ SoAt K y p G H b) (n := ((nmsB b).length : Int)) (lenN rfl) (by omega) sS (fun i hi => ?_)) ?_
  · refine bn_imp (bn_forR (S := fun _ G H => BnR K (ca 19) x G H b ∧ SoAt K y p G H b) (n := ((nmsB b).length : Int)) (lenN rfl) (by omega) sS (fun j hj => ?_)) (fun s e => by subst e; walk_at "wk")
    obtain ⟨n, g, a1, a2, l1, nm, hg, g1, g2⟩ := told (i := i) (by omega)
    obtain ⟨n2, g', c1, c2, l1', nm', hg', g1', g2'⟩ := told (i := j) (by omega)
    obtain ⟨m1, m2⟩ := mv_sharp hbt hU.q g1 g2
    obtain ⟨m3, m4⟩ := mv_sharp hbt hU.q g1' g2'
    exact bn_no sS (ebt_test (eb_op sS (eb_is (eb_call (eba_ev (ea_cons (ev_op (ev_var rfl) (ev_var rfl) (r2_ixL a2)) (ea_cons (ev_op (ev_var rfl) (ev_var rfl) (r2_ixL c2)) ea_nil))) (by exact ⟨_, _, _, _, rfl, m1.mono (by decide), m2.mono (by decide), m3.mono (by decide), m4.mono (by decide), rfl⟩)) (congrArg Dt.str (mv_word hbt g g'))) (eb_mq sS (fun G H h => h.1) rfl (by decide +kernel) (by decide +kernel) (by decide +kernel) (eba_ev (ea_cons (ev_op (ev_is (ev_var rfl) (namesD_is b)) (ev_var rfl) (r2_ixL a1)) (ea_cons (ev_op (ev_is (ev_var rfl) (namesD_is b)) (ev_var rfl) (r2_ixL c1)) ea_nil))) (by exact ⟨n, n2, g, g', rfl, ⟨l1, nm⟩, ⟨l1', nm'⟩, hg, hg', ⟨g1.mono (by decide), g2.mono (by decide)⟩, ⟨g1'.mono (by decide), g2'.mono (by decide)⟩, rfl⟩)) (r2_neSelf rfl rfl (sh_word _ _)))) (by walk_at "wk")
  rintro s rfl
  exact br_ret sS (eb_ev ev_bl)
theorem h__law_turned_right (T : Txt K mg ca fa ka) : Has P w K mg base CX0 12 "_law_turned_right" ["_law_bench", "_law_state", "_law_speed_here"] (spTr K (ca 19)) := by
  refine T.d__law_turned_right.trB sc__law_turned_right rfl (fun f cdv A outer s H E hr => (pss_cons (ps_set (i := 3) sc__law_turned_right.nd rfl (Or.inl rfl) (pe_h (h__law_seen T) hr (by decide) pass0 (pa_cons (pv 0) pa_nil))) (pss_cons (ps_expr (pe_mh (h_Bench_push T) T.cl_Bench hr (by decide) passL (pv 0) (pa_cons (pv 2) pa_nil))) (pss_cons (ps_expr (pe_mh (h_Bench_push T) T.cl_Bench hr (by decide) passL (pv 0) (pa_cons (pe_tup (pa_cons (pe_op op_sub pe_int (pe_ix (ixK (K := K) rfl) (pv 2) pe_int (fun _ _ => rfl))) (pa_cons (pe_ix (ixK (K := K) rfl) (pv 2) pe_int (fun _ _ => rfl)) pa_nil))) pa_nil))) (pss_cons (ps_if (pt_cmpR (neK (K := K) rfl hr.units) (pe_h (h__law_seen T) hr (by decide) pass0 (pa_cons (pv 0) pa_nil)) (pv 3) (nomark _)) (pss_one (ps_ret pe_bl)) pss_nil) (pss_cons (ps_expr (pe_mh (h_Bench_turn T) T.cl_Bench hr (by decide) passL (pv 0) (pa_cons (pe_tup (pa_cons pe_int (pa_cons pe_int pa_nil))) pa_nil))) (pss_cons (ps_if (pt_cmpR (neK (K := K) rfl hr.units) (pe_lc (own := [("_law_name", 4)]) (g := gName 4) (tt := tYes) rfl sc__law_turned_right.nd (lstK (K := K) rfl (pe_mh0 (h_Bench_names T) T.cl_Bench hr (by decide) pass0 (pv 0) )) (blkOk_by (own := [("_law_name", 4)]) (N := ["_law_bench", "_law_state", "_law_speed_here", "_law_before", "_law_name", "_law_turn"]) (sc := defScope s__law_turned_right) (by decide +kernel)) (fun _ _ _ _ _ => pg_name (i := 4) sc__law_turned_right.nd rfl (Or.inl rfl)) (fun _ _ _ _ _ => pts_nil) (fun _ _ _ _ _ => (pe_mh (h_Bench_tell T) T.cl_Bench hr (by decide) passL (pv 0) (pa_cons (pv 4) pa_nil)))) (pe_lc (own := [("_law_name", 4)]) (g := gName 4) (tt := tYes) rfl sc__law_turned_right.nd (lstK (K := K) rfl (pe_mh0 (h_Bench_names T) T.cl_Bench hr (by decide) pass0 (pv 0) )) (blkOk_by (own := [("_law_name", 4)]) (N := ["_law_bench", "_law_state", "_law_speed_here", "_law_before", "_law_name", "_law_turn"]) (sc := defScope s__law_turned_right) (by decide +kernel)) (fun _ _ _ _ _ => pg_name (i := 4) sc__law_turned_right.nd rfl (Or.inl rfl)) (fun _ _ _ _ _ => pts_nil) (fun _ _ _ _ _ => (pe_dget (lt64 hr.units) (pe_dget (lt64 hr.units) (pv 1) pe_str (fun _ _ => rfl)) (pv 4) (fun _ _ => rfl)))) (nomark _)) (pss_one (ps_ret pe_bl)) pss_nil) (pss_cons (ps_for PassesOwn.never rfl (pi_range1 rfl T.m_range (pa_cons pe_int pa_nil)) (pg_name (i := 5) sc__law_turned_right.nd rfl (Or.inl rfl)) (pss_one (ps_expr (pe_mh0 (h_Bench_undo T) T.cl_Bench hr (by decide) passL (pv 0) )))) (pss_one (ps_ret (pe_cmpR (eqK (K := K) rfl hr.units) (pe_h (h__law_seen T) hr (by decide) pass0 (pa_cons (pv 0) pa_nil)) (pv 3) (nomark _)))))))))))) ?_
  rintro x y p q v wv b un hv bv hU bs hp
  obtain ⟨u1, u2, u3, u4⟩ := un
  have h12 := hU.le
  have mem : x ∈ [x, p] ∧ p ∈ [x, p] := ⟨by simp, by simp⟩
  have sB : ∀ b1 : Bst, Stb fun G H => BnAt K (ca 19) x p G H b1 ∧ SoAt K y q G H b := fun b1 G H G2 H2 h n => ⟨h.1.nx n, h.2.nx n⟩
  have st : ∀ {b1 b2 : Bst} (G H G2 H2 : Hp), (BnAt K (ca 19) x p G H b1 ∧ SoAt K y q G H b) → NxP [x, p] G H G2 H2 → BnAt K (ca 19) x p G2 H2 b2 → (BnAt K (ca 19) x p G2 H2 b2 ∧ SoAt K y q G2 H2 b) := fun G H G2 H2 h n h2 => ⟨h2, h.2.nxP n (by simp [Ne.symm u1, Ne.symm u3]) (by simp [Ne.symm u2, Ne.symm u4])⟩
  have s0 := py_seenP b
  have s1 := sh_seen hU
  have bj : Bq 1800 (jn b.speed v) := (bq_jn bs bv (sp_ne hU.sp hv.s)).mono (by decide)
  have sj : Sp (jn b.speed v) := sp_jn hU.sp hv.s
  have back : jn (jn b.speed v) (-v) = b.speed := jn_back hU.sp hv.s
  obtain ⟨pl, hpl⟩ := hU.pl
  generalize hb1 : (⟨b.haps, jn b.speed v, b.past ++ [(b.haps, b.speed)]⟩ : Bst) = b1
  generalize hb2 : (⟨b.haps, b.speed, (b.past ++ [(b.haps, b.speed)]) ++ [(b.haps, jn b.speed v)]⟩ : Bst) = b2
  generalize hb3 : (⟨b.haps, 0, ((b.past ++ [(b.haps, b.speed)]) ++ [(b.haps, jn b.speed v)]) ++ [(b.haps, b.speed)]⟩ : Bst) = b3
  have U2 : UbB b2 := by subst hb2; exact ⟨hU.hi, hU.le, hU.sp, hU.pl, hU.q⟩
  have U3 : UbB b3 := by subst hb3; exact ⟨hU.hi, hU.le, sp_zero, ⟨1, pl_zero⟩, bq_zero.mono (by decide)⟩
  have e2 : seenD b2 = seenD b := by subst hb2; exact seenD_eq rfl (fun _ _ => rfl) rfl
  have h3 : b3.haps = b.haps := by subst hb3; rfl
  refine br_seq (bn_asg (N := fun s => s = [.raw (.ref x), .raw (.ref y), .d (fq v), .d (seenD b), .no, .no]) (x := seenD b) (sB b) (eb_askN (sB b) (er_var rfl) (fun G H h => h.1.r) (eba_ev ea_nil) (by exact ⟨rfl, hU, rfl⟩)) rfl) ?_
  rintro s rfl
  refine br_seq (bn_deed (N := fun s => s = [.raw (.ref x), .raw (.ref y), .d (fq v), .d (seenD b), .no, .no]) (S2 := fun G H => BnAt K (ca 19) x p G H b1 ∧ SoAt K y q G H b) (b' := b1) (sB b) (fun G H h => h.1) rfl (by decide +kernel) (by decide +kernel) (by decide +kernel) (eba_ev (ea_cons (ev_var rfl) ea_nil)) (by exact ⟨v, wv, rfl, hv, bv.mono (by decide), hU.sp, ⟨1700, 67, bs, bv, by decide⟩, by omega, hb1.symm⟩) mem st rfl) ?_
  rintro s rfl
  refine br_seq (bn_deed (N := fun s => s = [.raw (.ref x), .raw (.ref y), .d (fq v), .d (seenD b), .no, .no]) (S2 := fun G H => BnAt K (ca 19) x p G H b2 ∧ SoAt K y q G H b) (b' := b2) (sB b1) (fun G H h => h.1) rfl (by decide +kernel) (by decide +kernel) (by decide +kernel) (eba_ev (ea_cons (ev_is (by walk_at "ev") (fq_neg0 v)) ea_nil)) (by
    subst hb1 hb2
    exact ⟨-v, wv, rfl, hv.neg, (bq_neg bv).mono (by decide), sj, ⟨1800, 67, bj, bq_neg bv, by decide⟩, by show (b.past ++ [_]).length ≤ 90000; rw [List.length_append, List.length_singleton]; omega, by show _ = (⟨b.haps, jn (jn b.speed v) (-v), _⟩ : Bst); rw [back]⟩) mem st rfl) ?_
  rintro s rfl
  refine br_no (sB b2) (ebt_test (eb_op (sB b2) (eb_is (eb_askN (sB b2) (er_var rfl) (fun G H h => h.1.r) (eba_ev ea_nil) (by exact ⟨rfl, U2, rfl⟩)) e2) (eb_ev (ev_var rfl)) (r2_neSelf rfl s0 s1))) ?_
  refine br_seq (bn_deed (N := fun s => s = [.raw (.ref x), .raw (.ref y), .d (fq v), .d (seenD b), .no, .no]) (S2 := fun G H => BnAt K (ca 19) x p G H b3 ∧ SoAt K y q G H b) (b' := b3) (sB b2) (fun G H h => h.1) rfl (by decide +kernel) (by decide +kernel) (by decide +kernel) (eba_ev (ea_cons (ev_is (by walk_at "ev") (show _ = fq 0 from rfl)) ea_nil)) (by
    subst hb2 hb3
    exact ⟨0, 1, rfl, pl_zero, bq_zero.mono (by decide), by show ((b.past ++ [_]) ++ [_]).length ≤ 90000; rw [List.length_append, List.length_append, List.length_singleton, List.length_singleton]; omega, rfl⟩) mem st rfl) ?_
  rintro s rfl
  obtain ⟨ph, hp1, hp2⟩ := py_hapsD (tsB b)
  have nm3 : namesD b3 = .lst ((nmsB b).map Dt.str) := by unfold namesD nmsB; rw [h3]
  have ln := nmsB_len b
  have tl := tsB_len b
  have item : ∀ {k : Nat} {d e : Dt}, ((nmsB b).map Dt.str)[k]? = some d → ((tsB b).map fun p => hapD p.1 p.2)[k]? = some e → ∃ n g, d = .str n ∧ e = hpD g ∧ n.length ≤ 90000 ∧ isNm (.str n) = true ∧ getH b.haps n = some g ∧ Bq 90 g.1 ∧ Bq 90 g.2 := fun {k d e} hd he => by
    rw [List.getElem?_map] at hd he
    obtain ⟨n, hn, rfl⟩ := Option.map_eq_some_iff.mp hd
    obtain ⟨g, hg, rfl⟩ := Option.map_eq_some_iff.mp he
    unfold tsB at hg
    rw [List.getElem?_map] at hg
    have hn' : (srtN (b.haps.map (·.1)))[k]? = some n := hn
    rw [hn'] at hg
    have hg := Option.some.inj hg
    obtain ⟨nm, v, hv⟩ := nmsB_mem hU (List.mem_of_getElem? hn)
    obtain ⟨ev, b1, b2⟩ := hapB_bq hU hv
    have n8 := (nm_small nm).1
    have hg : (getH b.haps n).getD (0, 0) = g := hg
    rw [hv] at hg
    have hg : v = g := hg
    subst hg
    exact ⟨n, v, rfl, rfl, by omega, nm, hv, b1, b2.mono (by decide)⟩
  refine br_no (sB b3) (ebt_test (eb_op (sB b3) (x := hapsD (tsB b)) (y := hapsD (tsB b)) ?_ ?_ (r2_neSelf rfl hp1 hp2))) ?_
  · refine eb_lcP (ds := (nmsB b).map Dt.str) (es := (tsB b).map fun p => hapD p.1 p.2) (by rw [List.length_map, List.length_map, tl, ln]) (sB b3) ?_ (by rw [List.length_map]; omega) (fun k d e hd he => ?_)
    · rw [← nm3]
      exact ebw_eb (ebw_mq wn1_ok (sB b3) (fun _ _ h => h.1.r) rfl (by decide +kernel) (by decide +kernel) (by decide +kernel) (eba_ev ea_nil) (by exact ⟨rfl, by rw [h3]; omega, rfl⟩))
    obtain ⟨n, g, rfl, rfl, l1, nm, hg, g1, g2⟩ := item hd he
    exact eb_is (eb_mq (sB b3) (fun _ _ h => h.1.r) rfl (by decide +kernel) (by decide +kernel) (by decide +kernel) (eba_ev (ea_cons (ev_var rfl) ea_nil)) (by
        subst hb3
        exact ⟨n, g, 1, rfl, l1, nm, hg, pl_zero, bq_zero.mono (by decide), g1, g2, rfl⟩)) (by rw [tell0])
  · refine eb_lcP (ds := (nmsB b).map Dt.str) (es := (tsB b).map fun p => hapD p.1 p.2) (by rw [List.length_map, List.length_map, tl, ln]) (sB b3) ?_ (by rw [List.length_map]; omega) (fun k d e hd he => ?_)
    · rw [← nm3]
      exact ebw_eb (ebw_mq wn1_ok (sB b3) (fun _ _ h => h.1.r) rfl (by decide +kernel) (by decide +kernel) (by decide +kernel) (eba_ev ea_nil) (by exact ⟨rfl, by rw [h3]; omega, rfl⟩))
    obtain ⟨n, g, rfl, rfl, l1, nm, hg, g1, g2⟩ := item hd he
    exact es_hget (sB b3) (fun _ _ h => h.2.r) rfl (eb_ev (ev_var rfl)) hg
  let bk : Nat → Bst := fun k => match k with
    | 0 => b3
    | 1 => b2
    | 2 => b1
    | _ => b
  refine br_seq (bn_forR (S := fun k G H => BnAt K (ca 19) x p G H (bk k) ∧ SoAt K y q G H b) (n := 3) (ea_cons ev_int ea_nil) (by decide) (sB b3) (fun k hk => ?_)) ?_
  · rcases (by omega : k = 0 ∨ k = 1 ∨ k = 2) with rfl | rfl | rfl
    · exact bn_deed (b' := b2) (sB b3) (fun G H h => h.1) rfl (by decide +kernel) (by decide +kernel) (by decide +kernel) (eba_ev ea_nil) (by subst hb3 hb2; exact ⟨rfl, _, _, _, rfl, rfl⟩) mem st (by walk_at "wk")
    · exact bn_deed (b' := b1) (sB b2) (fun G H h => h.1) rfl (by decide +kernel) (by decide +kernel) (by decide +kernel) (eba_ev ea_nil) (by subst hb2 hb1; exact ⟨rfl, _, _, _, rfl, rfl⟩) mem st (by walk_at "wk")
    · exact bn_deed (b' := b) (sB b1) (fun G H h => h.1) rfl (by decide +kernel) (by decide +kernel) (by decide +kernel) (eba_ev ea_nil) (by subst hb1; exact ⟨rfl, _, _, _, rfl, rfl⟩) mem st (by walk_at "wk")
  rintro s rfl
  exact br_ret (sB b) (eb_op (sB b) (eb_askN (sB b) (er_var rfl) (fun G H h => h.1.r) (eba_ev ea_nil) (by exact ⟨rfl, hU, rfl⟩)) (eb_ev (ev_var rfl)) (r2_eqSelf rfl s0 s1))
def R_law (ds : List Dt) (d : Dt) : Prop := ∃ ns : List Int, ds = [.lst (ns.map Dt.int)] ∧ ns.length ≤ 63 ∧ d = .bl true
theorem law_sp {K : PySem.W.Frag} {H : Hp} {a : Addr} {ns : List Int} {E : XK} (hl : ns.length ≤ 63) (hS : SqL K H a (ns.map V.int)) : spP K R_law [.ref a] H (fun v _ => v = .bl true) E :=
  ⟨_, _, H, Ex.refl H, .cons (.lst hS (rps_ints ns)) .nil, ⟨ns, rfl, hl, rfl⟩, fun v G2 H2 _ r => by
    cases r
    rfl⟩
theorem h_law (T : Txt K mg ca fa ka) {f : Addr} {fd : FuncData} (F : Fun K "law" "law" s_law f fd) : FnG P w K mg base CX0 13 f fd ["_law_script"] (spP K R_law) := by
  refine fn_pureG F sc_law (fun ds d h => by obtain ⟨x, rfl, _⟩ := h; rfl) (fun f cdv A outer s H E hg hr => (pss_cons (ps_for PassesOwn.never rfl (pi_range1 rfl T.m_range (pa_cons (pe_callB (cr_max rfl) (by rfl) T.m_max (by decide +kernel) (pa_cons pe_int (pa_cons (pe_callB (cr_min rfl) (by rfl) T.m_min (by decide +kernel) (pa_cons (pe_callB (lenK (K := K) rfl) (by rfl) T.m_len (by decide +kernel) (pa_cons (pv 0) pa_nil)) (pa_cons pe_int pa_nil))) pa_nil))) pa_nil)) (pg_name (i := 1) sc_law.nd rfl (Or.inl rfl)) (pss_cons (ps_set (i := 2) sc_law.nd rfl (Or.inl rfl) (pe_h (h__law_pot T) hr (by decide) pass0 (pa_cons (pe_h (h__law_cell_at T) hr (by decide) pass0 (pa_cons (pv 0) (pa_cons (pv 1) pa_nil))) pa_nil))) (pss_cons (ps_set (i := 3) sc_law.nd rfl (Or.inl rfl) (pe_mkB (h_Bench___init__ T) T.c_Bench hr (by decide))) (pss_cons (ps_set (i := 4) sc_law.nd rfl (Or.inl rfl) (pe_h0 (h__law_fresh T) hr (by decide) pass0)) (pss_cons (ps_par (i := 5) (j := 6) rfl sc_law.nd rfl rfl (by decide) rfl rfl (pa_cons (pe_lst (pa_cons (pe_h (h__law_seen T) hr (by decide) pass0 (pa_cons (pv 3) pa_nil)) pa_nil)) (pa_cons (pe_lst (pa_cons (pe_callB (call_reprG (K := K) rfl hg hr.units) (by rfl) T.m_repr (by decide +kernel) (pa_cons (pe_h (h__law_seen T) hr (by decide) pass0 (pa_cons (pv 3) pa_nil)) pa_nil)) pa_nil)) pa_nil)) (by rfl)) (pss_cons (ps_for PassesOwn.never rfl (pi_range1 rfl T.m_range (pa_cons (pe_op op_add pe_int (pe_h (h__law_take T) hr (by decide) pass0 (pa_cons (pv 2) (pa_cons pe_int pa_nil)))) pa_nil)) (pg_name (i := 7) sc_law.nd rfl (Or.inl rfl)) (pss_cons (ps_asg (pe_h (h__law_deed T) hr (by decide) pass0 (pa_cons (pv 2) pa_nil)) (tupK (K := K) (n := 2) rfl rfl (pgs_cons (pg_name (i := 8) sc_law.nd rfl (Or.inl rfl)) (pgs_cons (pg_name (i := 9) sc_law.nd rfl (Or.inl rfl)) pgs_nil)))) (pss_one (ps_if (pt_cmpR (neK (K := K) rfl hr.units) (pv 8) pe_str (nomark _)) (pss_cons (ps_if (pt_cmpR (neK (K := K) rfl hr.units) (pe_h (h__law_done T) hr (by decide) pass0 (pa_cons (pv 3) (pa_cons (pv 8) (pa_cons (pv 9) pa_nil)))) (pe_h (h__law_kept T) hr (by decide) pass0 (pa_cons (pv 4) (pa_cons (pv 8) (pa_cons (pv 9) pa_nil)))) (nomark _)) (pss_one (ps_ret pe_bl)) pss_nil) (pss_one (ps_if (pt_cmpR (eqK (K := K) rfl hr.units) (pe_callB (lenK (K := K) rfl) (by rfl) T.m_len (by decide +kernel) (pa_cons (pe_dget (lt64 hr.units) (pv 4) pe_str (fun _ _ => rfl)) pa_nil)) (pe_callB (lenK (K := K) rfl) (by rfl) T.m_len (by decide +kernel) (pa_cons (pv 5) pa_nil)) (nomark _)) (pss_cons (ps_expr (bmK (K := K) rfl (pe_bm PySem.F.plainAttrs_list PySem.F.slot_list_append PySem.F.type_list_append mt_append (pv 5) (pa_cons (pe_h (h__law_seen T) hr (by decide) pass0 (pa_cons (pv 3) pa_nil)) pa_nil)))) (pss_one (ps_expr (bmK (K := K) rfl (pe_bm PySem.F.plainAttrs_list PySem.F.slot_list_append PySem.F.type_list_append mt_append (pv 6) (pa_cons (pe_callB (call_reprG (K := K) rfl hg hr.units) (by rfl) T.m_repr (by decide +kernel) (pa_cons (pe_ix (ixK (K := K) rfl) (pv 5) (pe_un un_neg pe_int) (fun _ _ => rfl)) pa_nil)) pa_nil)))))) pss_nil))) pss_nil)))) (pss_cons (ps_if (PW.pt (pw_or (pt_not (pt_val (pe_h (h__law_stands_right T) hr (by decide) pass0 (pa_cons (pv 3) (pa_cons (pv 4) pa_nil))))) (pw_or1 (pt_not (pt_val (pe_h (h__law_turned_right T) hr (by decide) pass0 (pa_cons (pv 3) (pa_cons (pv 4) (pa_cons (pe_h (h__law_fast T) hr (by decide) pass0 (pa_cons (pv 2) pa_nil)) pa_nil))))))))) (pss_one (ps_ret pe_bl)) pss_nil) (pss_cons (ps_for PassesOwn.never rfl (lstK (K := K) rfl (revLK (K := K) rfl (pe_slice (slLK (K := K) rfl) (pv 5) po_none (po_some (pe_un un_neg pe_int))))) (pg_name (i := 10) sc_law.nd rfl (Or.inl rfl)) (pss_cons (ps_expr (pe_mh0 (h_Bench_undo T) T.cl_Bench hr (by decide) passL (pv 3) )) (pss_one (ps_if (pt_cmpR (neK (K := K) rfl hr.units) (pe_h (h__law_seen T) hr (by decide) pass0 (pa_cons (pv 3) pa_nil)) (pv 10) (nomark _)) (pss_one (ps_ret pe_bl)) pss_nil)))) (pss_cons (ps_if (PW.pt (pw_or (pt_cmpR (neK (K := K) rfl hr.units) (pe_h (h__law_done T) hr (by decide) pass0 (pa_cons (pv 3) (pa_cons pe_str (pa_cons (pe_lst pa_nil) pa_nil)))) pe_str (nomark _)) (pw_or1 (pt_cmpR (neK (K := K) rfl hr.units) (pe_h (h__law_seen T) hr (by decide) pass0 (pa_cons (pv 3) pa_nil)) (pe_h (h__law_seen T) hr (by decide) pass0 (pa_cons (pe_mkB (h_Bench___init__ T) T.c_Bench hr (by decide)) pa_nil)) (nomark _))))) (pss_one (ps_ret pe_bl)) pss_nil) (pss_one (ps_if (pt_cmpR (neK (K := K) rfl hr.units) (pe_lc (own := [("_law_one", 11)]) (g := gName 11) (tt := tYes) rfl sc_law.nd (lstK (K := K) rfl (pv 5)) (blkOk_by (own := [("_law_one", 11)]) (N := ["_law_script", "_law_number", "_law_pot_here", "_law_bench", "_law_state", "_law_stood", "_law_words", "_law_turn", "_law_word", "_law_told", "_law_seen_here", "_law_one"]) (sc := defScope s_law) (by decide +kernel)) (fun _ _ _ _ _ => pg_name (i := 11) sc_law.nd rfl (Or.inl rfl)) (fun _ _ _ _ _ => pts_nil) (fun _ _ _ _ _ => (pe_callB (call_reprG (K := K) rfl hg hr.units) (by rfl) T.m_repr (by decide +kernel) (pa_cons (pv 11) pa_nil)))) (pv 6) (nomark _)) (pss_one (ps_ret pe_bl)) pss_nil))))))))))) (pss_cons (ps_set (i := 3) sc_law.nd rfl (Or.inl rfl) (pe_mkB (h_Bench___init__ T) T.c_Bench hr (by decide))) (pss_cons (ps_for PassesOwn.never rfl (pi_range1 rfl T.m_range (pa_cons pe_int pa_nil)) (pg_name (i := 7) sc_law.nd rfl (Or.inl rfl)) (pss_one (ps_if (pt_cmpR op_notN1 (pe_h (h__law_done T) hr (by decide) pass0 (pa_cons (pv 3) (pa_cons pe_str (pa_cons (pe_lst (pa_cons (pe_ix (ixK (K := K) rfl) (pe_lst (pa_cons (pe_tup (pa_cons pe_int (pa_cons pe_int pa_nil))) (pa_cons (pe_tup (pa_cons pe_int (pa_cons pe_int pa_nil))) pa_nil))) (pe_op op_modN (pv 7) pe_int) (fun _ _ => rfl)) pa_nil)) pa_nil)))) pe_non (nomark _)) (pss_one (ps_ret pe_bl)) pss_nil))) (pss_cons (ps_for PassesOwn.never rfl (pi_range1 rfl T.m_range (pa_cons pe_int pa_nil)) (pg_name (i := 7) sc_law.nd rfl (Or.inl rfl)) (pss_one (ps_if (pt_cmpR op_notN1 (pe_h (h__law_done T) hr (by decide) pass0 (pa_cons (pv 3) (pa_cons pe_str (pa_cons (pe_lst pa_nil) pa_nil)))) pe_non (nomark _)) (pss_one (ps_ret pe_bl)) pss_nil))) (pss_one (ps_ret (pe_and (pe_cmpR (eqK (K := K) rfl hr.units) (pe_h (h__law_done T) hr (by decide) pass0 (pa_cons (pv 3) (pa_cons pe_str (pa_cons (pe_lst pa_nil) pa_nil)))) pe_str (nomark _)) (pe_one (pe_cmpR (eqK (K := K) rfl hr.units) (pe_h (h__law_seen T) hr (by decide) pass0 (pa_cons (pv 3) pa_nil)) (pe_h (h__law_seen T) hr (by decide) pass0 (pa_cons (pe_mkB (h_Bench___init__ T) T.c_Bench hr (by decide)) pa_nil)) (nomark _))))))))))) ?_
  rintro ds d ⟨ns, rfl, hns, rfl⟩
  have U0 : UbB ⟨[], 0, []⟩ := pi_zero.ub plb_zero (by decide)
  have s00 := py_seenP ⟨[], 0, []⟩
  have s01 := sh_seen U0
  have sT : ∀ {Z0 : Hp → Hp → Prop}, Stb Z0 → Stb fun G H => True ∧ Z0 G H := fun h G H G2 H2 z n => ⟨trivial, h _ _ _ _ z.2 n⟩
  refine rt_of_br (br_seq (us := []) (S1 := fun _ _ => True) (N := fun s => s = [.d (.lst (ns.map Dt.int)), .no, .no, .no, .no, .no, .no, .no, .no, .no, .no, .no]) (bn_forR (S := fun _ _ _ => True) (n := max 1 (min (ns.length : Int) 3)) (ea_cons (ev_is (ev_cb (ea_cons ev_int (ea_cons (ev_cb (ea_cons (ev_cb (ea_cons (ev_var rfl) ea_nil) rc_lenL) (ea_cons ev_int ea_nil)) rc_min) ea_nil)) rc_max) (by rw [List.length_map])) ea_nil) (by omega) (fun _ _ _ _ h _ => h) fun k hk => ?_) ?_)
  · refine bn_pot (us := []) (S := fun _ _ => True) (fun _ _ _ _ h _ => h) (fun G H h a ha => by cases ha) (by walk_at "ea") (by exact ⟨_, rfl⟩) fun pot _ => ?_
    have sP : Stb fun G H => True ∧ Pots [pot] G H := fun G H G2 H2 h n => ⟨trivial, h.2.nx n⟩
    have ppot : ∀ {G H : Hp}, Pots [pot] G H → H pot ≠ none := fun h => by
      obtain ⟨_, n, e⟩ := h _ (List.mem_singleton.mpr rfl)
      rw [e]
      intro z
      cases z
    refine bn_mkS (us := [pot]) (S := fun G H => True ∧ Pots [pot] G H) (F := fun x p G H => BnAt K (ca 19) x p G H ⟨[], 0, []⟩) fr_make sP (fun G H h a ha => by rw [List.mem_singleton.mp ha]; exact ppot h.2) fun x p hx hp nxp => ?_
    have sA : Stb fun G H => (True ∧ Pots [pot] G H) ∧ BnAt K (ca 19) x p G H ⟨[], 0, []⟩ := fun G H G2 H2 h n => ⟨sP _ _ _ _ h.1 n, h.2.nx n⟩
    refine bn_mkS (us := [x, p, pot]) (S := fun G H => (True ∧ Pots [pot] G H) ∧ BnAt K (ca 19) x p G H ⟨[], 0, []⟩) (F := fun y q G H => SoAt K y q G H ⟨[], 0, []⟩) fr_fresh sA (fun G H h a ha => ?_) fun y q hy hq nyq => ?_
    · simp only [List.mem_cons, List.not_mem_nil, or_false] at ha
      rcases ha with rfl | rfl | rfl
      · exact h.2.here.1
      · exact h.2.here.2
      · exact ppot h.1.2
    have sS : Stb fun G H => ((True ∧ Pots [pot] G H) ∧ BnAt K (ca 19) x p G H ⟨[], 0, []⟩) ∧ SoAt K y q G H ⟨[], 0, []⟩ := fun G H G2 H2 h n => ⟨sA _ _ _ _ h.1 n, h.2.nx n⟩
    refine bn_parL (us := [y, q, x, p, pot]) (d1 := seenD ⟨[], 0, []⟩) (d2 := textD ⟨[], 0, []⟩) (S := fun G H => ((True ∧ Pots [pot] G H) ∧ BnAt K (ca 19) x p G H ⟨[], 0, []⟩) ∧ SoAt K y q G H ⟨[], 0, []⟩) sS (fun G H h a ha => ?_) (eb_askN sS (er_var rfl) (fun G H h => h.1.2.r) (eba_ev ea_nil) (by exact ⟨rfl, U0, rfl⟩)) (eb_cb (eba_cons sS (eb_askN sS (er_var rfl) (fun G H h => h.1.2.r) (eba_ev ea_nil) (by exact ⟨rfl, U0, rfl⟩)) (eba_ev ea_nil)) (rc_seen U0)) fun l m hl hm nlm => ?_
    · simp only [List.mem_cons, List.not_mem_nil, or_false] at ha
      rcases ha with rfl | rfl | rfl | rfl | rfl
      · exact h.2.here.1
      · exact h.2.here.2
      · exact h.1.2.here.1
      · exact h.1.2.here.2
      · exact ppot h.1.1.2
    have u : [l, m, y, q, x, p, pot].Nodup := by
      simp only [List.mem_cons, List.not_mem_nil, or_false, not_or] at hx hp hy hq hl hm
      obtain ⟨l1, l2, l3, l4, l5⟩ := hl
      obtain ⟨m1, m2, m3, m4, m5⟩ := hm
      obtain ⟨y1, y2, y3⟩ := hy
      obtain ⟨q1, q2, q3⟩ := hq
      simp [nlm, l1, l2, l3, l4, l5, m1, m2, m3, m4, m5, nyq, y1, y2, y3, q1, q2, q3, nxp, hx, hp]
    have un : (x ≠ y ∧ x ≠ q ∧ p ≠ y ∧ p ≠ q) ∧ l ≠ m := by
      simp only [List.mem_cons, List.not_mem_nil, or_false, not_or] at hy hq
      exact ⟨⟨Ne.symm hy.1, Ne.symm hq.1, Ne.symm hy.2.1, Ne.symm hq.2.1⟩, nlm⟩
    obtain ⟨W5b, hW5⟩ : ∃ W5b : Bst → Bst → List Dt → List Dt → Hp → Hp → Prop, W5b = fun b c ds es G H => W5 K (ca 19) l m y q x p pot b c ds es G H := ⟨_, rfl⟩
    obtain ⟨W, hW⟩ : ∃ W : Nat → Hp → Hp → Prop, W = fun i G H => (∃ b : Bst, In83 i b ∧ W5 K (ca 19) l m y q x p pot b b (seens b) (texts b) G H) ∧ True := ⟨_, rfl⟩
    have mem : pot ∈ [pot] := by simp
    have sW : ∀ {b c : Bst} {ds es : List Dt}, Stb fun G H => W5 K (ca 19) l m y q x p pot b c ds es G H := fun {b c ds es} => stb_w5
    refine br_bn (S1 := fun G H => W5 K (ca 19) l m y q x p pot ⟨[], 0, []⟩ ⟨[], 0, []⟩ (seens ⟨[], 0, []⟩) (texts ⟨[], 0, []⟩) G H) (fun G H h => ⟨h.1.1.2, h.1.2, by rw [seens_last]; exact h.2.1, by rw [texts_last]; exact h.2.2, h.1.1.1.2⟩) ?_
    refine bn_seq (S1 := fun G H => (∃ b : Bst, In83 20 b ∧ W5 K (ca 19) l m y q x p pot b b (seens b) (texts b) G H) ∧ True) (bn_forEp (W := W) (M := 20) (ps := [pot]) (epa_cons (ep_op (ep_ev ev_int (ep_take rfl mem (ep_ev ev_int ⟨12, rfl, by decide, by decide, fun z z0 z1 => ⟨_, r2_add, epa_nil ?_⟩⟩))))) (by decide) (fun G H h => h.t) (fun G H G2 H2 h n m => ?_) (by simp) (fun i hi => ?_) (fun i hi G H h => ?_)) ?_
    · obtain ⟨n, rfl⟩ := Int.eq_ofNat_of_zero_le z0
      exact ⟨8 + n, rfl, by omega⟩
    · rw [hW]
      exact ⟨⟨⟨[], 0, []⟩, In83.zero, h.P u n m⟩, trivial⟩
    · refine br_bn (S1 := fun G H => (∃ b : Bst, In83 i b ∧ W5 K (ca 19) l m y q x p pot b b (seens b) (texts b) G H) ∧ True) (fun G H h => by rw [hW] at h; exact h) ?_
      refine bn_some (S := fun (b : Bst) G H => W5 K (ca 19) l m y q x p pot b b (seens b) (texts b) G H) (T := fun _ _ => True) fun b hb => ?_
      refine br_bn (S1 := fun G H => W5 K (ca 19) l m y q x p pot b b (seens b) (texts b) G H) (fun G H h => h.1) ?_
      refine bn_seq (M := fun s => ∃ de : Deed, DeedOk de ∧ s = [.d (.lst (ns.map Dt.int)), .d (.int k), .raw (.ref pot), .raw (.ref x), .raw (.ref y), .raw (.ref l), .raw (.ref m), .d (.int i), .d (.str de.w), .d (.lst de.t), .no, .no]) (S1 := fun G H => W5 K (ca 19) l m y q x p pot b b (seens b) (texts b) G H) (bn_ofIpW (ps := [pot]) (fun G H h => h.t) (fun G H G2 H2 h n m => h.P u n m) (by simp) (ip_unp1 (N := fun s => ∃ de : Deed, DeedOk de ∧ s = [.d (.lst (ns.map Dt.int)), .d (.int k), .raw (.ref pot), .raw (.ref x), .raw (.ref y), .raw (.ref l), .raw (.ref m), .d (.int i), .d (.str de.w), .d (.lst de.t), .no, .no]) (ep_callM rfl mem (epa_nil ⟨rfl, ?_⟩)))) ?_
      · rintro _ ⟨de, rfl, ok⟩
        exact ⟨_, _, rfl, de, ok, rfl⟩
      rintro s ⟨de, ok, rfl⟩
      have post : ∀ {b' : Bst}, In83 (i + 1) b' → ∀ G H, W5 K (ca 19) l m y q x p pot b' b' (seens b') (texts b') G H → W (i + 1) G H := fun {b'} h G H g => by
        rw [hW]
        exact ⟨⟨b', h, g⟩, trivial⟩
      have shw : SeqAt.shaped (.str de.w) = true := by
        have w1 : SeqAt.shaped (.str "put") = true := by decide +kernel
        have w2 : SeqAt.shaped (.str "drop") = true := by decide +kernel
        have w3 : SeqAt.shaped (.str "turn") = true := by decide +kernel
        have w4 : SeqAt.shaped (.str "push") = true := by decide +kernel
        have w5 : SeqAt.shaped (.str "undo") = true := by decide +kernel
        cases de <;> assumption
      refine bn_ifb sW (v := !(de.w == "undo")) (ebt_ev (et_test (ev_op (ev_var rfl) ev_str (r2_neS shw (by decide +kernel))))) (fun hv => ?_) (fun hv => bn_post (bn_next (S := fun G H => W5 K (ca 19) l m y q x p pot b b (seens b) (texts b) G H) (by walk_at "wk")) (post hb.up))
      have nu : de ≠ .undo := fun z => by rw [z] at hv; revert hv; decide +kernel
      obtain ⟨d, b', hd⟩ := done_ex (b := b) ok
      obtain ⟨pd, hpd, hsd⟩ := done_sh ok hd
      have sb := PI.sb hb.pi (by omega)
      obtain ⟨hb', hg⟩ := hb.step ok hd nu
      have U' := hb'.ub (by omega)
      have lp := hb.pi.le
      refine bn_seq (M := fun s => s = [.d (.lst (ns.map Dt.int)), .d (.int k), .raw (.ref pot), .raw (.ref x), .raw (.ref y), .raw (.ref l), .raw (.ref m), .d (.int i), .d (.str de.w), .d (.lst de.t), .no, .no]) (bn_opD (S1 := fun G H => W5 K (ca 19) l m y q x p pot b' b (seens b) (texts b) G H) (S2 := fun G H => W5 K (ca 19) l m y q x p pot b' b' (seens b) (texts b) G H)
        (ed_bnD (b' := b') sW (fun G H h => h.a) rfl (by walk_at "ea") (by exact ⟨de, rfl, ok, sb, hb.pi.now.le, hd⟩) (by simp) (fun G H G2 H2 h n h2 => h.A u n h2))
        (ed_stD (b' := b') sW (fun G H h => h.s) rfl (by walk_at "ea") (by exact ⟨de, rfl, ok, sb, hd⟩) (by simp) (fun G H G2 H2 h n h2 => h.S u n h2)) sW (r2_neSelf rfl hpd hsd) rfl) ?_
      rintro s rfl
      refine bn_ifb sW (v := ((b'.past.length : Int) == ((seens b).length : Int))) (ebt_test (eb_op sW (es_lenP (fun G H h => h.s.r) rfl) (eb_lenLs (fun G H h => h.l) rfl) r2_eqI)) (fun hv => ?_) (fun hv => ?_)
      · rcases hg with rfl | ⟨e1, e2, e3⟩
        · rw [seens_len] at hv
          have := eq_of_beq hv
          omega
        · refine bn_post (S2 := fun G H => W5 K (ca 19) l m y q x p pot b' b' (seens b') (texts b') G H) ?_ (post hb')
          refine bn_seq (S1 := fun G H => W5 K (ca 19) l m y q x p pot b' b' (seens b') (texts b) G H) (bn_appE (l := l) (ds := seens b) (d := seenD b') (N := fun s => s = [.d (.lst (ns.map Dt.int)), .d (.int k), .raw (.ref pot), .raw (.ref x), .raw (.ref y), .raw (.ref l), .raw (.ref m), .d (.int i), .d (.str de.w), .d (.lst de.t), .no, .no]) rfl sW (eb_askN sW (er_var rfl) (fun G H h => h.a.r) (eba_ev ea_nil) (by exact ⟨rfl, U', rfl⟩)) (fun G H h => h.l) (by rw [seens_len]; omega) (by simp) (fun G H G2 H2 h n h2 => by rw [e2]; exact h.L u n h2) rfl) ?_
          rintro s rfl
          refine bn_appE (l := m) (ds := texts b) (d := textD b') rfl sW (eb_view (l := l) (ds := seens b') (i := 5) rfl (fun G H h => h.l) (ev_cb (ea_cons (ev_op (ev_var rfl) (by walk_at "ev") (r2_ixL (x := seenD b') ?_)) ea_nil) (rc_seen U')) rfl) (fun G H h => h.m) (by rw [texts_len]; omega) (by simp) (fun G H G2 H2 h n h2 => by rw [e3]; exact h.M u n h2) (by walk_at "wk")
          have e9 := seens_last b'
          rw [atI_end (by rw [e9, List.length_append]; exact Nat.succ_pos _), e9, List.length_append, List.length_singleton, Nat.add_sub_cancel, List.getElem?_append_right (Nat.le_refl _), Nat.sub_self]
          rfl
      · rcases hg with rfl | ⟨e1, e2, e3⟩
        · exact bn_post (bn_next (S := fun G H => W5 K (ca 19) l m y q x p pot b' b' (seens b') (texts b') G H) (by walk_at "wk")) (post hb')
        · exfalso
          rw [seens_len, e1, List.length_append, List.length_singleton] at hv
          simp at hv
    · rw [hW] at h
      obtain ⟨⟨b, hb, g⟩, _⟩ := h
      exact ⟨⟨b, hb.mono hi, g⟩, trivial⟩
    rintro s rfl
    refine br_bn (S1 := fun G H => (∃ b : Bst, In83 20 b ∧ W5 K (ca 19) l m y q x p pot b b (seens b) (texts b) G H) ∧ True) (fun G H h => h) ?_
    refine bn_some (S := fun (b : Bst) G H => W5 K (ca 19) l m y q x p pot b b (seens b) (texts b) G H) (T := fun _ _ => True) fun b hb => ?_
    refine br_bn (S1 := fun G H => W5 K (ca 19) l m y q x p pot b b (seens b) (texts b) G H) (fun G H h => h.1) ?_
    have U := hb.ub (by decide)
    have lp := hb.pi.le
    refine bn_post (S2 := fun G H => W5 K (ca 19) l m y q x p pot ⟨[], 0, []⟩ b (seens b) (texts b) G H) ?_ (fun _ _ _ => trivial)
    refine bn_seq (M := fun s => s = [.d (.lst (ns.map Dt.int)), .d (.int k), .raw (.ref pot), .raw (.ref x), .raw (.ref y), .raw (.ref l), .raw (.ref m), .no, .no, .no, .no, .no]) (S1 := fun G H => W5 K (ca 19) l m y q x p pot b b (seens b) (texts b) G H) (bn_notor (eb_rs (q := q) rfl rfl (fun G H h => h.a.r) (fun G H h => h.s) U hb.nd) sW (ed_trP (x := x) (p := p) (y := y) (q := q) (pot := pot) rfl rfl (ep_callM rfl mem (epa_nil ⟨rfl, fun d hd => hd⟩)) (fun G H h => h.t) (fun G H G2 H2 h n m => h.P u n m) (fun G H h => h.a) (fun G H h => h.s) un.1 U (hb.q (by decide)) (by omega) (by simp) (fun G H G2 H2 h n h2 => h.A u n h2)) rfl) ?_
    rintro s rfl
    have lz : ((b.past.map fun e => seenD (stP e)).reverse).length = b.past.length := by rw [List.length_reverse, List.length_map]
    refine bn_seq (M := fun s => ∃ s7, s = [.d (.lst (ns.map Dt.int)), .d (.int k), .raw (.ref pot), .raw (.ref x), .raw (.ref y), .raw (.ref l), .raw (.ref m), .no, .no, .no, s7, .no]) (S1 := fun G H => W5 K (ca 19) l m y q x p pot (bk b 0) b (seens b) (texts b) G H) (br_bn (S1 := fun G H => W5 K (ca 19) l m y q x p pot (bk b (b.past.length - 0)) b (seens b) (texts b) G H) (fun G H h => by rw [Nat.sub_zero, bk_top]; exact h) (bn_post (bn_forD (W := fun i G H => W5 K (ca 19) l m y q x p pot (bk b (b.past.length - i)) b (seens b) (texts b) G H) (I := fun _ s => ∃ s7, s = [.d (.lst (ns.map Dt.int)), .d (.int k), .raw (.ref pot), .raw (.ref x), .raw (.ref y), .raw (.ref l), .raw (.ref m), .no, .no, .no, s7, .no]) (as := (b.past.map fun e => seenD (stP e)).reverse) sW ?_ (by rw [lz]; omega) ⟨_, rfl⟩ fun i d s hd hs => ?_) (fun G H h => by rw [lz, Nat.sub_self] at h; exact h))) ?_
    · exact eb_revL (eb_cut (l := l) (d := seenD b) rfl (fun G H h => by have := h.l; rw [seens_last] at this; exact this) (by walk_at "ev") sW)
    · obtain ⟨s7, rfl⟩ := hs
      have hi : i < b.past.length := by
        have := (List.getElem?_eq_some_iff.mp hd).1
        rwa [lz] at this
      obtain ⟨j, hj⟩ : ∃ j, b.past.length - i = j + 1 := ⟨b.past.length - i - 1, by omega⟩
      have hj2 : b.past.length - (i + 1) = j := by omega
      have hjl : j < b.past.length := by omega
      have ed : d = seenD (bk b j) := by
        rw [bk_seen hjl]
        have h1 : i < (b.past.map fun e => seenD (stP e)).length := by rw [List.length_map]; exact hi
        rw [List.getElem?_reverse h1, List.getElem?_map] at hd
        have e3 : (b.past.map fun e => seenD (stP e)).length - 1 - i = j := by rw [List.length_map]; omega
        rw [e3, List.getElem?_eq_getElem hjl] at hd
        exact (Option.some.inj hd).symm
      subst ed
      have Uj := bk_ub hb (by decide) (Nat.le_of_lt hjl)
      rw [hj, hj2]
      refine bn_seq (M := fun s => s = [.d (.lst (ns.map Dt.int)), .d (.int k), .raw (.ref pot), .raw (.ref x), .raw (.ref y), .raw (.ref l), .raw (.ref m), .no, .no, .no, .d (seenD (bk b j)), .no]) (S1 := fun G H => W5 K (ca 19) l m y q x p pot (bk b j) b (seens b) (texts b) G H) (bn_deed (b' := bk b j) sW (fun G H h => h.a) rfl (by decide +kernel) (by decide +kernel) (by decide +kernel) (eba_ev ea_nil) (by exact ⟨rfl, _, _, _, bk_past hjl, rfl⟩) (by simp) (fun G H G2 H2 h n h2 => h.A u n h2) rfl) ?_
      rintro s rfl
      exact bn_no sW (ebt_test (eb_op sW (eb_askN sW (er_var rfl) (fun G H h => h.a.r) (eba_ev ea_nil) (by exact ⟨rfl, Uj, rfl⟩)) (eb_ev (ev_var rfl)) (r2_neSelf rfl (py_seenP _) (sh_seen Uj)))) ⟨_, rfl⟩
    rintro s ⟨s7, rfl⟩
    rw [bk_zero hb]
    refine bn_seq (M := fun s => s = [.d (.lst (ns.map Dt.int)), .d (.int k), .raw (.ref pot), .raw (.ref x), .raw (.ref y), .raw (.ref l), .raw (.ref m), .no, .no, .no, s7, .no]) (S1 := fun G H => W5 K (ca 19) l m y q x p pot ⟨[], 0, []⟩ b (seens b) (texts b) G H) (bn_or2N (ed_bnD (b' := ⟨[], 0, []⟩) sW (fun G H h => h.a) rfl (by walk_at "ea") (by exact ⟨.undo, rfl, trivial, ⟨by show 0 ≤ 90000; omega, by show 0 ≤ 90000; omega, sp_zero, bq_zero.mono (by decide)⟩, by show 0 ≤ 12; omega, undo_none rfl⟩) (by simp) (fun G H G2 H2 h n h2 => h.A u n h2)) ev_str (r2_neSelf rfl rfl (by decide +kernel)) sW (ed_eb sW (eb_askN sW (er_var rfl) (fun G H h => h.a.r) (eba_ev ea_nil) (by exact ⟨rfl, U0, rfl⟩))) (ev_ofEb (eb_askF fr_make (by exact ⟨rfl, U0, rfl⟩))) (r2_neSelf rfl s00 s01) sW rfl) ?_
    rintro s rfl
    obtain ⟨pt, pt1, pt2⟩ := py_texts hb (by decide)
    have lw : (seens b).length = (allB b).length := List.length_map ..
    refine bn_no sW (ebt_view2 (i := 5) (j := 6) (by decide) un.2 rfl rfl (fun G H h => h.l) (fun G H h => h.m) (et_test (ev_op (x := .lst (texts b)) ?_ (ev_var rfl) (r2_neSelf rfl pt1 pt2)))) (by walk_at "wk")
    refine ev_lcP (ds := seens b) (es := texts b) (by unfold seens texts; rw [List.length_map, List.length_map]) (ev_var rfl) (by rw [seens_len]; omega) (fun i d e hd he => ?_)
    unfold seens at hd
    unfold texts at he
    rw [List.getElem?_map] at hd he
    obtain ⟨g, hg, rfl⟩ := Option.map_eq_some_iff.mp hd
    rw [hg] at he
    cases he
    exact ev_cb (ea_cons (ev_var rfl) ea_nil) (rc_seen (hb.uba (by decide) (List.mem_of_getElem? hg)))
  rintro s rfl
  refine br_frM (us := []) (S := fun _ _ => True) (F := fun x p G H => BnAt K (ca 19) x p G H ⟨[], 0, []⟩) fr_make (fun _ _ _ _ h _ => h) fun x p _ nxp => ?_
  have mem : x ∈ [x, p] ∧ p ∈ [x, p] := ⟨by simp, by simp⟩
  have sB : ∀ {b : Bst}, Stb fun G H => BnAt K (ca 19) x p G H b := fun {b} => stb_bn
  refine br_w (S1 := fun G H => BnAt K (ca 19) x p G H (b300 0)) ?_ (fun G H h => h.2)
  refine br_seq (S1 := fun G H => BnAt K (ca 19) x p G H (b300 300)) (bn_forR (S := fun i G H => BnAt K (ca 19) x p G H (b300 i)) (n := 300) (ea_cons ev_int ea_nil) (by decide) sB fun i hi => ?_) ?_
  · have hi : i < 300 := by omega
    have hix : atI [fq v35, fq 0] (((i : Nat) : Int).fmod 2) = some (fq (at3 (i + 1))) := by
      unfold at3
      have ef : ((i : Nat) : Int).fmod 2 = ((i % 2 : Nat) : Int) := by
        rw [Int.fmod_eq_emod_of_nonneg _ (by decide)]
        rfl
      rw [ef]
      rcases (by omega : i % 2 = 0 ∨ i % 2 = 1) with z | z
      · rw [z, if_pos (by omega)]
        rfl
      · rw [z, if_neg (by omega)]
        rfl
    obtain ⟨w3, hw3⟩ := at3_pl (i + 1)
    exact bn_opD (S1 := fun G H => BnAt K (ca 19) x p G H (b300 (i + 1))) (ed_bnD (b' := b300 (i + 1)) sB (fun G H h => h) rfl (ea_cons ev_str (ea_cons (ev_lst (ea_cons (ev_is (x := fq (at3 (i + 1))) (ev_op (ev_lst (ea_cons (ev_is (by walk_at "ev") (show _ = fq v35 from rfl)) (ea_cons (ev_is (by walk_at "ev") (show _ = fq 0 from rfl)) ea_nil))) (ev_op (ev_var rfl) ev_int (r2_mod (by decide))) (r2_ixL hix)) rfl) ea_nil)) ea_nil)) (by exact ⟨.turn (fq (at3 (i + 1))), rfl, spd_of hw3.s (at3_bq _), b300_sp i (by omega), by show 0 ≤ 12; omega, turn_done i⟩) mem (fun G H G2 H2 h n h2 => h2)) (ed_eb sB (eb_ev ev_non)) sB r2_notN (by walk_at "wk")
  rintro s rfl
  refine br_seq (S1 := fun G H => BnAt K (ca 19) x p G H (b300 0)) (br_bn (S1 := fun G H => BnAt K (ca 19) x p G H (b300 (300 - 0))) (fun G H h => h) (bn_forR (S := fun i G H => BnAt K (ca 19) x p G H (b300 (300 - i))) (n := 300) (ea_cons ev_int ea_nil) (by decide) sB fun i hi => ?_)) ?_
  · have hi : i < 300 := by omega
    obtain ⟨j, hj⟩ : ∃ j, 300 - i = j + 1 := ⟨300 - i - 1, by omega⟩
    have hj2 : 300 - (i + 1) = j := by omega
    rw [hj, hj2]
    exact bn_opD (S1 := fun G H => BnAt K (ca 19) x p G H (b300 j)) (ed_bnD (b' := b300 j) sB (fun G H h => h) rfl (by walk_at "ea") (by exact ⟨.undo, rfl, trivial, b300_sp (j + 1) (by omega), by show 0 ≤ 12; omega, back_done j⟩) mem (fun G H G2 H2 h n h2 => h2)) (ed_eb sB (eb_ev ev_non)) sB r2_notN (by walk_at "wk")
  rintro s rfl
  refine br_w2 (S2 := fun G H => BnAt K (ca 19) x p G H (b300 0)) (br_retE (ed_and (S1 := fun G H => BnAt K (ca 19) x p G H (b300 0)) (ed_op (x := .str "deed") (y := .str "deed") (ed_bnD (b' := b300 0) sB (fun G H h => h) rfl (by walk_at "ea") (by exact ⟨.undo, rfl, trivial, b300_sp 0 (by omega), by show 0 ≤ 12; omega, undo_none rfl⟩) mem (fun G H G2 H2 h n h2 => h2)) sB ev_str (r2_eqSelf rfl rfl (by decide +kernel))) (ed_eb sB (eb_op sB (eb_askN sB (er_var rfl) (fun G H h => h.r) (eba_ev ea_nil) (by exact ⟨rfl, U0, rfl⟩)) (eb_ev (ev_ofEb (eb_askF fr_make (by exact ⟨rfl, U0, rfl⟩)))) (r2_eqSelf rfl s00 s01))))) (fun _ _ _ => trivial)
end
theorem all_mk {l : PySem.W.OpenLaw} {w : World} {K : PySem.W.Frag} {h : Heap} {mg : Str → Option Value} {fa : Addr} (X : K.In h) (G : h.Ns mainGlobals mg) (hfa : mg "law" = some (.ref fa)) (c : SaysZ FAZ FNZ TSZ EXZ w K) : ∃ fd : FuncData, (∀ (s : Shared) (v : Value), BindsTo s fd ⟨[v], []⟩ [("_law_script", v)]) ∧ ∀ base : Heap, K.In base → base.Ns mainGlobals mg → FnG l.prog w K mg base CX0 13 fa fd ["_law_script"] (spP K R_law) := by
  have cd := c.t.d
  have ce := c.e
  obtain ⟨fd0, E0⟩ := cd.def_ 0 (d := D_is_whole) rfl
  have F0 : Fun K "is_whole" "is_whole" s_is_whole (He.ga K "is_whole") fd0 := fun_D E0
  have b0 := F0.binds (ps := ["thing"]) fun _ _ _ _ _ _ us hl => match us, hl with | [_], _ => rfl
  obtain ⟨fd1, E1⟩ := cd.def_ 1 (d := D_is_fraction) rfl
  have F1 : Fun K "is_fraction" "is_fraction" s_is_fraction (He.ga K "is_fraction") fd1 := fun_D E1
  have b1 := F1.binds (ps := ["thing"]) fun _ _ _ _ _ _ us hl => match us, hl with | [_], _ => rfl
  obtain ⟨fd2, E2⟩ := cd.def_ 2 (d := D_fraction) rfl
  have F2 : Fun K "fraction" "fraction" s_fraction (He.ga K "fraction") fd2 := fun_D E2
  have b2 := F2.binds (ps := ["top", "bottom"]) fun _ _ _ _ _ _ us hl => match us, hl with | [_, _], _ => rfl
  obtain ⟨fd3, E3⟩ := cd.def_ 3 (d := D_plus) rfl
  have F3 : Fun K "plus" "plus" s_plus (He.ga K "plus") fd3 := fun_D E3
  have b3 := F3.binds (ps := ["one", "other"]) fun _ _ _ _ _ _ us hl => match us, hl with | [_, _], _ => rfl
  obtain ⟨fd4, E4⟩ := cd.def_ 4 (d := D_less) rfl
  have F4 : Fun K "less" "less" s_less (He.ga K "less") fd4 := fun_D E4
  have b4 := F4.binds (ps := ["one", "other"]) fun _ _ _ _ _ _ us hl => match us, hl with | [_, _], _ => rfl
  obtain ⟨fd5, E5⟩ := cd.def_ 5 (d := D_times) rfl
  have F5 : Fun K "times" "times" s_times (He.ga K "times") fd5 := fun_D E5
  have b5 := F5.binds (ps := ["one", "other"]) fun _ _ _ _ _ _ us hl => match us, hl with | [_, _], _ => rfl
  obtain ⟨fd6, E6⟩ := cd.def_ 6 (d := D_by) rfl
  have F6 : Fun K "by" "by" s_by (He.ga K "by") fd6 := fun_D E6
  have b6 := F6.binds (ps := ["one", "other"]) fun _ _ _ _ _ _ us hl => match us, hl with | [_, _], _ => rfl
  obtain ⟨fd7, E7⟩ := cd.def_ 7 (d := D_is_less) rfl
  have F7 : Fun K "is_less" "is_less" s_is_less (He.ga K "is_less") fd7 := fun_D E7
  have b7 := F7.binds (ps := ["one", "other"]) fun _ _ _ _ _ _ us hl => match us, hl with | [_, _], _ => rfl
  obtain ⟨fd8, E8⟩ := cd.def_ 8 (d := D_rising) rfl
  have F8 : Fun K "rising" "rising" s_rising (He.ga K "rising") fd8 := fun_D E8
  have b8 := F8.binds (ps := ["ones"]) fun _ _ _ _ _ _ us hl => match us, hl with | [_], _ => rfl
  obtain ⟨fd9, E9⟩ := cd.def_ 9 (d := D_root_of) rfl
  have F9 : Fun K "root_of" "root_of" s_root_of (He.ga K "root_of") fd9 := fun_D E9
  have b9 := F9.binds (ps := ["one"]) fun _ _ _ _ _ _ us hl => match us, hl with | [_], _ => rfl
  obtain ⟨fd10, E10⟩ := cd.def_ 10 (d := D_is_hap) rfl
  have F10 : Fun K "is_hap" "is_hap" s_is_hap (He.ga K "is_hap") fd10 := fun_D E10
  have b10 := F10.binds (ps := ["thing"]) fun _ _ _ _ _ _ us hl => match us, hl with | [_], _ => rfl
  obtain ⟨fd11, E11⟩ := cd.def_ 11 (d := D_are_haps) rfl
  have F11 : Fun K "are_haps" "are_haps" s_are_haps (He.ga K "are_haps") fd11 := fun_D E11
  have b11 := F11.binds (ps := ["thing", "most"]) fun _ _ _ _ _ _ us hl => match us, hl with | [_, _], _ => rfl
  obtain ⟨fd12, E12⟩ := cd.def_ 12 (d := D_check_haps) rfl
  have F12 : Fun K "check_haps" "check_haps" s_check_haps (He.ga K "check_haps") fd12 := fun_D E12
  have b12 := F12.binds (ps := ["thing", "most"]) fun _ _ _ _ _ _ us hl => match us, hl with | [_, _], _ => rfl
  obtain ⟨fd13, E13⟩ := cd.def_ 13 (d := D_is_speed) rfl
  have F13 : Fun K "is_speed" "is_speed" s_is_speed (He.ga K "is_speed") fd13 := fun_D E13
  have b13 := F13.binds (ps := ["thing"]) fun _ _ _ _ _ _ us hl => match us, hl with | [_], _ => rfl
  obtain ⟨fd14, E14⟩ := cd.def_ 14 (d := D_check_speed) rfl
  have F14 : Fun K "check_speed" "check_speed" s_check_speed (He.ga K "check_speed") fd14 := fun_D E14
  have b14 := F14.binds (ps := ["thing"]) fun _ _ _ _ _ _ us hl => match us, hl with | [_], _ => rfl
  obtain ⟨fd15, E15⟩ := cd.def_ 15 (d := D_together) rfl
  have F15 : Fun K "together" "together" s_together (He.ga K "together") fd15 := fun_D E15
  have b15 := F15.binds (ps := ["one", "other"]) fun _ _ _ _ _ _ us hl => match us, hl with | [_, _], _ => rfl
  obtain ⟨fd16, E16⟩ := cd.def_ 16 (d := D_beat_or_none) rfl
  have F16 : Fun K "beat_or_none" "beat_or_none" s_beat_or_none (He.ga K "beat_or_none") fd16 := fun_D E16
  have b16 := F16.binds (ps := ["speed"]) fun _ _ _ _ _ _ us hl => match us, hl with | [_], _ => rfl
  obtain ⟨fd17, E17⟩ := cd.def_ 17 (d := D_is_plain) rfl
  have F17 : Fun K "is_plain" "is_plain" s_is_plain (He.ga K "is_plain") fd17 := fun_D E17
  have b17 := F17.binds (ps := ["speed"]) fun _ _ _ _ _ _ us hl => match us, hl with | [_], _ => rfl
  obtain ⟨fd18, E18⟩ := cd.def_ 18 (d := D_check_plain) rfl
  have F18 : Fun K "check_plain" "check_plain" s_check_plain (He.ga K "check_plain") fd18 := fun_D E18
  have b18 := F18.binds (ps := ["speed"]) fun _ _ _ _ _ _ us hl => match us, hl with | [_], _ => rfl
  obtain ⟨fd19, E19⟩ := cd.def_ 19 (d := D_beat_of) rfl
  have F19 : Fun K "beat_of" "beat_of" s_beat_of (He.ga K "beat_of") fd19 := fun_D E19
  have b19 := F19.binds (ps := ["speed"]) fun _ _ _ _ _ _ us hl => match us, hl with | [_], _ => rfl
  obtain ⟨fd20, E20⟩ := cd.def_ 20 (d := D_lapse_and_gap) rfl
  have F20 : Fun K "lapse_and_gap" "lapse_and_gap" s_lapse_and_gap (He.ga K "lapse_and_gap") fd20 := fun_D E20
  have b20 := F20.binds (ps := ["one", "other"]) fun _ _ _ _ _ _ us hl => match us, hl with | [_, _], _ => rfl
  obtain ⟨fd21, E21⟩ := cd.def_ 21 (d := D_kind_of) rfl
  have F21 : Fun K "kind_of" "kind_of" s_kind_of (He.ga K "kind_of") fd21 := fun_D E21
  have b21 := F21.binds (ps := ["one", "other"]) fun _ _ _ _ _ _ us hl => match us, hl with | [_, _], _ => rfl
  obtain ⟨fd22, E22⟩ := cd.def_ 22 (d := D_standing) rfl
  have F22 : Fun K "standing" "standing" s_standing (He.ga K "standing") fd22 := fun_D E22
  have b22 := F22.binds (ps := ["haps", "speed"]) fun _ _ _ _ _ _ us hl => match us, hl with | [_, _], _ => rfl
  obtain ⟨fd23, E23⟩ := cd.def_ 23 (d := D_order_at) rfl
  have F23 : Fun K "order_at" "order_at" s_order_at (He.ga K "order_at") fd23 := fun_D E23
  have b23 := F23.binds (ps := ["haps", "speed"]) fun _ _ _ _ _ _ us hl => match us, hl with | [_, _], _ => rfl
  obtain ⟨fd24, E24⟩ := cd.def_ 24 (d := D_is_seat) rfl
  have F24 : Fun K "is_seat" "is_seat" s_is_seat (He.ga K "is_seat") fd24 := fun_D E24
  have b24 := F24.binds (ps := ["thing"]) fun _ _ _ _ _ _ us hl => match us, hl with | [_], _ => rfl
  obtain ⟨fd25, E25⟩ := cd.def_ 25 (d := D_check_seat) rfl
  have F25 : Fun K "check_seat" "check_seat" s_check_seat (He.ga K "check_seat") fd25 := fun_D E25
  have b25 := F25.binds (ps := ["thing"]) fun _ _ _ _ _ _ us hl => match us, hl with | [_], _ => rfl
  obtain ⟨fd26, E26⟩ := cd.def_ 26 (d := D_check_hap) rfl
  have F26 : Fun K "check_hap" "check_hap" s_check_hap (He.ga K "check_hap") fd26 := fun_D E26
  have b26 := F26.binds (ps := ["thing"]) fun _ _ _ _ _ _ us hl => match us, hl with | [_], _ => rfl
  obtain ⟨fd27, E27⟩ := cd.def_ 27 (d := D_seen_from) rfl
  have F27 : Fun K "seen_from" "seen_from" s_seen_from (He.ga K "seen_from") fd27 := fun_D E27
  have b27 := F27.binds (ps := ["speed", "lapse", "gap"]) fun _ _ _ _ _ _ us hl => match us, hl with | [_, _, _], _ => rfl
  obtain ⟨fd28, E28⟩ := cd.def_ 28 (d := D_told_from) rfl
  have F28 : Fun K "told_from" "told_from" s_told_from (He.ga K "told_from") fd28 := fun_D E28
  have b28 := F28.binds (ps := ["seat", "hap"]) fun _ _ _ _ _ _ us hl => match us, hl with | [_, _], _ => rfl
  obtain ⟨fd29, E29⟩ := cd.def_ 29 (d := D_is_name) rfl
  have F29 : Fun K "is_name" "is_name" s_is_name (He.ga K "is_name") fd29 := fun_D E29
  have b29 := F29.binds (ps := ["thing"]) fun _ _ _ _ _ _ us hl => match us, hl with | [_], _ => rfl
  obtain ⟨fd30, E30⟩ := cd.def_ 30 (d := D_Bench___init__) rfl
  have F30 : Fun K "__init__" "Bench.__init__" s_Bench___init__ (He.ma K (He.ga K "Bench") "__init__") fd30 := fun_D E30
  have b30 := F30.binds (ps := ["self"]) fun _ _ _ _ _ _ us hl => match us, hl with | [_], _ => rfl
  obtain ⟨fd31, E31⟩ := cd.def_ 31 (d := D_Bench__do) rfl
  have F31 : Fun K "_do" "Bench._do" s_Bench__do (He.ma K (He.ga K "Bench") "_do") fd31 := fun_D E31
  have b31 := F31.binds (ps := ["self", "haps", "speed"]) fun _ _ _ _ _ _ us hl => match us, hl with | [_, _, _], _ => rfl
  obtain ⟨fd32, E32⟩ := cd.def_ 32 (d := D_Bench_put) rfl
  have F32 : Fun K "put" "Bench.put" s_Bench_put (He.ma K (He.ga K "Bench") "put") fd32 := fun_D E32
  have b32 := F32.binds (ps := ["self", "name", "hap"]) fun _ _ _ _ _ _ us hl => match us, hl with | [_, _, _], _ => rfl
  obtain ⟨fd33, E33⟩ := cd.def_ 33 (d := D_Bench__hap_of) rfl
  have F33 : Fun K "_hap_of" "Bench._hap_of" s_Bench__hap_of (He.ma K (He.ga K "Bench") "_hap_of") fd33 := fun_D E33
  have b33 := F33.binds (ps := ["self", "name"]) fun _ _ _ _ _ _ us hl => match us, hl with | [_, _], _ => rfl
  obtain ⟨fd34, E34⟩ := cd.def_ 34 (d := D_Bench_drop) rfl
  have F34 : Fun K "drop" "Bench.drop" s_Bench_drop (He.ma K (He.ga K "Bench") "drop") fd34 := fun_D E34
  have b34 := F34.binds (ps := ["self", "name"]) fun _ _ _ _ _ _ us hl => match us, hl with | [_, _], _ => rfl
  obtain ⟨fd35, E35⟩ := cd.def_ 35 (d := D_Bench_turn) rfl
  have F35 : Fun K "turn" "Bench.turn" s_Bench_turn (He.ma K (He.ga K "Bench") "turn") fd35 := fun_D E35
  have b35 := F35.binds (ps := ["self", "speed"]) fun _ _ _ _ _ _ us hl => match us, hl with | [_, _], _ => rfl
  obtain ⟨fd36, E36⟩ := cd.def_ 36 (d := D_Bench_push) rfl
  have F36 : Fun K "push" "Bench.push" s_Bench_push (He.ma K (He.ga K "Bench") "push") fd36 := fun_D E36
  have b36 := F36.binds (ps := ["self", "speed"]) fun _ _ _ _ _ _ us hl => match us, hl with | [_, _], _ => rfl
  obtain ⟨fd37, E37⟩ := cd.def_ 37 (d := D_Bench_undo) rfl
  have F37 : Fun K "undo" "Bench.undo" s_Bench_undo (He.ma K (He.ga K "Bench") "undo") fd37 := fun_D E37
  have b37 := F37.binds (ps := ["self"]) fun _ _ _ _ _ _ us hl => match us, hl with | [_], _ => rfl
  obtain ⟨fd38, E38⟩ := cd.def_ 38 (d := D_Bench_names) rfl
  have F38 : Fun K "names" "Bench.names" s_Bench_names (He.ma K (He.ga K "Bench") "names") fd38 := fun_D E38
  have b38 := F38.binds (ps := ["self"]) fun _ _ _ _ _ _ us hl => match us, hl with | [_], _ => rfl
  obtain ⟨fd39, E39⟩ := cd.def_ 39 (d := D_Bench_speed) rfl
  have F39 : Fun K "speed" "Bench.speed" s_Bench_speed (He.ma K (He.ga K "Bench") "speed") fd39 := fun_D E39
  have b39 := F39.binds (ps := ["self"]) fun _ _ _ _ _ _ us hl => match us, hl with | [_], _ => rfl
  obtain ⟨fd40, E40⟩ := cd.def_ 40 (d := D_Bench_tell) rfl
  have F40 : Fun K "tell" "Bench.tell" s_Bench_tell (He.ma K (He.ga K "Bench") "tell") fd40 := fun_D E40
  have b40 := F40.binds (ps := ["self", "name"]) fun _ _ _ _ _ _ us hl => match us, hl with | [_, _], _ => rfl
  obtain ⟨fd41, E41⟩ := cd.def_ 41 (d := D_Bench_order) rfl
  have F41 : Fun K "order" "Bench.order" s_Bench_order (He.ma K (He.ga K "Bench") "order") fd41 := fun_D E41
  have b41 := F41.binds (ps := ["self"]) fun _ _ _ _ _ _ us hl => match us, hl with | [_], _ => rfl
  obtain ⟨fd42, E42⟩ := cd.def_ 42 (d := D_Bench_kind) rfl
  have F42 : Fun K "kind" "Bench.kind" s_Bench_kind (He.ma K (He.ga K "Bench") "kind") fd42 := fun_D E42
  have b42 := F42.binds (ps := ["self", "one", "other"]) fun _ _ _ _ _ _ us hl => match us, hl with | [_, _, _], _ => rfl
  obtain ⟨fd43, E43⟩ := cd.def_ 43 (d := D__law_cell_at) rfl
  have F43 : Fun K "_law_cell_at" "_law_cell_at" s__law_cell_at (He.ga K "_law_cell_at") fd43 := fun_D E43
  have b43 := F43.binds (ps := ["_law_script", "_law_k"]) fun _ _ _ _ _ _ us hl => match us, hl with | [_, _], _ => rfl
  obtain ⟨fd44, E44⟩ := cd.def_ 44 (d := D__law_pot) rfl
  have F44 : Fun K "_law_pot" "_law_pot" s__law_pot (He.ga K "_law_pot") fd44 := fun_D E44
  have b44 := F44.binds (ps := ["_law_cell"]) fun _ _ _ _ _ _ us hl => match us, hl with | [_], _ => rfl
  obtain ⟨fd45, E45⟩ := cd.def_ 45 (d := D__law_take) rfl
  have F45 : Fun K "_law_take" "_law_take" s__law_take (He.ga K "_law_take") fd45 := fun_D E45
  have b45 := F45.binds (ps := ["_law_pot_here", "_law_far"]) fun _ _ _ _ _ _ us hl => match us, hl with | [_, _], _ => rfl
  obtain ⟨fd46, E46⟩ := cd.def_ 46 (d := D__law_fresh) rfl
  have F46 : Fun K "_law_fresh" "_law_fresh" s__law_fresh (He.ga K "_law_fresh") fd46 := fun_D E46
  have b46 := F46.binds (ps := []) fun _ _ _ _ _ _ us hl => match us, hl with | [], _ => rfl
  obtain ⟨fd47, E47⟩ := cd.def_ 47 (d := D__law_named) rfl
  have F47 : Fun K "_law_named" "_law_named" s__law_named (He.ga K "_law_named") fd47 := fun_D E47
  have b47 := F47.binds (ps := ["_law_pot_here"]) fun _ _ _ _ _ _ us hl => match us, hl with | [_], _ => rfl
  obtain ⟨fd48, E48⟩ := cd.def_ 48 (d := D__law_low) rfl
  have F48 : Fun K "_law_low" "_law_low" s__law_low (He.ga K "_law_low") fd48 := fun_D E48
  have b48 := F48.binds (ps := ["_law_top", "_law_bottom"]) fun _ _ _ _ _ _ us hl => match us, hl with | [_, _], _ => rfl
  obtain ⟨fd49, E49⟩ := cd.def_ 49 (d := D__law_hap) rfl
  have F49 : Fun K "_law_hap" "_law_hap" s__law_hap (He.ga K "_law_hap") fd49 := fun_D E49
  have b49 := F49.binds (ps := ["_law_pot_here"]) fun _ _ _ _ _ _ us hl => match us, hl with | [_], _ => rfl
  obtain ⟨fd50, E50⟩ := cd.def_ 50 (d := D__law_stretch) rfl
  have F50 : Fun K "_law_stretch" "_law_stretch" s__law_stretch (He.ga K "_law_stretch") fd50 := fun_D E50
  have b50 := F50.binds (ps := ["_law_pot_here"]) fun _ _ _ _ _ _ us hl => match us, hl with | [_], _ => rfl
  obtain ⟨fd51, E51⟩ := cd.def_ 51 (d := D__law_fast) rfl
  have F51 : Fun K "_law_fast" "_law_fast" s__law_fast (He.ga K "_law_fast") fd51 := fun_D E51
  have b51 := F51.binds (ps := ["_law_pot_here"]) fun _ _ _ _ _ _ us hl => match us, hl with | [_], _ => rfl
  obtain ⟨fd52, E52⟩ := cd.def_ 52 (d := D__law_speed) rfl
  have F52 : Fun K "_law_speed" "_law_speed" s__law_speed (He.ga K "_law_speed") fd52 := fun_D E52
  have b52 := F52.binds (ps := ["_law_pot_here"]) fun _ _ _ _ _ _ us hl => match us, hl with | [_], _ => rfl
  obtain ⟨fd53, E53⟩ := cd.def_ 53 (d := D__law_deed) rfl
  have F53 : Fun K "_law_deed" "_law_deed" s__law_deed (He.ga K "_law_deed") fd53 := fun_D E53
  have b53 := F53.binds (ps := ["_law_pot_here"]) fun _ _ _ _ _ _ us hl => match us, hl with | [_], _ => rfl
  obtain ⟨fd54, E54⟩ := cd.def_ 54 (d := D__law_whole) rfl
  have F54 : Fun K "_law_whole" "_law_whole" s__law_whole (He.ga K "_law_whole") fd54 := fun_D E54
  have b54 := F54.binds (ps := ["_law_thing"]) fun _ _ _ _ _ _ us hl => match us, hl with | [_], _ => rfl
  obtain ⟨fd55, E55⟩ := cd.def_ 55 (d := D__law_good) rfl
  have F55 : Fun K "_law_good" "_law_good" s__law_good (He.ga K "_law_good") fd55 := fun_D E55
  have b55 := F55.binds (ps := ["_law_thing"]) fun _ _ _ _ _ _ us hl => match us, hl with | [_], _ => rfl
  obtain ⟨fd56, E56⟩ := cd.def_ 56 (d := D__law_is_it) rfl
  have F56 : Fun K "_law_is_it" "_law_is_it" s__law_is_it (He.ga K "_law_is_it") fd56 := fun_D E56
  have b56 := F56.binds (ps := ["_law_thing"]) fun _ _ _ _ _ _ us hl => match us, hl with | [_], _ => rfl
  obtain ⟨fd57, E57⟩ := cd.def_ 57 (d := D__law_named_well) rfl
  have F57 : Fun K "_law_named_well" "_law_named_well" s__law_named_well (He.ga K "_law_named_well") fd57 := fun_D E57
  have b57 := F57.binds (ps := ["_law_thing"]) fun _ _ _ _ _ _ us hl => match us, hl with | [_], _ => rfl
  obtain ⟨fd58, E58⟩ := cd.def_ 58 (d := D__law_is_fast) rfl
  have F58 : Fun K "_law_is_fast" "_law_is_fast" s__law_is_fast (He.ga K "_law_is_fast") fd58 := fun_D E58
  have b58 := F58.binds (ps := ["_law_thing"]) fun _ _ _ _ _ _ us hl => match us, hl with | [_], _ => rfl
  obtain ⟨fd59, E59⟩ := cd.def_ 59 (d := D__law_root) rfl
  have F59 : Fun K "_law_root" "_law_root" s__law_root (He.ga K "_law_root") fd59 := fun_D E59
  have b59 := F59.binds (ps := ["_law_number"]) fun _ _ _ _ _ _ us hl => match us, hl with | [_], _ => rfl
  obtain ⟨fd60, E60⟩ := cd.def_ 60 (d := D__law_rooted) rfl
  have F60 : Fun K "_law_rooted" "_law_rooted" s__law_rooted (He.ga K "_law_rooted") fd60 := fun_D E60
  have b60 := F60.binds (ps := ["_law_one"]) fun _ _ _ _ _ _ us hl => match us, hl with | [_], _ => rfl
  obtain ⟨fd61, E61⟩ := cd.def_ 61 (d := D__law_gap) rfl
  have F61 : Fun K "_law_gap" "_law_gap" s__law_gap (He.ga K "_law_gap") fd61 := fun_D E61
  have b61 := F61.binds (ps := ["_law_one", "_law_other"]) fun _ _ _ _ _ _ us hl => match us, hl with | [_, _], _ => rfl
  obtain ⟨fd62, E62⟩ := cd.def_ 62 (d := D__law_prod) rfl
  have F62 : Fun K "_law_prod" "_law_prod" s__law_prod (He.ga K "_law_prod") fd62 := fun_D E62
  have b62 := F62.binds (ps := ["_law_one", "_law_other"]) fun _ _ _ _ _ _ us hl => match us, hl with | [_, _], _ => rfl
  obtain ⟨fd63, E63⟩ := cd.def_ 63 (d := D__law_beat) rfl
  have F63 : Fun K "_law_beat" "_law_beat" s__law_beat (He.ga K "_law_beat") fd63 := fun_D E63
  have b63 := F63.binds (ps := ["_law_speed_here"]) fun _ _ _ _ _ _ us hl => match us, hl with | [_], _ => rfl
  obtain ⟨fd64, E64⟩ := cd.def_ 64 (d := D__law_refused_as) rfl
  have F64 : Fun K "_law_refused_as" "_law_refused_as" s__law_refused_as (He.ga K "_law_refused_as") fd64 := fun_D E64
  have b64 := F64.binds (ps := ["_law_state", "_law_word", "_law_told"]) fun _ _ _ _ _ _ us hl => match us, hl with | [_, _, _], _ => rfl
  obtain ⟨fd65, E65⟩ := cd.def_ 65 (d := D__law_sum) rfl
  have F65 : Fun K "_law_sum" "_law_sum" s__law_sum (He.ga K "_law_sum") fd65 := fun_D E65
  have b65 := F65.binds (ps := ["_law_one", "_law_other"]) fun _ _ _ _ _ _ us hl => match us, hl with | [_, _], _ => rfl
  obtain ⟨fd66, E66⟩ := cd.def_ 66 (d := D__law_quot) rfl
  have F66 : Fun K "_law_quot" "_law_quot" s__law_quot (He.ga K "_law_quot") fd66 := fun_D E66
  have b66 := F66.binds (ps := ["_law_one", "_law_other"]) fun _ _ _ _ _ _ us hl => match us, hl with | [_, _], _ => rfl
  obtain ⟨fd67, E67⟩ := cd.def_ 67 (d := D__law_joined) rfl
  have F67 : Fun K "_law_joined" "_law_joined" s__law_joined (He.ga K "_law_joined") fd67 := fun_D E67
  have b67 := F67.binds (ps := ["_law_one", "_law_other"]) fun _ _ _ _ _ _ us hl => match us, hl with | [_, _], _ => rfl
  obtain ⟨fd68, E68⟩ := cd.def_ 68 (d := D__law_kept) rfl
  have F68 : Fun K "_law_kept" "_law_kept" s__law_kept (He.ga K "_law_kept") fd68 := fun_D E68
  have b68 := F68.binds (ps := ["_law_state", "_law_word", "_law_told"]) fun _ _ _ _ _ _ us hl => match us, hl with | [_, _, _], _ => rfl
  obtain ⟨fd69, E69⟩ := cd.def_ 69 (d := D__law_kind_of) rfl
  have F69 : Fun K "_law_kind_of" "_law_kind_of" s__law_kind_of (He.ga K "_law_kind_of") fd69 := fun_D E69
  have b69 := F69.binds (ps := ["_law_e"]) fun _ _ _ _ _ _ us hl => match us, hl with | [_], _ => rfl
  obtain ⟨fd70, E70⟩ := cd.def_ 70 (d := D__law_done) rfl
  have F70 : Fun K "_law_done" "_law_done" s__law_done (He.ga K "_law_done") fd70 := fun_D E70
  have b70 := F70.binds (ps := ["_law_bench", "_law_word", "_law_told"]) fun _ _ _ _ _ _ us hl => match us, hl with | [_, _, _], _ => rfl
  obtain ⟨fd71, E71⟩ := cd.def_ 71 (d := D__law_seen) rfl
  have F71 : Fun K "_law_seen" "_law_seen" s__law_seen (He.ga K "_law_seen") fd71 := fun_D E71
  have b71 := F71.binds (ps := ["_law_bench"]) fun _ _ _ _ _ _ us hl => match us, hl with | [_], _ => rfl
  obtain ⟨fd72, E72⟩ := cd.def_ 72 (d := D__law_stands_right) rfl
  have F72 : Fun K "_law_stands_right" "_law_stands_right" s__law_stands_right (He.ga K "_law_stands_right") fd72 := fun_D E72
  have b72 := F72.binds (ps := ["_law_bench", "_law_state"]) fun _ _ _ _ _ _ us hl => match us, hl with | [_, _], _ => rfl
  obtain ⟨fd73, E73⟩ := cd.def_ 73 (d := D__law_turned_right) rfl
  have F73 : Fun K "_law_turned_right" "_law_turned_right" s__law_turned_right (He.ga K "_law_turned_right") fd73 := fun_D E73
  have b73 := F73.binds (ps := ["_law_bench", "_law_state", "_law_speed_here"]) fun _ _ _ _ _ _ us hl => match us, hl with | [_, _, _], _ => rfl
  obtain ⟨fd74, E74⟩ := cd.def_ 74 (d := D_law) rfl
  have F74 : Fun K "law" "law" s_law (He.ga K "law") fd74 := fun_D E74
  have b74 := F74.binds (ps := ["_law_script"]) fun _ _ _ _ _ _ us hl => match us, hl with | [_], _ => rfl
  have T : Txt K mg (fun n => ([(He.ga K "MotionError"), (He.ga K "NoFraction"), (He.ga K "NoHap"), (He.ga K "NoText"), (He.ga K "NoSpeed"), (He.ga K "TooMany"), (He.ga K "NotPlain"), (He.ga K "NoStretch"), (He.ga K "NoHaps"), (He.ga K "NoOrder"), (He.ga K "NoStep"), (He.ga K "NoNumber"), (He.ga K "NoSeat"), (He.ga K "NoRod"), (He.ga K "NoWay"), (He.ga K "NoFlash"), (He.ga K "NoName"), (He.ga K "NoDeed"), (He.ga K "NoRow"), (He.ga K "Bench")] : List Addr).getD n 0) (fun n => ([(He.ga K "is_whole"), (He.ga K "is_fraction"), (He.ga K "fraction"), (He.ga K "plus"), (He.ga K "less"), (He.ga K "times"), (He.ga K "by"), (He.ga K "is_less"), (He.ga K "rising"), (He.ga K "root_of"), (He.ga K "is_hap"), (He.ga K "are_haps"), (He.ga K "check_haps"), (He.ga K "is_speed"), (He.ga K "check_speed"), (He.ga K "together"), (He.ga K "beat_or_none"), (He.ga K "is_plain"), (He.ga K "check_plain"), (He.ga K "beat_of"), (He.ga K "lapse_and_gap"), (He.ga K "kind_of"), (He.ga K "standing"), (He.ga K "order_at"), (He.ga K "is_seat"), (He.ga K "check_seat"), (He.ga K "check_hap"), (He.ga K "seen_from"), (He.ga K "told_from"), (He.ga K "is_name"), 0, 0, 0, 0, 0, 0, 0, 0, 0, 0, 0, 0, 0, (He.ga K "_law_cell_at"), (He.ga K "_law_pot"), (He.ga K "_law_take"), (He.ga K "_law_fresh"), (He.ga K "_law_named"), (He.ga K "_law_low"), (He.ga K "_law_hap"), (He.ga K "_law_stretch"), (He.ga K "_law_fast"), (He.ga K "_law_speed"), (He.ga K "_law_deed"), (He.ga K "_law_whole"), (He.ga K "_law_good"), (He.ga K "_law_is_it"), (He.ga K "_law_named_well"), (He.ga K "_law_is_fast"), (He.ga K "_law_root"), (He.ga K "_law_rooted"), (He.ga K "_law_gap"), (He.ga K "_law_prod"), (He.ga K "_law_beat"), (He.ga K "_law_refused_as"), (He.ga K "_law_sum"), (He.ga K "_law_quot"), (He.ga K "_law_joined"), (He.ga K "_law_kept"), (He.ga K "_law_kind_of"), (He.ga K "_law_done"), (He.ga K "_law_seen"), (He.ga K "_law_stands_right"), (He.ga K "_law_turned_right"), (He.ga K "law")] : List Addr).getD n 0) (fun n => ([0, 0, 0, 0, (He.ga K "NOUGHT"), (He.ga K "ONE")] : List Addr).getD n 0) := {
    v_LETTERS := let ⟨_, e⟩ := He.str_ok X G (cd.fact 0 (f := .str "LETTERS" "abcdefghijklmnopqrstuvwxyz") rfl); ⟨_, e, ⟨_, rfl⟩⟩
    v_LONGEST_NAME := let ⟨_, e⟩ := He.int_ok X G (cd.fact 1 (f := .int "LONGEST_NAME" (8)) rfl); ⟨_, e, ⟨_, rfl⟩⟩
    v_MOST_HAPS := let ⟨_, e⟩ := He.int_ok X G (cd.fact 2 (f := .int "MOST_HAPS" (8)) rfl); ⟨_, e, ⟨_, rfl⟩⟩
    v_MOST_NAMES := let ⟨_, e⟩ := He.int_ok X G (cd.fact 3 (f := .int "MOST_NAMES" (12)) rfl); ⟨_, e, ⟨_, rfl⟩⟩
    v_NOUGHT := He.glo_ok X G (cd.fact 4 (f := .glo "NOUGHT") rfl)
    w_NOUGHT := fun H => tupZ_ok (ex_at ce 0 (f := fun K => tupZ K (He.ga K "NOUGHT") [.int (0), .int (1)]) rfl) H
    v_ONE := He.glo_ok X G (cd.fact 5 (f := .glo "ONE") rfl)
    w_ONE := fun H => tupZ_ok (ex_at ce 1 (f := fun K => tupZ K (He.ga K "ONE") [.int (1), .int (1)]) rfl) H
    d_is_whole := ⟨_, _, F0, He.glo_ok X G (cd.fact 6 (f := .glo "is_whole") rfl), b0⟩
    d_is_fraction := ⟨_, _, F1, He.glo_ok X G (cd.fact 7 (f := .glo "is_fraction") rfl), b1⟩
    d_fraction := ⟨_, _, F2, He.glo_ok X G (cd.fact 8 (f := .glo "fraction") rfl), b2⟩
    d_plus := ⟨_, _, F3, He.glo_ok X G (cd.fact 9 (f := .glo "plus") rfl), b3⟩
    d_less := ⟨_, _, F4, He.glo_ok X G (cd.fact 10 (f := .glo "less") rfl), b4⟩
    d_times := ⟨_, _, F5, He.glo_ok X G (cd.fact 11 (f := .glo "times") rfl), b5⟩
    d_by := ⟨_, _, F6, He.glo_ok X G (cd.fact 12 (f := .glo "by") rfl), b6⟩
    d_is_less := ⟨_, _, F7, He.glo_ok X G (cd.fact 13 (f := .glo "is_less") rfl), b7⟩
    d_rising := ⟨_, _, F8, He.glo_ok X G (cd.fact 14 (f := .glo "rising") rfl), b8⟩
    d_root_of := ⟨_, _, F9, He.glo_ok X G (cd.fact 15 (f := .glo "root_of") rfl), b9⟩
    d_is_hap := ⟨_, _, F10, He.glo_ok X G (cd.fact 16 (f := .glo "is_hap") rfl), b10⟩
    d_are_haps := ⟨_, _, F11, He.glo_ok X G (cd.fact 17 (f := .glo "are_haps") rfl), b11⟩
    d_check_haps := ⟨_, _, F12, He.glo_ok X G (cd.fact 18 (f := .glo "check_haps") rfl), b12⟩
    d_is_speed := ⟨_, _, F13, He.glo_ok X G (cd.fact 19 (f := .glo "is_speed") rfl), b13⟩
    d_check_speed := ⟨_, _, F14, He.glo_ok X G (cd.fact 20 (f := .glo "check_speed") rfl), b14⟩
    d_together := ⟨_, _, F15, He.glo_ok X G (cd.fact 21 (f := .glo "together") rfl), b15⟩
    d_beat_or_none := ⟨_, _, F16, He.glo_ok X G (cd.fact 22 (f := .glo "beat_or_none") rfl), b16⟩
    d_is_plain := ⟨_, _, F17, He.glo_ok X G (cd.fact 23 (f := .glo "is_plain") rfl), b17⟩
    d_check_plain := ⟨_, _, F18, He.glo_ok X G (cd.fact 24 (f := .glo "check_plain") rfl), b18⟩
    d_beat_of := ⟨_, _, F19, He.glo_ok X G (cd.fact 25 (f := .glo "beat_of") rfl), b19⟩
    d_lapse_and_gap := ⟨_, _, F20, He.glo_ok X G (cd.fact 26 (f := .glo "lapse_and_gap") rfl), b20⟩
    d_kind_of := ⟨_, _, F21, He.glo_ok X G (cd.fact 27 (f := .glo "kind_of") rfl), b21⟩
    d_standing := ⟨_, _, F22, He.glo_ok X G (cd.fact 28 (f := .glo "standing") rfl), b22⟩
    d_order_at := ⟨_, _, F23, He.glo_ok X G (cd.fact 29 (f := .glo "order_at") rfl), b23⟩
    d_is_seat := ⟨_, _, F24, He.glo_ok X G (cd.fact 30 (f := .glo "is_seat") rfl), b24⟩
    d_check_seat := ⟨_, _, F25, He.glo_ok X G (cd.fact 31 (f := .glo "check_seat") rfl), b25⟩
    d_check_hap := ⟨_, _, F26, He.glo_ok X G (cd.fact 32 (f := .glo "check_hap") rfl), b26⟩
    d_seen_from := ⟨_, _, F27, He.glo_ok X G (cd.fact 33 (f := .glo "seen_from") rfl), b27⟩
    d_told_from := ⟨_, _, F28, He.glo_ok X G (cd.fact 34 (f := .glo "told_from") rfl), b28⟩
    d_is_name := ⟨_, _, F29, He.glo_ok X G (cd.fact 35 (f := .glo "is_name") rfl), b29⟩
    d_Bench___init__ := ⟨_, _, F30, He.mkr_ok (cd.fact 36 (f := .mkr "Bench") rfl), b30⟩
    cl_Bench := He.cls_ok (cd.fact 37 (f := .cls "Bench") rfl)
    na_Bench__haps := He.noat_ok (cd.fact 38 (f := .noat "Bench" "_haps") rfl)
    na_Bench__speed := He.noat_ok (cd.fact 39 (f := .noat "Bench" "_speed") rfl)
    na_Bench__past := He.noat_ok (cd.fact 40 (f := .noat "Bench" "_past") rfl)
    d_Bench__do := ⟨_, _, F31, He.meth_ok (cd.fact 41 (f := .meth "Bench" "_do") rfl), b31⟩
    d_Bench_put := ⟨_, _, F32, He.meth_ok (cd.fact 42 (f := .meth "Bench" "put") rfl), b32⟩
    d_Bench__hap_of := ⟨_, _, F33, He.meth_ok (cd.fact 43 (f := .meth "Bench" "_hap_of") rfl), b33⟩
    d_Bench_drop := ⟨_, _, F34, He.meth_ok (cd.fact 44 (f := .meth "Bench" "drop") rfl), b34⟩
    d_Bench_turn := ⟨_, _, F35, He.meth_ok (cd.fact 45 (f := .meth "Bench" "turn") rfl), b35⟩
    d_Bench_push := ⟨_, _, F36, He.meth_ok (cd.fact 46 (f := .meth "Bench" "push") rfl), b36⟩
    d_Bench_undo := ⟨_, _, F37, He.meth_ok (cd.fact 47 (f := .meth "Bench" "undo") rfl), b37⟩
    d_Bench_names := ⟨_, _, F38, He.meth_ok (cd.fact 48 (f := .meth "Bench" "names") rfl), b38⟩
    d_Bench_speed := ⟨_, _, F39, He.meth_ok (cd.fact 49 (f := .meth "Bench" "speed") rfl), b39⟩
    d_Bench_tell := ⟨_, _, F40, He.meth_ok (cd.fact 50 (f := .meth "Bench" "tell") rfl), b40⟩
    d_Bench_order := ⟨_, _, F41, He.meth_ok (cd.fact 51 (f := .meth "Bench" "order") rfl), b41⟩
    d_Bench_kind := ⟨_, _, F42, He.meth_ok (cd.fact 52 (f := .meth "Bench" "kind") rfl), b42⟩
    d__law_cell_at := ⟨_, _, F43, He.glo_ok X G (cd.fact 53 (f := .glo "_law_cell_at") rfl), b43⟩
    d__law_pot := ⟨_, _, F44, He.glo_ok X G (cd.fact 54 (f := .glo "_law_pot") rfl), b44⟩
    d__law_take := ⟨_, _, F45, He.glo_ok X G (cd.fact 55 (f := .glo "_law_take") rfl), b45⟩
    d__law_fresh := ⟨_, _, F46, He.glo_ok X G (cd.fact 56 (f := .glo "_law_fresh") rfl), b46⟩
    d__law_named := ⟨_, _, F47, He.glo_ok X G (cd.fact 57 (f := .glo "_law_named") rfl), b47⟩
    d__law_low := ⟨_, _, F48, He.glo_ok X G (cd.fact 58 (f := .glo "_law_low") rfl), b48⟩
    d__law_hap := ⟨_, _, F49, He.glo_ok X G (cd.fact 59 (f := .glo "_law_hap") rfl), b49⟩
    d__law_stretch := ⟨_, _, F50, He.glo_ok X G (cd.fact 60 (f := .glo "_law_stretch") rfl), b50⟩
    d__law_fast := ⟨_, _, F51, He.glo_ok X G (cd.fact 61 (f := .glo "_law_fast") rfl), b51⟩
    d__law_speed := ⟨_, _, F52, He.glo_ok X G (cd.fact 62 (f := .glo "_law_speed") rfl), b52⟩
    d__law_deed := ⟨_, _, F53, He.glo_ok X G (cd.fact 63 (f := .glo "_law_deed") rfl), b53⟩
    d__law_whole := ⟨_, _, F54, He.glo_ok X G (cd.fact 64 (f := .glo "_law_whole") rfl), b54⟩
    d__law_good := ⟨_, _, F55, He.glo_ok X G (cd.fact 65 (f := .glo "_law_good") rfl), b55⟩
    d__law_is_it := ⟨_, _, F56, He.glo_ok X G (cd.fact 66 (f := .glo "_law_is_it") rfl), b56⟩
    d__law_named_well := ⟨_, _, F57, He.glo_ok X G (cd.fact 67 (f := .glo "_law_named_well") rfl), b57⟩
    d__law_is_fast := ⟨_, _, F58, He.glo_ok X G (cd.fact 68 (f := .glo "_law_is_fast") rfl), b58⟩
    d__law_root := ⟨_, _, F59, He.glo_ok X G (cd.fact 69 (f := .glo "_law_root") rfl), b59⟩
    d__law_rooted := ⟨_, _, F60, He.glo_ok X G (cd.fact 70 (f := .glo "_law_rooted") rfl), b60⟩
    d__law_gap := ⟨_, _, F61, He.glo_ok X G (cd.fact 71 (f := .glo "_law_gap") rfl), b61⟩
    d__law_prod := ⟨_, _, F62, He.glo_ok X G (cd.fact 72 (f := .glo "_law_prod") rfl), b62⟩
    d__law_beat := ⟨_, _, F63, He.glo_ok X G (cd.fact 73 (f := .glo "_law_beat") rfl), b63⟩
    d__law_refused_as := ⟨_, _, F64, He.glo_ok X G (cd.fact 74 (f := .glo "_law_refused_as") rfl), b64⟩
    d__law_sum := ⟨_, _, F65, He.glo_ok X G (cd.fact 75 (f := .glo "_law_sum") rfl), b65⟩
    d__law_quot := ⟨_, _, F66, He.glo_ok X G (cd.fact 76 (f := .glo "_law_quot") rfl), b66⟩
    d__law_joined := ⟨_, _, F67, He.glo_ok X G (cd.fact 77 (f := .glo "_law_joined") rfl), b67⟩
    d__law_kept := ⟨_, _, F68, He.glo_ok X G (cd.fact 78 (f := .glo "_law_kept") rfl), b68⟩
    d__law_kind_of := ⟨_, _, F69, He.glo_ok X G (cd.fact 79 (f := .glo "_law_kind_of") rfl), b69⟩
    d__law_done := ⟨_, _, F70, He.glo_ok X G (cd.fact 80 (f := .glo "_law_done") rfl), b70⟩
    d__law_seen := ⟨_, _, F71, He.glo_ok X G (cd.fact 81 (f := .glo "_law_seen") rfl), b71⟩
    d__law_stands_right := ⟨_, _, F72, He.glo_ok X G (cd.fact 82 (f := .glo "_law_stands_right") rfl), b72⟩
    d__law_turned_right := ⟨_, _, F73, He.glo_ok X G (cd.fact 83 (f := .glo "_law_turned_right") rfl), b73⟩
    d_law := ⟨_, _, F74, He.glo_ok X G (cd.fact 84 (f := .glo "law") rfl), b74⟩
    m_ValueError := He.free_ok X G (cd.fact 85 (f := .free "ValueError") rfl)
    m_abs := He.free_ok X G (cd.fact 86 (f := .free "abs") rfl)
    m_all := He.free_ok X G (cd.fact 87 (f := .free "all") rfl)
    m_bool := He.free_ok X G (cd.fact 88 (f := .free "bool") rfl)
    m_dict := He.free_ok X G (cd.fact 89 (f := .free "dict") rfl)
    m_enumerate := He.free_ok X G (cd.fact 90 (f := .free "enumerate") rfl)
    m_int := He.free_ok X G (cd.fact 91 (f := .free "int") rfl)
    m_isinstance := He.free_ok X G (cd.fact 92 (f := .free "isinstance") rfl)
    m_len := He.free_ok X G (cd.fact 93 (f := .free "len") rfl)
    m_list := He.free_ok X G (cd.fact 94 (f := .free "list") rfl)
    m_max := He.free_ok X G (cd.fact 95 (f := .free "max") rfl)
    m_min := He.free_ok X G (cd.fact 96 (f := .free "min") rfl)
    m_range := He.free_ok X G (cd.fact 97 (f := .free "range") rfl)
    m_repr := He.free_ok X G (cd.fact 98 (f := .free "repr") rfl)
    m_set := He.free_ok X G (cd.fact 99 (f := .free "set") rfl)
    m_sorted := He.free_ok X G (cd.fact 100 (f := .free "sorted") rfl)
    m_str := He.free_ok X G (cd.fact 101 (f := .free "str") rfl)
    m_tuple := He.free_ok X G (cd.fact 102 (f := .free "tuple") rfl)
    g_gcd := PySem.W.mg_of X G (of_decide_eq_true (ex_at ce 2 (f := fun K => decide (PySem.W.nsIn K mainGlobals "gcd" = some (some (.builtin "math.gcd")))) rfl))
    g_isqrt := PySem.W.mg_of X G (of_decide_eq_true (ex_at ce 3 (f := fun K => decide (PySem.W.nsIn K mainGlobals "isqrt" = some (some (.builtin "math.isqrt")))) rfl))
    g_lcm := PySem.W.mg_of X G (of_decide_eq_true (ex_at ce 4 (f := fun K => decide (PySem.W.nsIn K mainGlobals "lcm" = some (some (.builtin "math.lcm")))) rfl))
    c_MotionError := He.glo_ok X G (cd.fact 103 (f := .glo "MotionError") rfl)
    c_NoFraction := He.glo_ok X G (cd.fact 104 (f := .glo "NoFraction") rfl)
    x_NoFraction := let ⟨e1, e2, e3, e4⟩ := He.exc_ok (cd.fact 105 (f := .exc "NoFraction") rfl); ⟨He.glo_ok X G (cd.fact 104 (f := .glo "NoFraction") rfl), e2, e3, e4, e1⟩
    c_NoHap := He.glo_ok X G (cd.fact 106 (f := .glo "NoHap") rfl)
    x_NoHap := let ⟨e1, e2, e3, e4⟩ := He.exc_ok (cd.fact 107 (f := .exc "NoHap") rfl); ⟨He.glo_ok X G (cd.fact 106 (f := .glo "NoHap") rfl), e2, e3, e4, e1⟩
    c_NoText := He.glo_ok X G (cd.fact 108 (f := .glo "NoText") rfl)
    c_NoSpeed := He.glo_ok X G (cd.fact 109 (f := .glo "NoSpeed") rfl)
    x_NoSpeed := let ⟨e1, e2, e3, e4⟩ := He.exc_ok (cd.fact 110 (f := .exc "NoSpeed") rfl); ⟨He.glo_ok X G (cd.fact 109 (f := .glo "NoSpeed") rfl), e2, e3, e4, e1⟩
    c_TooMany := He.glo_ok X G (cd.fact 111 (f := .glo "TooMany") rfl)
    x_TooMany := let ⟨e1, e2, e3, e4⟩ := He.exc_ok (cd.fact 112 (f := .exc "TooMany") rfl); ⟨He.glo_ok X G (cd.fact 111 (f := .glo "TooMany") rfl), e2, e3, e4, e1⟩
    c_NotPlain := He.glo_ok X G (cd.fact 113 (f := .glo "NotPlain") rfl)
    x_NotPlain := let ⟨e1, e2, e3, e4⟩ := He.exc_ok (cd.fact 114 (f := .exc "NotPlain") rfl); ⟨He.glo_ok X G (cd.fact 113 (f := .glo "NotPlain") rfl), e2, e3, e4, e1⟩
    c_NoStretch := He.glo_ok X G (cd.fact 115 (f := .glo "NoStretch") rfl)
    c_NoHaps := He.glo_ok X G (cd.fact 116 (f := .glo "NoHaps") rfl)
    x_NoHaps := let ⟨e1, e2, e3, e4⟩ := He.exc_ok (cd.fact 117 (f := .exc "NoHaps") rfl); ⟨He.glo_ok X G (cd.fact 116 (f := .glo "NoHaps") rfl), e2, e3, e4, e1⟩
    c_NoOrder := He.glo_ok X G (cd.fact 118 (f := .glo "NoOrder") rfl)
    c_NoStep := He.glo_ok X G (cd.fact 119 (f := .glo "NoStep") rfl)
    c_NoNumber := He.glo_ok X G (cd.fact 120 (f := .glo "NoNumber") rfl)
    c_NoSeat := He.glo_ok X G (cd.fact 121 (f := .glo "NoSeat") rfl)
    x_NoSeat := let ⟨e1, e2, e3, e4⟩ := He.exc_ok (cd.fact 122 (f := .exc "NoSeat") rfl); ⟨He.glo_ok X G (cd.fact 121 (f := .glo "NoSeat") rfl), e2, e3, e4, e1⟩
    c_NoRod := He.glo_ok X G (cd.fact 123 (f := .glo "NoRod") rfl)
    c_NoWay := He.glo_ok X G (cd.fact 124 (f := .glo "NoWay") rfl)
    c_NoFlash := He.glo_ok X G (cd.fact 125 (f := .glo "NoFlash") rfl)
    c_NoName := He.glo_ok X G (cd.fact 126 (f := .glo "NoName") rfl)
    x_NoName := let ⟨e1, e2, e3, e4⟩ := He.exc_ok (cd.fact 127 (f := .exc "NoName") rfl); ⟨He.glo_ok X G (cd.fact 126 (f := .glo "NoName") rfl), e2, e3, e4, e1⟩
    c_NoDeed := He.glo_ok X G (cd.fact 128 (f := .glo "NoDeed") rfl)
    x_NoDeed := let ⟨e1, e2, e3, e4⟩ := He.exc_ok (cd.fact 129 (f := .exc "NoDeed") rfl); ⟨He.glo_ok X G (cd.fact 128 (f := .glo "NoDeed") rfl), e2, e3, e4, e1⟩
    c_NoRow := He.glo_ok X G (cd.fact 130 (f := .glo "NoRow") rfl)
    c_Bench := He.glo_ok X G (cd.fact 131 (f := .glo "Bench") rfl)
    e_NoName := ⟨of_decide_eq_true (ex_at ce 5 (f := fun K => decide (PySem.W.findIn K (.ref (He.ga K "NoName")) "__getattribute__" = some (some (.builtin "BaseException.__getattribute__")))) rfl), of_decide_eq_true (ex_at ce 6 (f := fun K => decide (PySem.W.findIn K (.ref (He.ga K "NoName")) "__getattr__" = some none)) rfl), of_decide_eq_true (ex_at ce 7 (f := fun K => decide (PySem.W.subIn K (.ref (He.ga K "NoName")) (.type "BaseException") = some true)) rfl), of_decide_eq_true (ex_at ce 8 (f := fun K => decide (PySem.W.hasDictIn K (He.ga K "NoName") = true)) rfl), of_decide_eq_true (ex_at ce 9 (f := fun K => decide (PySem.W.findIn K (.ref (He.ga K "NoName")) "__class__" = some (some (.builtin "object.__class__")))) rfl), of_decide_eq_true (ex_at ce 10 (f := fun K => decide (PySem.W.specialIn K (.builtin "object.__class__") "__get__" = some (some (.builtin "getset_descriptor.__get__")))) rfl), of_decide_eq_true (ex_at ce 11 (f := fun K => decide (PySem.W.takesIn K (.builtin "object.__class__") = some true)) rfl), of_decide_eq_true (ex_at ce 12 (f := fun K => decide (PySem.W.mroIn K (He.ga K "NoName") (.type "object") = some true)) rfl)⟩
    v_NoName := of_decide_eq_true (ex_at ce 13 (f := fun K => decide (PySem.W.kitOne K (.ref (He.ga K "NoName")) (.type "ValueError") = some true)) rfl)
    r_NoName := He.exm_ok (cd.fact 132 (f := .exm "NoName" "MotionError" true) rfl)
    k_NoName_NoDeed := of_decide_eq_true (ex_at ce 14 (f := fun K => decide (PySem.W.kitOne K (.ref (He.ga K "NoName")) (.ref (He.ga K "NoDeed")) = some false)) rfl)
    k_NoName_NoFlash := of_decide_eq_true (ex_at ce 15 (f := fun K => decide (PySem.W.kitOne K (.ref (He.ga K "NoName")) (.ref (He.ga K "NoFlash")) = some false)) rfl)
    k_NoName_NoFraction := of_decide_eq_true (ex_at ce 16 (f := fun K => decide (PySem.W.kitOne K (.ref (He.ga K "NoName")) (.ref (He.ga K "NoFraction")) = some false)) rfl)
    k_NoName_NoHap := of_decide_eq_true (ex_at ce 17 (f := fun K => decide (PySem.W.kitOne K (.ref (He.ga K "NoName")) (.ref (He.ga K "NoHap")) = some false)) rfl)
    k_NoName_NoHaps := of_decide_eq_true (ex_at ce 18 (f := fun K => decide (PySem.W.kitOne K (.ref (He.ga K "NoName")) (.ref (He.ga K "NoHaps")) = some false)) rfl)
    k_NoName_NoName := of_decide_eq_true (ex_at ce 19 (f := fun K => decide (PySem.W.kitOne K (.ref (He.ga K "NoName")) (.ref (He.ga K "NoName")) = some true)) rfl)
    k_NoName_NoNumber := of_decide_eq_true (ex_at ce 20 (f := fun K => decide (PySem.W.kitOne K (.ref (He.ga K "NoName")) (.ref (He.ga K "NoNumber")) = some false)) rfl)
    k_NoName_NoOrder := of_decide_eq_true (ex_at ce 21 (f := fun K => decide (PySem.W.kitOne K (.ref (He.ga K "NoName")) (.ref (He.ga K "NoOrder")) = some false)) rfl)
    k_NoName_NoRod := of_decide_eq_true (ex_at ce 22 (f := fun K => decide (PySem.W.kitOne K (.ref (He.ga K "NoName")) (.ref (He.ga K "NoRod")) = some false)) rfl)
    k_NoName_NoRow := of_decide_eq_true (ex_at ce 23 (f := fun K => decide (PySem.W.kitOne K (.ref (He.ga K "NoName")) (.ref (He.ga K "NoRow")) = some false)) rfl)
    k_NoName_NoSeat := of_decide_eq_true (ex_at ce 24 (f := fun K => decide (PySem.W.kitOne K (.ref (He.ga K "NoName")) (.ref (He.ga K "NoSeat")) = some false)) rfl)
    k_NoName_NoSpeed := of_decide_eq_true (ex_at ce 25 (f := fun K => decide (PySem.W.kitOne K (.ref (He.ga K "NoName")) (.ref (He.ga K "NoSpeed")) = some false)) rfl)
    k_NoName_NoStep := of_decide_eq_true (ex_at ce 26 (f := fun K => decide (PySem.W.kitOne K (.ref (He.ga K "NoName")) (.ref (He.ga K "NoStep")) = some false)) rfl)
    k_NoName_NoStretch := of_decide_eq_true (ex_at ce 27 (f := fun K => decide (PySem.W.kitOne K (.ref (He.ga K "NoName")) (.ref (He.ga K "NoStretch")) = some false)) rfl)
    k_NoName_NoText := of_decide_eq_true (ex_at ce 28 (f := fun K => decide (PySem.W.kitOne K (.ref (He.ga K "NoName")) (.ref (He.ga K "NoText")) = some false)) rfl)
    k_NoName_NotPlain := of_decide_eq_true (ex_at ce 29 (f := fun K => decide (PySem.W.kitOne K (.ref (He.ga K "NoName")) (.ref (He.ga K "NotPlain")) = some false)) rfl)
    k_NoName_NoWay := of_decide_eq_true (ex_at ce 30 (f := fun K => decide (PySem.W.kitOne K (.ref (He.ga K "NoName")) (.ref (He.ga K "NoWay")) = some false)) rfl)
    k_NoName_TooMany := of_decide_eq_true (ex_at ce 31 (f := fun K => decide (PySem.W.kitOne K (.ref (He.ga K "NoName")) (.ref (He.ga K "TooMany")) = some false)) rfl)
    e_NoHap := ⟨of_decide_eq_true (ex_at ce 32 (f := fun K => decide (PySem.W.findIn K (.ref (He.ga K "NoHap")) "__getattribute__" = some (some (.builtin "BaseException.__getattribute__")))) rfl), of_decide_eq_true (ex_at ce 33 (f := fun K => decide (PySem.W.findIn K (.ref (He.ga K "NoHap")) "__getattr__" = some none)) rfl), of_decide_eq_true (ex_at ce 34 (f := fun K => decide (PySem.W.subIn K (.ref (He.ga K "NoHap")) (.type "BaseException") = some true)) rfl), of_decide_eq_true (ex_at ce 35 (f := fun K => decide (PySem.W.hasDictIn K (He.ga K "NoHap") = true)) rfl), of_decide_eq_true (ex_at ce 36 (f := fun K => decide (PySem.W.findIn K (.ref (He.ga K "NoHap")) "__class__" = some (some (.builtin "object.__class__")))) rfl), of_decide_eq_true (ex_at ce 10 (f := fun K => decide (PySem.W.specialIn K (.builtin "object.__class__") "__get__" = some (some (.builtin "getset_descriptor.__get__")))) rfl), of_decide_eq_true (ex_at ce 11 (f := fun K => decide (PySem.W.takesIn K (.builtin "object.__class__") = some true)) rfl), of_decide_eq_true (ex_at ce 37 (f := fun K => decide (PySem.W.mroIn K (He.ga K "NoHap") (.type "object") = some true)) rfl)⟩
    v_NoHap := of_decide_eq_true (ex_at ce 38 (f := fun K => decide (PySem.W.kitOne K (.ref (He.ga K "NoHap")) (.type "ValueError") = some true)) rfl)
    r_NoHap := He.exm_ok (cd.fact 133 (f := .exm "NoHap" "MotionError" true) rfl)
    k_NoHap_NoDeed := of_decide_eq_true (ex_at ce 39 (f := fun K => decide (PySem.W.kitOne K (.ref (He.ga K "NoHap")) (.ref (He.ga K "NoDeed")) = some false)) rfl)
    k_NoHap_NoFlash := of_decide_eq_true (ex_at ce 40 (f := fun K => decide (PySem.W.kitOne K (.ref (He.ga K "NoHap")) (.ref (He.ga K "NoFlash")) = some false)) rfl)
    k_NoHap_NoFraction := of_decide_eq_true (ex_at ce 41 (f := fun K => decide (PySem.W.kitOne K (.ref (He.ga K "NoHap")) (.ref (He.ga K "NoFraction")) = some false)) rfl)
    k_NoHap_NoHap := of_decide_eq_true (ex_at ce 42 (f := fun K => decide (PySem.W.kitOne K (.ref (He.ga K "NoHap")) (.ref (He.ga K "NoHap")) = some true)) rfl)
    k_NoHap_NoHaps := of_decide_eq_true (ex_at ce 43 (f := fun K => decide (PySem.W.kitOne K (.ref (He.ga K "NoHap")) (.ref (He.ga K "NoHaps")) = some false)) rfl)
    k_NoHap_NoName := of_decide_eq_true (ex_at ce 44 (f := fun K => decide (PySem.W.kitOne K (.ref (He.ga K "NoHap")) (.ref (He.ga K "NoName")) = some false)) rfl)
    k_NoHap_NoNumber := of_decide_eq_true (ex_at ce 45 (f := fun K => decide (PySem.W.kitOne K (.ref (He.ga K "NoHap")) (.ref (He.ga K "NoNumber")) = some false)) rfl)
    k_NoHap_NoOrder := of_decide_eq_true (ex_at ce 46 (f := fun K => decide (PySem.W.kitOne K (.ref (He.ga K "NoHap")) (.ref (He.ga K "NoOrder")) = some false)) rfl)
    k_NoHap_NoRod := of_decide_eq_true (ex_at ce 47 (f := fun K => decide (PySem.W.kitOne K (.ref (He.ga K "NoHap")) (.ref (He.ga K "NoRod")) = some false)) rfl)
    k_NoHap_NoRow := of_decide_eq_true (ex_at ce 48 (f := fun K => decide (PySem.W.kitOne K (.ref (He.ga K "NoHap")) (.ref (He.ga K "NoRow")) = some false)) rfl)
    k_NoHap_NoSeat := of_decide_eq_true (ex_at ce 49 (f := fun K => decide (PySem.W.kitOne K (.ref (He.ga K "NoHap")) (.ref (He.ga K "NoSeat")) = some false)) rfl)
    k_NoHap_NoSpeed := of_decide_eq_true (ex_at ce 50 (f := fun K => decide (PySem.W.kitOne K (.ref (He.ga K "NoHap")) (.ref (He.ga K "NoSpeed")) = some false)) rfl)
    k_NoHap_NoStep := of_decide_eq_true (ex_at ce 51 (f := fun K => decide (PySem.W.kitOne K (.ref (He.ga K "NoHap")) (.ref (He.ga K "NoStep")) = some false)) rfl)
    k_NoHap_NoStretch := of_decide_eq_true (ex_at ce 52 (f := fun K => decide (PySem.W.kitOne K (.ref (He.ga K "NoHap")) (.ref (He.ga K "NoStretch")) = some false)) rfl)
    k_NoHap_NoText := of_decide_eq_true (ex_at ce 53 (f := fun K => decide (PySem.W.kitOne K (.ref (He.ga K "NoHap")) (.ref (He.ga K "NoText")) = some false)) rfl)
    k_NoHap_NotPlain := of_decide_eq_true (ex_at ce 54 (f := fun K => decide (PySem.W.kitOne K (.ref (He.ga K "NoHap")) (.ref (He.ga K "NotPlain")) = some false)) rfl)
    k_NoHap_NoWay := of_decide_eq_true (ex_at ce 55 (f := fun K => decide (PySem.W.kitOne K (.ref (He.ga K "NoHap")) (.ref (He.ga K "NoWay")) = some false)) rfl)
    k_NoHap_TooMany := of_decide_eq_true (ex_at ce 56 (f := fun K => decide (PySem.W.kitOne K (.ref (He.ga K "NoHap")) (.ref (He.ga K "TooMany")) = some false)) rfl)
    e_NoSpeed := ⟨of_decide_eq_true (ex_at ce 57 (f := fun K => decide (PySem.W.findIn K (.ref (He.ga K "NoSpeed")) "__getattribute__" = some (some (.builtin "BaseException.__getattribute__")))) rfl), of_decide_eq_true (ex_at ce 58 (f := fun K => decide (PySem.W.findIn K (.ref (He.ga K "NoSpeed")) "__getattr__" = some none)) rfl), of_decide_eq_true (ex_at ce 59 (f := fun K => decide (PySem.W.subIn K (.ref (He.ga K "NoSpeed")) (.type "BaseException") = some true)) rfl), of_decide_eq_true (ex_at ce 60 (f := fun K => decide (PySem.W.hasDictIn K (He.ga K "NoSpeed") = true)) rfl), of_decide_eq_true (ex_at ce 61 (f := fun K => decide (PySem.W.findIn K (.ref (He.ga K "NoSpeed")) "__class__" = some (some (.builtin "object.__class__")))) rfl), of_decide_eq_true (ex_at ce 10 (f := fun K => decide (PySem.W.specialIn K (.builtin "object.__class__") "__get__" = some (some (.builtin "getset_descriptor.__get__")))) rfl), of_decide_eq_true (ex_at ce 11 (f := fun K => decide (PySem.W.takesIn K (.builtin "object.__class__") = some true)) rfl), of_decide_eq_true (ex_at ce 62 (f := fun K => decide (PySem.W.mroIn K (He.ga K "NoSpeed") (.type "object") = some true)) rfl)⟩
    v_NoSpeed := of_decide_eq_true (ex_at ce 63 (f := fun K => decide (PySem.W.kitOne K (.ref (He.ga K "NoSpeed")) (.type "ValueError") = some true)) rfl)
    r_NoSpeed := He.exm_ok (cd.fact 134 (f := .exm "NoSpeed" "MotionError" true) rfl)
    k_NoSpeed_NoDeed := of_decide_eq_true (ex_at ce 64 (f := fun K => decide (PySem.W.kitOne K (.ref (He.ga K "NoSpeed")) (.ref (He.ga K "NoDeed")) = some false)) rfl)
    k_NoSpeed_NoFlash := of_decide_eq_true (ex_at ce 65 (f := fun K => decide (PySem.W.kitOne K (.ref (He.ga K "NoSpeed")) (.ref (He.ga K "NoFlash")) = some false)) rfl)
    k_NoSpeed_NoFraction := of_decide_eq_true (ex_at ce 66 (f := fun K => decide (PySem.W.kitOne K (.ref (He.ga K "NoSpeed")) (.ref (He.ga K "NoFraction")) = some false)) rfl)
    k_NoSpeed_NoHap := of_decide_eq_true (ex_at ce 67 (f := fun K => decide (PySem.W.kitOne K (.ref (He.ga K "NoSpeed")) (.ref (He.ga K "NoHap")) = some false)) rfl)
    k_NoSpeed_NoHaps := of_decide_eq_true (ex_at ce 68 (f := fun K => decide (PySem.W.kitOne K (.ref (He.ga K "NoSpeed")) (.ref (He.ga K "NoHaps")) = some false)) rfl)
    k_NoSpeed_NoName := of_decide_eq_true (ex_at ce 69 (f := fun K => decide (PySem.W.kitOne K (.ref (He.ga K "NoSpeed")) (.ref (He.ga K "NoName")) = some false)) rfl)
    k_NoSpeed_NoNumber := of_decide_eq_true (ex_at ce 70 (f := fun K => decide (PySem.W.kitOne K (.ref (He.ga K "NoSpeed")) (.ref (He.ga K "NoNumber")) = some false)) rfl)
    k_NoSpeed_NoOrder := of_decide_eq_true (ex_at ce 71 (f := fun K => decide (PySem.W.kitOne K (.ref (He.ga K "NoSpeed")) (.ref (He.ga K "NoOrder")) = some false)) rfl)
    k_NoSpeed_NoRod := of_decide_eq_true (ex_at ce 72 (f := fun K => decide (PySem.W.kitOne K (.ref (He.ga K "NoSpeed")) (.ref (He.ga K "NoRod")) = some false)) rfl)
    k_NoSpeed_NoRow := of_decide_eq_true (ex_at ce 73 (f := fun K => decide (PySem.W.kitOne K (.ref (He.ga K "NoSpeed")) (.ref (He.ga K "NoRow")) = some false)) rfl)
    k_NoSpeed_NoSeat := of_decide_eq_true (ex_at ce 74 (f := fun K => decide (PySem.W.kitOne K (.ref (He.ga K "NoSpeed")) (.ref (He.ga K "NoSeat")) = some false)) rfl)
    k_NoSpeed_NoSpeed := of_decide_eq_true (ex_at ce 75 (f := fun K => decide (PySem.W.kitOne K (.ref (He.ga K "NoSpeed")) (.ref (He.ga K "NoSpeed")) = some true)) rfl)
    k_NoSpeed_NoStep := of_decide_eq_true (ex_at ce 76 (f := fun K => decide (PySem.W.kitOne K (.ref (He.ga K "NoSpeed")) (.ref (He.ga K "NoStep")) = some false)) rfl)
    k_NoSpeed_NoStretch := of_decide_eq_true (ex_at ce 77 (f := fun K => decide (PySem.W.kitOne K (.ref (He.ga K "NoSpeed")) (.ref (He.ga K "NoStretch")) = some false)) rfl)
    k_NoSpeed_NoText := of_decide_eq_true (ex_at ce 78 (f := fun K => decide (PySem.W.kitOne K (.ref (He.ga K "NoSpeed")) (.ref (He.ga K "NoText")) = some false)) rfl)
    k_NoSpeed_NotPlain := of_decide_eq_true (ex_at ce 79 (f := fun K => decide (PySem.W.kitOne K (.ref (He.ga K "NoSpeed")) (.ref (He.ga K "NotPlain")) = some false)) rfl)
    k_NoSpeed_NoWay := of_decide_eq_true (ex_at ce 80 (f := fun K => decide (PySem.W.kitOne K (.ref (He.ga K "NoSpeed")) (.ref (He.ga K "NoWay")) = some false)) rfl)
    k_NoSpeed_TooMany := of_decide_eq_true (ex_at ce 81 (f := fun K => decide (PySem.W.kitOne K (.ref (He.ga K "NoSpeed")) (.ref (He.ga K "TooMany")) = some false)) rfl)
    e_NotPlain := ⟨of_decide_eq_true (ex_at ce 82 (f := fun K => decide (PySem.W.findIn K (.ref (He.ga K "NotPlain")) "__getattribute__" = some (some (.builtin "BaseException.__getattribute__")))) rfl), of_decide_eq_true (ex_at ce 83 (f := fun K => decide (PySem.W.findIn K (.ref (He.ga K "NotPlain")) "__getattr__" = some none)) rfl), of_decide_eq_true (ex_at ce 84 (f := fun K => decide (PySem.W.subIn K (.ref (He.ga K "NotPlain")) (.type "BaseException") = some true)) rfl), of_decide_eq_true (ex_at ce 85 (f := fun K => decide (PySem.W.hasDictIn K (He.ga K "NotPlain") = true)) rfl), of_decide_eq_true (ex_at ce 86 (f := fun K => decide (PySem.W.findIn K (.ref (He.ga K "NotPlain")) "__class__" = some (some (.builtin "object.__class__")))) rfl), of_decide_eq_true (ex_at ce 10 (f := fun K => decide (PySem.W.specialIn K (.builtin "object.__class__") "__get__" = some (some (.builtin "getset_descriptor.__get__")))) rfl), of_decide_eq_true (ex_at ce 11 (f := fun K => decide (PySem.W.takesIn K (.builtin "object.__class__") = some true)) rfl), of_decide_eq_true (ex_at ce 87 (f := fun K => decide (PySem.W.mroIn K (He.ga K "NotPlain") (.type "object") = some true)) rfl)⟩
    v_NotPlain := of_decide_eq_true (ex_at ce 88 (f := fun K => decide (PySem.W.kitOne K (.ref (He.ga K "NotPlain")) (.type "ValueError") = some true)) rfl)
    r_NotPlain := He.exm_ok (cd.fact 135 (f := .exm "NotPlain" "MotionError" true) rfl)
    k_NotPlain_NoDeed := of_decide_eq_true (ex_at ce 89 (f := fun K => decide (PySem.W.kitOne K (.ref (He.ga K "NotPlain")) (.ref (He.ga K "NoDeed")) = some false)) rfl)
    k_NotPlain_NoFlash := of_decide_eq_true (ex_at ce 90 (f := fun K => decide (PySem.W.kitOne K (.ref (He.ga K "NotPlain")) (.ref (He.ga K "NoFlash")) = some false)) rfl)
    k_NotPlain_NoFraction := of_decide_eq_true (ex_at ce 91 (f := fun K => decide (PySem.W.kitOne K (.ref (He.ga K "NotPlain")) (.ref (He.ga K "NoFraction")) = some false)) rfl)
    k_NotPlain_NoHap := of_decide_eq_true (ex_at ce 92 (f := fun K => decide (PySem.W.kitOne K (.ref (He.ga K "NotPlain")) (.ref (He.ga K "NoHap")) = some false)) rfl)
    k_NotPlain_NoHaps := of_decide_eq_true (ex_at ce 93 (f := fun K => decide (PySem.W.kitOne K (.ref (He.ga K "NotPlain")) (.ref (He.ga K "NoHaps")) = some false)) rfl)
    k_NotPlain_NoName := of_decide_eq_true (ex_at ce 94 (f := fun K => decide (PySem.W.kitOne K (.ref (He.ga K "NotPlain")) (.ref (He.ga K "NoName")) = some false)) rfl)
    k_NotPlain_NoNumber := of_decide_eq_true (ex_at ce 95 (f := fun K => decide (PySem.W.kitOne K (.ref (He.ga K "NotPlain")) (.ref (He.ga K "NoNumber")) = some false)) rfl)
    k_NotPlain_NoOrder := of_decide_eq_true (ex_at ce 96 (f := fun K => decide (PySem.W.kitOne K (.ref (He.ga K "NotPlain")) (.ref (He.ga K "NoOrder")) = some false)) rfl)
    k_NotPlain_NoRod := of_decide_eq_true (ex_at ce 97 (f := fun K => decide (PySem.W.kitOne K (.ref (He.ga K "NotPlain")) (.ref (He.ga K "NoRod")) = some false)) rfl)
    k_NotPlain_NoRow := of_decide_eq_true (ex_at ce 98 (f := fun K => decide (PySem.W.kitOne K (.ref (He.ga K "NotPlain")) (.ref (He.ga K "NoRow")) = some false)) rfl)
    k_NotPlain_NoSeat := of_decide_eq_true (ex_at ce 99 (f := fun K => decide (PySem.W.kitOne K (.ref (He.ga K "NotPlain")) (.ref (He.ga K "NoSeat")) = some false)) rfl)
    k_NotPlain_NoSpeed := of_decide_eq_true (ex_at ce 100 (f := fun K => decide (PySem.W.kitOne K (.ref (He.ga K "NotPlain")) (.ref (He.ga K "NoSpeed")) = some false)) rfl)
    k_NotPlain_NoStep := of_decide_eq_true (ex_at ce 101 (f := fun K => decide (PySem.W.kitOne K (.ref (He.ga K "NotPlain")) (.ref (He.ga K "NoStep")) = some false)) rfl)
    k_NotPlain_NoStretch := of_decide_eq_true (ex_at ce 102 (f := fun K => decide (PySem.W.kitOne K (.ref (He.ga K "NotPlain")) (.ref (He.ga K "NoStretch")) = some false)) rfl)
    k_NotPlain_NoText := of_decide_eq_true (ex_at ce 103 (f := fun K => decide (PySem.W.kitOne K (.ref (He.ga K "NotPlain")) (.ref (He.ga K "NoText")) = some false)) rfl)
    k_NotPlain_NotPlain := of_decide_eq_true (ex_at ce 104 (f := fun K => decide (PySem.W.kitOne K (.ref (He.ga K "NotPlain")) (.ref (He.ga K "NotPlain")) = some true)) rfl)
    k_NotPlain_NoWay := of_decide_eq_true (ex_at ce 105 (f := fun K => decide (PySem.W.kitOne K (.ref (He.ga K "NotPlain")) (.ref (He.ga K "NoWay")) = some false)) rfl)
    k_NotPlain_TooMany := of_decide_eq_true (ex_at ce 106 (f := fun K => decide (PySem.W.kitOne K (.ref (He.ga K "NotPlain")) (.ref (He.ga K "TooMany")) = some false)) rfl)
    e_NoDeed := ⟨of_decide_eq_true (ex_at ce 107 (f := fun K => decide (PySem.W.findIn K (.ref (He.ga K "NoDeed")) "__getattribute__" = some (some (.builtin "BaseException.__getattribute__")))) rfl), of_decide_eq_true (ex_at ce 108 (f := fun K => decide (PySem.W.findIn K (.ref (He.ga K "NoDeed")) "__getattr__" = some none)) rfl), of_decide_eq_true (ex_at ce 109 (f := fun K => decide (PySem.W.subIn K (.ref (He.ga K "NoDeed")) (.type "BaseException") = some true)) rfl), of_decide_eq_true (ex_at ce 110 (f := fun K => decide (PySem.W.hasDictIn K (He.ga K "NoDeed") = true)) rfl), of_decide_eq_true (ex_at ce 111 (f := fun K => decide (PySem.W.findIn K (.ref (He.ga K "NoDeed")) "__class__" = some (some (.builtin "object.__class__")))) rfl), of_decide_eq_true (ex_at ce 10 (f := fun K => decide (PySem.W.specialIn K (.builtin "object.__class__") "__get__" = some (some (.builtin "getset_descriptor.__get__")))) rfl), of_decide_eq_true (ex_at ce 11 (f := fun K => decide (PySem.W.takesIn K (.builtin "object.__class__") = some true)) rfl), of_decide_eq_true (ex_at ce 112 (f := fun K => decide (PySem.W.mroIn K (He.ga K "NoDeed") (.type "object") = some true)) rfl)⟩
    v_NoDeed := of_decide_eq_true (ex_at ce 113 (f := fun K => decide (PySem.W.kitOne K (.ref (He.ga K "NoDeed")) (.type "ValueError") = some true)) rfl)
    r_NoDeed := He.exm_ok (cd.fact 136 (f := .exm "NoDeed" "MotionError" true) rfl)
    k_NoDeed_NoDeed := of_decide_eq_true (ex_at ce 114 (f := fun K => decide (PySem.W.kitOne K (.ref (He.ga K "NoDeed")) (.ref (He.ga K "NoDeed")) = some true)) rfl)
    k_NoDeed_NoFlash := of_decide_eq_true (ex_at ce 115 (f := fun K => decide (PySem.W.kitOne K (.ref (He.ga K "NoDeed")) (.ref (He.ga K "NoFlash")) = some false)) rfl)
    k_NoDeed_NoFraction := of_decide_eq_true (ex_at ce 116 (f := fun K => decide (PySem.W.kitOne K (.ref (He.ga K "NoDeed")) (.ref (He.ga K "NoFraction")) = some false)) rfl)
    k_NoDeed_NoHap := of_decide_eq_true (ex_at ce 117 (f := fun K => decide (PySem.W.kitOne K (.ref (He.ga K "NoDeed")) (.ref (He.ga K "NoHap")) = some false)) rfl)
    k_NoDeed_NoHaps := of_decide_eq_true (ex_at ce 118 (f := fun K => decide (PySem.W.kitOne K (.ref (He.ga K "NoDeed")) (.ref (He.ga K "NoHaps")) = some false)) rfl)
    k_NoDeed_NoName := of_decide_eq_true (ex_at ce 119 (f := fun K => decide (PySem.W.kitOne K (.ref (He.ga K "NoDeed")) (.ref (He.ga K "NoName")) = some false)) rfl)
    k_NoDeed_NoNumber := of_decide_eq_true (ex_at ce 120 (f := fun K => decide (PySem.W.kitOne K (.ref (He.ga K "NoDeed")) (.ref (He.ga K "NoNumber")) = some false)) rfl)
    k_NoDeed_NoOrder := of_decide_eq_true (ex_at ce 121 (f := fun K => decide (PySem.W.kitOne K (.ref (He.ga K "NoDeed")) (.ref (He.ga K "NoOrder")) = some false)) rfl)
    k_NoDeed_NoRod := of_decide_eq_true (ex_at ce 122 (f := fun K => decide (PySem.W.kitOne K (.ref (He.ga K "NoDeed")) (.ref (He.ga K "NoRod")) = some false)) rfl)
    k_NoDeed_NoRow := of_decide_eq_true (ex_at ce 123 (f := fun K => decide (PySem.W.kitOne K (.ref (He.ga K "NoDeed")) (.ref (He.ga K "NoRow")) = some false)) rfl)
    k_NoDeed_NoSeat := of_decide_eq_true (ex_at ce 124 (f := fun K => decide (PySem.W.kitOne K (.ref (He.ga K "NoDeed")) (.ref (He.ga K "NoSeat")) = some false)) rfl)
    k_NoDeed_NoSpeed := of_decide_eq_true (ex_at ce 125 (f := fun K => decide (PySem.W.kitOne K (.ref (He.ga K "NoDeed")) (.ref (He.ga K "NoSpeed")) = some false)) rfl)
    k_NoDeed_NoStep := of_decide_eq_true (ex_at ce 126 (f := fun K => decide (PySem.W.kitOne K (.ref (He.ga K "NoDeed")) (.ref (He.ga K "NoStep")) = some false)) rfl)
    k_NoDeed_NoStretch := of_decide_eq_true (ex_at ce 127 (f := fun K => decide (PySem.W.kitOne K (.ref (He.ga K "NoDeed")) (.ref (He.ga K "NoStretch")) = some false)) rfl)
    k_NoDeed_NoText := of_decide_eq_true (ex_at ce 128 (f := fun K => decide (PySem.W.kitOne K (.ref (He.ga K "NoDeed")) (.ref (He.ga K "NoText")) = some false)) rfl)
    k_NoDeed_NotPlain := of_decide_eq_true (ex_at ce 129 (f := fun K => decide (PySem.W.kitOne K (.ref (He.ga K "NoDeed")) (.ref (He.ga K "NotPlain")) = some false)) rfl)
    k_NoDeed_NoWay := of_decide_eq_true (ex_at ce 130 (f := fun K => decide (PySem.W.kitOne K (.ref (He.ga K "NoDeed")) (.ref (He.ga K "NoWay")) = some false)) rfl)
    k_NoDeed_TooMany := of_decide_eq_true (ex_at ce 131 (f := fun K => decide (PySem.W.kitOne K (.ref (He.ga K "NoDeed")) (.ref (He.ga K "TooMany")) = some false)) rfl)
    e_TooMany := ⟨of_decide_eq_true (ex_at ce 132 (f := fun K => decide (PySem.W.findIn K (.ref (He.ga K "TooMany")) "__getattribute__" = some (some (.builtin "BaseException.__getattribute__")))) rfl), of_decide_eq_true (ex_at ce 133 (f := fun K => decide (PySem.W.findIn K (.ref (He.ga K "TooMany")) "__getattr__" = some none)) rfl), of_decide_eq_true (ex_at ce 134 (f := fun K => decide (PySem.W.subIn K (.ref (He.ga K "TooMany")) (.type "BaseException") = some true)) rfl), of_decide_eq_true (ex_at ce 135 (f := fun K => decide (PySem.W.hasDictIn K (He.ga K "TooMany") = true)) rfl), of_decide_eq_true (ex_at ce 136 (f := fun K => decide (PySem.W.findIn K (.ref (He.ga K "TooMany")) "__class__" = some (some (.builtin "object.__class__")))) rfl), of_decide_eq_true (ex_at ce 10 (f := fun K => decide (PySem.W.specialIn K (.builtin "object.__class__") "__get__" = some (some (.builtin "getset_descriptor.__get__")))) rfl), of_decide_eq_true (ex_at ce 11 (f := fun K => decide (PySem.W.takesIn K (.builtin "object.__class__") = some true)) rfl), of_decide_eq_true (ex_at ce 137 (f := fun K => decide (PySem.W.mroIn K (He.ga K "TooMany") (.type "object") = some true)) rfl)⟩
    v_TooMany := of_decide_eq_true (ex_at ce 138 (f := fun K => decide (PySem.W.kitOne K (.ref (He.ga K "TooMany")) (.type "ValueError") = some true)) rfl)
    r_TooMany := He.exm_ok (cd.fact 137 (f := .exm "TooMany" "MotionError" true) rfl)
    k_TooMany_NoDeed := of_decide_eq_true (ex_at ce 139 (f := fun K => decide (PySem.W.kitOne K (.ref (He.ga K "TooMany")) (.ref (He.ga K "NoDeed")) = some false)) rfl)
    k_TooMany_NoFlash := of_decide_eq_true (ex_at ce 140 (f := fun K => decide (PySem.W.kitOne K (.ref (He.ga K "TooMany")) (.ref (He.ga K "NoFlash")) = some false)) rfl)
    k_TooMany_NoFraction := of_decide_eq_true (ex_at ce 141 (f := fun K => decide (PySem.W.kitOne K (.ref (He.ga K "TooMany")) (.ref (He.ga K "NoFraction")) = some false)) rfl)
    k_TooMany_NoHap := of_decide_eq_true (ex_at ce 142 (f := fun K => decide (PySem.W.kitOne K (.ref (He.ga K "TooMany")) (.ref (He.ga K "NoHap")) = some false)) rfl)
    k_TooMany_NoHaps := of_decide_eq_true (ex_at ce 143 (f := fun K => decide (PySem.W.kitOne K (.ref (He.ga K "TooMany")) (.ref (He.ga K "NoHaps")) = some false)) rfl)
    k_TooMany_NoName := of_decide_eq_true (ex_at ce 144 (f := fun K => decide (PySem.W.kitOne K (.ref (He.ga K "TooMany")) (.ref (He.ga K "NoName")) = some false)) rfl)
    k_TooMany_NoNumber := of_decide_eq_true (ex_at ce 145 (f := fun K => decide (PySem.W.kitOne K (.ref (He.ga K "TooMany")) (.ref (He.ga K "NoNumber")) = some false)) rfl)
    k_TooMany_NoOrder := of_decide_eq_true (ex_at ce 146 (f := fun K => decide (PySem.W.kitOne K (.ref (He.ga K "TooMany")) (.ref (He.ga K "NoOrder")) = some false)) rfl)
    k_TooMany_NoRod := of_decide_eq_true (ex_at ce 147 (f := fun K => decide (PySem.W.kitOne K (.ref (He.ga K "TooMany")) (.ref (He.ga K "NoRod")) = some false)) rfl)
    k_TooMany_NoRow := of_decide_eq_true (ex_at ce 148 (f := fun K => decide (PySem.W.kitOne K (.ref (He.ga K "TooMany")) (.ref (He.ga K "NoRow")) = some false)) rfl)
    k_TooMany_NoSeat := of_decide_eq_true (ex_at ce 149 (f := fun K => decide (PySem.W.kitOne K (.ref (He.ga K "TooMany")) (.ref (He.ga K "NoSeat")) = some false)) rfl)
    k_TooMany_NoSpeed := of_decide_eq_true (ex_at ce 150 (f := fun K => decide (PySem.W.kitOne K (.ref (He.ga K "TooMany")) (.ref (He.ga K "NoSpeed")) = some false)) rfl)
    k_TooMany_NoStep := of_decide_eq_true (ex_at ce 151 (f := fun K => decide (PySem.W.kitOne K (.ref (He.ga K "TooMany")) (.ref (He.ga K "NoStep")) = some false)) rfl)
    k_TooMany_NoStretch := of_decide_eq_true (ex_at ce 152 (f := fun K => decide (PySem.W.kitOne K (.ref (He.ga K "TooMany")) (.ref (He.ga K "NoStretch")) = some false)) rfl)
    k_TooMany_NoText := of_decide_eq_true (ex_at ce 153 (f := fun K => decide (PySem.W.kitOne K (.ref (He.ga K "TooMany")) (.ref (He.ga K "NoText")) = some false)) rfl)
    k_TooMany_NotPlain := of_decide_eq_true (ex_at ce 154 (f := fun K => decide (PySem.W.kitOne K (.ref (He.ga K "TooMany")) (.ref (He.ga K "NotPlain")) = some false)) rfl)
    k_TooMany_NoWay := of_decide_eq_true (ex_at ce 155 (f := fun K => decide (PySem.W.kitOne K (.ref (He.ga K "TooMany")) (.ref (He.ga K "NoWay")) = some false)) rfl)
    k_TooMany_TooMany := of_decide_eq_true (ex_at ce 156 (f := fun K => decide (PySem.W.kitOne K (.ref (He.ga K "TooMany")) (.ref (He.ga K "TooMany")) = some true)) rfl)
  }
  have e := hfa.symm.trans (He.glo_ok X G (cd.fact 84 (f := .glo "law") rfl))
  cases e
  have bA := FunD.bindsA (ps := ["_law_script"]) E74 fun _ _ _ _ _ _ us hl => match us, hl with | [_], _ => rfl
  exact ⟨fd74, fun s v => bA s [v] rfl, fun base _ _ => h_law T F74⟩
end Z
open PySem PySem.W PyProof.Rows
set_option maxRecDepth 100000 in
set_option maxHeartbeats 0 in
theorem PySem.Challenge.cw_seatclocks_k83_whole_benches_holds : PySem.Challenge.rw_seatclocks_k83_whole_benches.Holds := by
  w_on; o_law
  refine HandSHeadRun.head_imp (r := Z.RZ0) (q := Z.QZ0) (H := Z.HKZ) (ob := Z.obZ Z.ASZ Z.FAZ Z.FNZ Z.TSZ Z.EXZ) (M := 12000) (loose := Z.LOZ) (d := HandSHeadRun.topDef Z.RZ0.prog 96) (kwd := []) Z.obZ_eq Z.run_all (by kernel_rfl) (by kernel_rfl) (by kernel_rfl) (by rfl) (by first | assumption | decide +kernel) (by decide +kernel) ⟨rfl, rfl, rfl, rfl, rfl, by decide +kernel⟩ ?hw ?hc
  case hw => w_witness2
  case hc =>
    refine Z.walk_G (l := PySem.Challenge.rw_seatclocks_k83_whole_benches) (n := 63) (k := 13) (x := "_law_script") rfl (by decide) (by kernel_rfl) ⟨rfl, by decide, by decide⟩ rfl ?F
    intro w mg fa h Y G hmg0
    obtain ⟨K, KX, c⟩ := Y
    have hmg : mg ("law" : PySem.Str) = some (.ref fa) := by
      have e : (HandSHeadRun.topDef Z.RZ0.prog 96).name = ("law" : PySem.Str) := by kernel_rfl
      rw [← e]
      exact hmg0
    obtain ⟨fd, hb, hF⟩ := Z.all_mk (l := PySem.Challenge.rw_seatclocks_k83_whole_benches) KX G hmg c
    exact ⟨K, fd, Z.spP K Z.R_law, KX, hb, fun H a ns hl _ hS => Z.law_sp hl hS, hF⟩
