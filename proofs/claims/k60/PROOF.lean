import PyProof.Rows.All
import Wide.All
import OpenK.AllK
import Wide.FinOn
import HandS.Codes
import HandS.Defaults
import HandS.ExcField
import HandS.ExcInit
import HandS.ExcIs
import HandS.Finally
import HandS.ForExc
import HandS.ForMost
import HandS.Gcd
import HandS.IsInst
import HandS.Lambda
import HandS.MakeKw
import HandS.OwnEq
import HandS.Property
import HandS.TryMany
import HandS.TryOnly
import HandS.Walk
import HandS.Wide
import HandS.WordsExc
import HandS.DictComp
import HandS.DictTup
import HandS.CallLocal
import HandS.Deep
import HandS.TupAny
import HandS.Star
import HandS.Zip
import HandS.Style
import KE.KExcInit
import KE.KExcIs
import KE.KExcPX
import KE.KLam
import KE.KNest
import KE.KNestM
import KE.KOpsOwn
import KE.KWithOwn
import KE.KDictKeyed
import KE.KDictCopyH
import KE.KDictPairs
import KE.GoesMore
import KE.GoesEnum
import KE.GoesZip
import KE.KEqNest
import KE.KRevSl
import PyProof.CallFns
import PyProof.InstNe
import PyProof.ReprLen
import PyProof.ReprRoads
import HandS.Head0
import HandS.Head1
import HandS.Head2
import HandS.HeadHook1
import HandS.HeadHook2
import HandS.HeadHook4
import KE.KStateDown
import PySem.Challenge.RW_twodivisions_k60_values_of_words
set_option Elab.async false
set_option maxRecDepth 100000
set_option maxHeartbeats 4000000
set_option linter.all false
set_option exponentiation.threshold 5000
namespace W1
open PySem L2
local macro_rules | `(tactic| and_intros) => `(tactic| first | refine ⟨_, rfl, ?_⟩ | refine ⟨_, _, rfl, rfl, ?_⟩)
def top (i : Nat) : Stmt := PySem.Challenge.pw_twodivisions_k60_values_of_words.main.body.getD i (.Pass ⟨0, 0, 0, 0⟩)
/-! ### the head by one run: what the top has left is told by tests of a part of the heap -/
section
open PySem.W PySem.Calls PyProof.Rows
/-- a def, a method, a getter: where it stands, what it is -/
structure DefY where
  ad : PySem.W.Frag → Addr
  name : Str
  qual : Str
  df : List V
  st : Stmt
def fnY (K : PySem.W.Frag) (a : Addr) : He.FnW := match K.lookup a with
  | some ⟨_, _, .func fd, _⟩ => some (fd.name, fd.qualname, fd.params, fd.body, fd.scope, fd.globals, fd.closure, fd.builtins)
  | _ => none
def DefY.val (d : DefY) : He.FnW := some (d.name, d.qual, defArgs d.st, .stmts (defBody d.st), defScope d.st, mainGlobals, [], builtinsNs)
def noneB : Value → Bool
  | .none => true
  | _ => false
theorem noneB_ok {v : Value} (h : noneB v = true) : v = .none := by
  cases v <;> first | rfl | cases h
/-- the defaults: none, or a tuple of these -/
def dfOk (K : PySem.W.Frag) : List V → Value → Bool
  | [], v => noneB v
  | x :: xs, .ref T => (match K.lookup T with
    | some ⟨_, _, .seq its _, _⟩ => He.relAll (x :: xs) its.toList
    | _ => false)
  | _ :: _, _ => false
def DefY.ok (K : PySem.W.Frag) (d : DefY) : Bool := PySem.W.keepIn K (.ref (d.ad K)) && (match K.lookup (d.ad K) with
  | some ⟨_, _, .func fd, _⟩ => PySem.W.codeIn K fd.code d.qual && dfOk K d.df fd.defaults
  | _ => false)
theorem DefY.raw {K : PySem.W.Frag} {d : DefY} (e : fnY K (d.ad K) = d.val) (c : d.ok K = true) : ∃ (oc dV kV doc pm cdv ct : Value) (od an : Option Addr) (osl : Array (Option Value)), K.lookup (d.ad K) = some ⟨oc, od, .func (PySem.W.fnOf d.name d.qual (defArgs d.st) (defBody d.st) (defScope d.st) dV kV doc pm an cdv ct), osl⟩ ∧ PySem.W.codeIn K cdv d.qual = true ∧ PySem.W.keepIn K (.ref (d.ad K)) = true ∧ dfOk K d.df dV = true := by
  obtain ⟨kp, c2⟩ := He.ba c
  unfold fnY at e
  cases q : K.lookup (d.ad K) with
  | none =>
    rw [q] at c2
    cases c2
  | some o =>
    obtain ⟨oc, od, dt, osl⟩ := o
    rw [q] at c2 e
    cases dt with
    | func fd =>
      obtain ⟨n1, n2, n3, n4, n5, n6, n7, n8, n9, n10, n11, n12, n13, n14, n15⟩ := fd
      have e2 : (some (n1, n2, n3, n4, n5, n6, n7, n15) : He.FnW) = some (d.name, d.qual, defArgs d.st, .stmts (defBody d.st), defScope d.st, mainGlobals, [], builtinsNs) := e
      simp only [Option.some.injEq, Prod.mk.injEq] at e2
      obtain ⟨h1, h2, h3, h4, h5, h6, h7, h8⟩ := e2
      subst h1 h2 h3 h4 h5 h6 h7 h8
      have c3 : (PySem.W.codeIn K n13 d.qual && dfOk K d.df n8) = true := c2
      obtain ⟨k1, k2⟩ := He.ba c3
      exact ⟨oc, n8, n9, n10, n11, n13, n14, od, n12, osl, rfl, k1, kp, k2⟩
    | _ => cases c2
/-- the getter of a property -/
def gA (K : PySem.W.Frag) (p : Addr) : Addr := match PySem.W.recIn K p "property" with
  | some (.ref g :: _) => g
  | _ => 0
def gB (K : PySem.W.Frag) (p : Addr) : Bool := match PySem.W.recIn K p "property" with
  | some (.ref _ :: _) => true
  | _ => false
theorem gB_ok {K : PySem.W.Frag} {p : Addr} (h : gB K p = true) : ∃ rest, PySem.W.recIn K p "property" = some (.ref (gA K p) :: rest) := by
  unfold gB at h
  unfold gA
  cases q : PySem.W.recIn K p "property" with
  | none => rw [q] at h; cases h
  | some l =>
    rw [q] at h
    cases l with
    | nil => cases h
    | cons v r => cases v <;> first | exact ⟨_, rfl⟩ | cases h
/-- the code of the def at a -/
def codeY (K : PySem.W.Frag) (a : Addr) : Addr := match K.lookup a with
  | some ⟨_, _, .func fd, _⟩ => (match fd.code with
    | .ref c => c
    | _ => 0)
  | _ => 0
theorem codeY_eq {K : PySem.W.Frag} {a c : Addr} {oc : Value} {od : Option Addr} {osl : Array (Option Value)} {fd : FuncData} (lk : K.lookup a = some ⟨oc, od, .func fd, osl⟩) (e : fd.code = .ref c) : codeY K a = c := by
  unfold codeY
  rw [lk]
  show (match fd.code with | .ref c => c | _ => 0) = c
  rw [e]
def intB (K : PySem.W.Frag) (x : Str) (i : Int) : Bool := match PySem.W.nsIn K mainGlobals x with
  | some (some (.int j _)) => decide (j = i)
  | _ => false
theorem intB_ok {K : PySem.W.Frag} {x : Str} {i : Int} (h : intB K x i = true) : ∃ t, PySem.W.nsIn K mainGlobals x = some (some (.int i t)) := by
  unfold intB at h
  cases q : PySem.W.nsIn K mainGlobals x with
  | none => rw [q] at h; cases h
  | some o =>
    rw [q] at h
    cases o with
    | none => cases h
    | some v => cases v <;> first | (have e := of_decide_eq_true h; subst e; exact ⟨_, rfl⟩) | cases h
def strB (K : PySem.W.Frag) (x z : Str) : Bool := match PySem.W.nsIn K mainGlobals x with
  | some (some (.str y _)) => decide (y = z)
  | _ => false
theorem strB_ok {K : PySem.W.Frag} {x z : Str} (h : strB K x z = true) : ∃ t, PySem.W.nsIn K mainGlobals x = some (some (.str z t)) := by
  unfold strB at h
  cases q : PySem.W.nsIn K mainGlobals x with
  | none => rw [q] at h; cases h
  | some o =>
    rw [q] at h
    cases o with
    | none => cases h
    | some v => cases v <;> first | (have e := of_decide_eq_true h; subst e; exact ⟨_, rfl⟩) | cases h
def tupY (K : PySem.W.Frag) (a : Addr) (vs : List V) : Bool := match K.lookup a with
  | some ⟨.type c, _, .seq its _, _⟩ => decide (c = "tuple") && (decide (its.size ≤ sizeLine) && He.relAll vs its.toList)
  | _ => false
theorem tupY_ok {K : PySem.W.Frag} {a : Addr} {vs : List V} (h : tupY K a vs = true) : ∃ (ot : Obj) (it : Array Value) (n : Nat), K.lookup a = some ot ∧ ot.cls = .type "tuple" ∧ ot.data = .seq it n ∧ it.size ≤ sizeLine ∧ Vals vs it.toList := by
  unfold tupY at h
  cases q : K.lookup a with
  | none => rw [q] at h; cases h
  | some o =>
    obtain ⟨oc, od, dt, osl⟩ := o
    rw [q] at h
    cases oc with
    | type c =>
      cases dt with
      | seq its n =>
        obtain ⟨h1, h2⟩ := He.ba (show (decide (c = "tuple") && (decide (its.size ≤ sizeLine) && He.relAll vs its.toList)) = true from h)
        obtain ⟨h3, h4⟩ := He.ba h2
        exact ⟨_, its, n, rfl, congrArg Value.type (of_decide_eq_true h1), rfl, of_decide_eq_true h3, He.relAll_ok h4⟩
      | _ => cases h
    | _ => cases dt <;> cases h
structure SaysY (fs : List DefY) (exs : List (PySem.W.Frag → Bool)) (vf : PySem.W.Frag → Addr) (h : Heap) (K : PySem.W.Frag) : Prop where
  fn : (fs.map fun d => fnY K (d.ad K)) = fs.map DefY.val
  ok : (fs.all fun d => d.ok K) = true
  ex : (exs.all fun t => t K) = true
  hd : PySem.W.codeHdIn K (codeY K (vf K)) (He.tabOf K (codeY K (vf K))) = true
  out : K.lookup (He.tabOf K (codeY K (vf K))) = none
  empty : h.get? (He.tabOf K (codeY K (vf K))) = some ({ cls := .none, data := .fields #[] } : Obj)
def tabY (g : Addr → Option Obj) (a : Addr) : Bool := match g a with
  | some o => He.emptyTab o
  | none => false
def obsK (fs : List DefY) (exs : List (PySem.W.Frag → Bool)) (vf : PySem.W.Frag → Addr) (g : Addr → Option Obj) (K : PySem.W.Frag) : Bool × List He.FnW :=
  ((fs.all fun d => d.ok K) && ((exs.all fun t => t K) && (PySem.W.codeHdIn K (codeY K (vf K)) (He.tabOf K (codeY K (vf K))) && tabY g (He.tabOf K (codeY K (vf K))))), fs.map fun d => fnY K (d.ad K))
def obsY (n : Nat) (fs : List DefY) (exs : List (PySem.W.Frag → Bool)) (vf : PySem.W.Frag → Addr) (g : Addr → Option Obj) : Bool × List He.FnW := obsK fs exs vf g (He.frT g (List.range n))
def valY (fs : List DefY) : Bool × List He.FnW := (true, fs.map DefY.val)
theorem saysY_of {n : Nat} {fs : List DefY} {exs : List (PySem.W.Frag → Bool)} {vf : PySem.W.Frag → Addr} {h : Heap} (e : obsY n fs exs vf h.get? = valY fs) : SaysY fs exs vf h (He.frT h.get? (List.range n)) := by
  have e2 := congrArg (fun z : Bool × List He.FnW => z.2) e
  have e1 : ((fs.all fun d => d.ok (He.frT h.get? (List.range n))) && ((exs.all fun t => t (He.frT h.get? (List.range n))) && (PySem.W.codeHdIn (He.frT h.get? (List.range n)) (codeY (He.frT h.get? (List.range n)) (vf (He.frT h.get? (List.range n)))) (He.tabOf (He.frT h.get? (List.range n)) (codeY (He.frT h.get? (List.range n)) (vf (He.frT h.get? (List.range n))))) && tabY h.get? (He.tabOf (He.frT h.get? (List.range n)) (codeY (He.frT h.get? (List.range n)) (vf (He.frT h.get? (List.range n)))))))) = true := congrArg (fun z : Bool × List He.FnW => z.1) e
  obtain ⟨a1, b1⟩ := He.ba e1
  obtain ⟨a2, b2⟩ := He.ba b1
  obtain ⟨a3, b3⟩ := He.ba b2
  unfold tabY at b3
  cases q : h.get? (He.tabOf (He.frT h.get? (List.range n)) (codeY (He.frT h.get? (List.range n)) (vf (He.frT h.get? (List.range n))))) with
  | none => rw [q] at b3; cases b3
  | some o =>
    rw [q] at b3
    exact ⟨e2, a1, a2, a3, He.frT_none q b3, by rw [q, He.emptyTab_eq b3]⟩
def hookY (n : Nat) (fs : List DefY) (exs : List (PySem.W.Frag → Bool)) (vf : PySem.W.Frag → Addr) : PySem.W.Hook where
  α := Bool × List He.FnW
  obs := fun s => obsY n fs exs vf s.heap.get?
  val := fun _ => valY fs
  says := fun _ h => ∃ K : PySem.W.Frag, K.In h ∧ SaysY fs exs vf h K
  of := fun _ _ e => ⟨_, He.frT_in, saysY_of e⟩
  keeps := fun _ _ _ ⟨K, hK, c⟩ k => ⟨K, PySem.W.Frag.In.keeps hK k, ⟨c.fn, c.ok, c.ex, c.hd, c.out, k _ _ c.empty⟩⟩
theorem obsY_eq {n : Nat} {fs : List DefY} {exs : List (PySem.W.Frag → Bool)} {vf : PySem.W.Frag → Addr} {g : Addr → Option Obj} {s : Shared} (h : ∀ a, g a = s.heap.get? a) : obsY n fs exs vf g = (hookY n fs exs vf).obs s := by
  have e : g = s.heap.get? := funext h
  rw [e] <;> rfl
section
variable {fs : List DefY} {exs : List (PySem.W.Frag → Bool)} {vf : PySem.W.Frag → Addr} {h : Heap} {K : PySem.W.Frag}
theorem SaysY.t (c : SaysY fs exs vf h K) (i : Nat) {t : PySem.W.Frag → Bool} (e : exs[i]? = some t := by rfl) : t K = true := List.all_eq_true.mp c.ex t (List.mem_of_getElem? e)
theorem SaysY.dd (c : SaysY fs exs vf h K) (i : Nat) {d : DefY} (e : fs[i]? = some d := by rfl) : ∃ (oc dV kV doc pm cdv ct : Value) (od an : Option Addr) (osl : Array (Option Value)), K.lookup (d.ad K) = some ⟨oc, od, .func (PySem.W.fnOf d.name d.qual (defArgs d.st) (defBody d.st) (defScope d.st) dV kV doc pm an cdv ct), osl⟩ ∧ PySem.W.codeIn K cdv d.qual = true ∧ PySem.W.keepIn K (.ref (d.ad K)) = true ∧ dfOk K d.df dV = true := by
  have e2 : (fs.map fun d => fnY K (d.ad K))[i]? = (fs.map DefY.val)[i]? := by rw [c.fn]
  rw [List.getElem?_map, List.getElem?_map, e] at e2
  exact DefY.raw (Option.some.inj e2) (List.all_eq_true.mp c.ok d (List.mem_of_getElem? e))
theorem SaysY.d (c : SaysY fs exs vf h K) (i : Nat) {d : DefY} (e : fs[i]? = some d := by rfl) (n : d.df = [] := by rfl) : ∃ (oc kV doc pm cdv ct : Value) (od an : Option Addr) (osl : Array (Option Value)), K.lookup (d.ad K) = some ⟨oc, od, .func (PySem.W.fnOf d.name d.qual (defArgs d.st) (defBody d.st) (defScope d.st) .none kV doc pm an cdv ct), osl⟩ ∧ PySem.W.codeIn K cdv d.qual = true ∧ PySem.W.keepIn K (.ref (d.ad K)) = true := by
  obtain ⟨oc, dV, kV, doc, pm, cdv, ct, od, an, osl, l, c1, k, z⟩ := c.dd i e
  rw [n] at z
  obtain rfl := noneB_ok z
  exact ⟨oc, kV, doc, pm, cdv, ct, od, an, osl, l, c1, k⟩
end
end
/-! ### the tests of what the top has left -/
section
open PySem.W PySem.Calls PyProof.Rows
def tY0 (K : PySem.W.Frag) : Bool := decide (PySem.W.nsIn K mainGlobals "is_integer" = some (some (.ref (He.ga K "is_integer"))))
def tY1 (K : PySem.W.Frag) : Bool := decide (PySem.W.nsIn K mainGlobals "is_between" = some (some (.ref (He.ga K "is_between"))))
def tY2 (K : PySem.W.Frag) : Bool := decide (PySem.W.nsIn K mainGlobals "is_rule" = some (some (.ref (He.ga K "is_rule"))))
def tY3 (K : PySem.W.Frag) : Bool := decide (PySem.W.nsIn K mainGlobals "is_sign" = some (some (.ref (He.ga K "is_sign"))))
def tY4 (K : PySem.W.Frag) : Bool := decide (PySem.W.nsIn K mainGlobals "is_base" = some (some (.ref (He.ga K "is_base"))))
def tY5 (K : PySem.W.Frag) : Bool := decide (PySem.W.nsIn K mainGlobals "is_remainder" = some (some (.ref (He.ga K "is_remainder"))))
def tY6 (K : PySem.W.Frag) : Bool := decide (PySem.W.nsIn K mainGlobals "is_name" = some (some (.ref (He.ga K "is_name"))))
def tY7 (K : PySem.W.Frag) : Bool := decide (PySem.W.nsIn K mainGlobals "is_listing" = some (some (.ref (He.ga K "is_listing"))))
def tY8 (K : PySem.W.Frag) : Bool := decide (PySem.W.nsIn K mainGlobals "is_factors" = some (some (.ref (He.ga K "is_factors"))))
def tY9 (K : PySem.W.Frag) : Bool := decide (PySem.W.nsIn K mainGlobals "is_register" = some (some (.ref (He.ga K "is_register"))))
def tY10 (K : PySem.W.Frag) : Bool := decide (PySem.W.nsIn K mainGlobals "is_mode" = some (some (.ref (He.ga K "is_mode"))))
def tY11 (K : PySem.W.Frag) : Bool := decide (PySem.W.nsIn K mainGlobals "is_row" = some (some (.ref (He.ga K "is_row"))))
def tY12 (K : PySem.W.Frag) : Bool := decide (PySem.W.nsIn K mainGlobals "first_wrong" = some (some (.ref (He.ga K "first_wrong"))))
def tY13 (K : PySem.W.Frag) : Bool := decide (PySem.W.nsIn K mainGlobals "check_registers" = some (some (.ref (He.ga K "check_registers"))))
def tY14 (K : PySem.W.Frag) : Bool := decide (PySem.W.nsIn K mainGlobals "check_modes" = some (some (.ref (He.ga K "check_modes"))))
def tY15 (K : PySem.W.Frag) : Bool := decide (PySem.W.nsIn K mainGlobals "check_rows" = some (some (.ref (He.ga K "check_rows"))))
def tY16 (K : PySem.W.Frag) : Bool := decide (PySem.W.nsIn K mainGlobals "check_ends" = some (some (.ref (He.ga K "check_ends"))))
def tY17 (K : PySem.W.Frag) : Bool := decide (PySem.W.nsIn K mainGlobals "check_program" = some (some (.ref (He.ga K "check_program"))))
def tY18 (K : PySem.W.Frag) : Bool := decide (PySem.W.nsIn K mainGlobals "goes_up" = some (some (.ref (He.ga K "goes_up"))))
def tY19 (K : PySem.W.Frag) : Bool := decide (PySem.W.nsIn K mainGlobals "divide" = some (some (.ref (He.ga K "divide"))))
def tY20 (K : PySem.W.Frag) : Bool := decide (PySem.W.nsIn K mainGlobals "table_of" = some (some (.ref (He.ga K "table_of"))))
def tY21 (K : PySem.W.Frag) : Bool := decide (PySem.W.nsIn K mainGlobals "sign_of" = some (some (.ref (He.ga K "sign_of"))))
def tY22 (K : PySem.W.Frag) : Bool := decide (PySem.W.nsIn K mainGlobals "weighed" = some (some (.ref (He.ga K "weighed"))))
def tY23 (K : PySem.W.Frag) : Bool := decide (PySem.W.nsIn K mainGlobals "result_of" = some (some (.ref (He.ga K "result_of"))))
def tY24 (K : PySem.W.Frag) : Bool := decide (PySem.W.nsIn K mainGlobals "path_of" = some (some (.ref (He.ga K "path_of"))))
def tY25 (K : PySem.W.Frag) : Bool := decide (PySem.W.nsIn K mainGlobals "first_mode" = some (some (.ref (He.ga K "first_mode"))))
def tY26 (K : PySem.W.Frag) : Bool := decide (PySem.W.nsIn K mainGlobals "first_values" = some (some (.ref (He.ga K "first_values"))))
def tY27 (K : PySem.W.Frag) : Bool := decide (PySem.W.nsIn K mainGlobals "walk" = some (some (.ref (He.ga K "walk"))))
def tY28 (K : PySem.W.Frag) : Bool := decide (PySem.W.nsIn K mainGlobals "result_at" = some (some (.ref (He.ga K "result_at"))))
def tY29 (K : PySem.W.Frag) : Bool := decide (PySem.W.nsIn K mainGlobals "is_word" = some (some (.ref (He.ga K "is_word"))))
def tY30 (K : PySem.W.Frag) : Bool := decide (PySem.W.nsIn K mainGlobals "is_figures" = some (some (.ref (He.ga K "is_figures"))))
def tY31 (K : PySem.W.Frag) : Bool := decide (PySem.W.nsIn K mainGlobals "number_of" = some (some (.ref (He.ga K "number_of"))))
def tY32 (K : PySem.W.Frag) : Bool := decide (PySem.W.nsIn K mainGlobals "check_meant" = some (some (.ref (He.ga K "check_meant"))))
def tY33 (K : PySem.W.Frag) : Bool := decide (PySem.W.nsIn K mainGlobals "value_at" = some (some (.ref (He.ga K "value_at"))))
def tY34 (K : PySem.W.Frag) : Bool := decide (PySem.W.nsIn K mainGlobals "word_value" = some (some (.ref (He.ga K "word_value"))))
def tY35 (K : PySem.W.Frag) : Bool := decide (PySem.W.nsIn K mainGlobals "_law_pool" = some (some (.ref (He.ga K "_law_pool"))))
def tY36 (K : PySem.W.Frag) : Bool := decide (PySem.W.nsIn K mainGlobals "_law_draw" = some (some (.ref (He.ga K "_law_draw"))))
def tY37 (K : PySem.W.Frag) : Bool := decide (PySem.W.nsIn K mainGlobals "_law_choose" = some (some (.ref (He.ga K "_law_choose"))))
def tY38 (K : PySem.W.Frag) : Bool := decide (PySem.W.nsIn K mainGlobals "_law_update" = some (some (.ref (He.ga K "_law_update"))))
def tY39 (K : PySem.W.Frag) : Bool := decide (PySem.W.nsIn K mainGlobals "_law_rows" = some (some (.ref (He.ga K "_law_rows"))))
def tY40 (K : PySem.W.Frag) : Bool := decide (PySem.W.nsIn K mainGlobals "_law_built" = some (some (.ref (He.ga K "_law_built"))))
def tY41 (K : PySem.W.Frag) : Bool := decide (PySem.W.nsIn K mainGlobals "_law_parts" = some (some (.ref (He.ga K "_law_parts"))))
def tY42 (K : PySem.W.Frag) : Bool := decide (PySem.W.nsIn K mainGlobals "_law_made" = some (some (.ref (He.ga K "_law_made"))))
def tY43 (K : PySem.W.Frag) : Bool := decide (PySem.W.nsIn K mainGlobals "_law_split" = some (some (.ref (He.ga K "_law_split"))))
def tY44 (K : PySem.W.Frag) : Bool := decide (PySem.W.nsIn K mainGlobals "_law_line" = some (some (.ref (He.ga K "_law_line"))))
def tY45 (K : PySem.W.Frag) : Bool := decide (PySem.W.nsIn K mainGlobals "_law_play" = some (some (.ref (He.ga K "_law_play"))))
def tY46 (K : PySem.W.Frag) : Bool := decide (PySem.W.nsIn K mainGlobals "_law_dot" = some (some (.ref (He.ga K "_law_dot"))))
def tY47 (K : PySem.W.Frag) : Bool := decide (PySem.W.nsIn K mainGlobals "_law_value" = some (some (.ref (He.ga K "_law_value"))))
def tY48 (K : PySem.W.Frag) : Bool := decide (PySem.W.nsIn K mainGlobals "_law_words" = some (some (.ref (He.ga K "_law_words"))))
def tY49 (K : PySem.W.Frag) : Bool := decide (PySem.W.nsIn K mainGlobals "_law_refused" = some (some (.ref (He.ga K "_law_refused"))))
def tY50 (K : PySem.W.Frag) : Bool := decide (PySem.W.nsIn K mainGlobals "_law_no_side" = some (some (.ref (He.ga K "_law_no_side"))))
def tY51 (K : PySem.W.Frag) : Bool := decide (PySem.W.specialIn K (.builtin "object.__class__") "__get__" = some (some (.builtin "getset_descriptor.__get__")))
def tY52 (K : PySem.W.Frag) : Bool := decide (PySem.W.takesIn K (.builtin "object.__class__") = some true)
def tY53 (K : PySem.W.Frag) : Bool := decide (PySem.W.nsIn K mainGlobals "InvalidBase" = some (some (.ref (He.ga K "InvalidBase"))))
def tY54 (K : PySem.W.Frag) : Bool := decide (PySem.W.findIn K (.ref (He.ga K "InvalidBase")) "__init__" = some (some (.ref (He.ma K (He.ga K "InvalidBase") "__init__"))))
def tY55 (K : PySem.W.Frag) : Bool := decide ((PySem.W.excInitIn K (He.ga K "InvalidBase") [.type "ValueError", .type "Exception", .type "BaseException", .type "object"] "ValueError.__new__", PySem.W.excOver K (He.ga K "InvalidBase") [.type "ValueError", .type "Exception", .type "BaseException", .type "object"], PySem.W.hasDictIn K (He.ga K "InvalidBase"), PySem.W.isFn K (.ref (He.ma K (He.ga K "InvalidBase") "__init__")), PySem.W.keepIn K (.ref (He.ga K "InvalidBase"))) = (true, true, true, true, true))
def tY56 (K : PySem.W.Frag) : Bool := decide ((PySem.W.findIn K (.ref (He.ga K "InvalidBase")) "__setattr__", PySem.W.findIn K (.ref (He.ga K "InvalidBase")) "__getattribute__", PySem.W.findIn K (.ref (He.ga K "InvalidBase")) "__getattr__", PySem.W.findIn K (.ref (He.ga K "InvalidBase")) "__class__") = (some (some (.builtin "object.__setattr__")), some (some (.builtin "BaseException.__getattribute__")), some none, some (some (.builtin "object.__class__"))))
def tY57 (K : PySem.W.Frag) : Bool := decide ((PySem.W.subIn K (.ref (He.ga K "InvalidBase")) (.type "BaseException"), PySem.W.mroIn K (He.ga K "InvalidBase") (.type "object"), (PySem.W.clsIn K (He.ga K "InvalidBase")).map (·.mro), PySem.W.typeIn K (.ref (He.ga K "InvalidBase"))) = (some true, some true, some (.ref (He.ga K "InvalidBase") :: [.type "ValueError", .type "Exception", .type "BaseException", .type "object"]), some (.type "type")))
def tY58 (K : PySem.W.Frag) : Bool := decide ((["value"] : List Str).map (fun f => PySem.W.findIn K (.ref (He.ga K "InvalidBase")) f) = (["value"] : List Str).map fun _ => some none)
def tY59 (K : PySem.W.Frag) : Bool := decide (PySem.W.nsIn K mainGlobals "InvalidRegisters" = some (some (.ref (He.ga K "InvalidRegisters"))))
def tY60 (K : PySem.W.Frag) : Bool := decide (PySem.W.findIn K (.ref (He.ga K "InvalidRegisters")) "__init__" = some (some (.ref (He.ma K (He.ga K "InvalidRegisters") "__init__"))))
def tY61 (K : PySem.W.Frag) : Bool := decide ((PySem.W.excInitIn K (He.ga K "InvalidRegisters") [.type "ValueError", .type "Exception", .type "BaseException", .type "object"] "ValueError.__new__", PySem.W.excOver K (He.ga K "InvalidRegisters") [.type "ValueError", .type "Exception", .type "BaseException", .type "object"], PySem.W.hasDictIn K (He.ga K "InvalidRegisters"), PySem.W.isFn K (.ref (He.ma K (He.ga K "InvalidRegisters") "__init__")), PySem.W.keepIn K (.ref (He.ga K "InvalidRegisters"))) = (true, true, true, true, true))
def tY62 (K : PySem.W.Frag) : Bool := decide ((PySem.W.findIn K (.ref (He.ga K "InvalidRegisters")) "__setattr__", PySem.W.findIn K (.ref (He.ga K "InvalidRegisters")) "__getattribute__", PySem.W.findIn K (.ref (He.ga K "InvalidRegisters")) "__getattr__", PySem.W.findIn K (.ref (He.ga K "InvalidRegisters")) "__class__") = (some (some (.builtin "object.__setattr__")), some (some (.builtin "BaseException.__getattribute__")), some none, some (some (.builtin "object.__class__"))))
def tY63 (K : PySem.W.Frag) : Bool := decide ((PySem.W.subIn K (.ref (He.ga K "InvalidRegisters")) (.type "BaseException"), PySem.W.mroIn K (He.ga K "InvalidRegisters") (.type "object"), (PySem.W.clsIn K (He.ga K "InvalidRegisters")).map (·.mro), PySem.W.typeIn K (.ref (He.ga K "InvalidRegisters"))) = (some true, some true, some (.ref (He.ga K "InvalidRegisters") :: [.type "ValueError", .type "Exception", .type "BaseException", .type "object"]), some (.type "type")))
def tY64 (K : PySem.W.Frag) : Bool := decide ((["number"] : List Str).map (fun f => PySem.W.findIn K (.ref (He.ga K "InvalidRegisters")) f) = (["number"] : List Str).map fun _ => some none)
def tY65 (K : PySem.W.Frag) : Bool := decide (PySem.W.nsIn K mainGlobals "InvalidModes" = some (some (.ref (He.ga K "InvalidModes"))))
def tY66 (K : PySem.W.Frag) : Bool := decide (PySem.W.findIn K (.ref (He.ga K "InvalidModes")) "__init__" = some (some (.ref (He.ma K (He.ga K "InvalidModes") "__init__"))))
def tY67 (K : PySem.W.Frag) : Bool := decide ((PySem.W.excInitIn K (He.ga K "InvalidModes") [.type "ValueError", .type "Exception", .type "BaseException", .type "object"] "ValueError.__new__", PySem.W.excOver K (He.ga K "InvalidModes") [.type "ValueError", .type "Exception", .type "BaseException", .type "object"], PySem.W.hasDictIn K (He.ga K "InvalidModes"), PySem.W.isFn K (.ref (He.ma K (He.ga K "InvalidModes") "__init__")), PySem.W.keepIn K (.ref (He.ga K "InvalidModes"))) = (true, true, true, true, true))
def tY68 (K : PySem.W.Frag) : Bool := decide ((PySem.W.findIn K (.ref (He.ga K "InvalidModes")) "__setattr__", PySem.W.findIn K (.ref (He.ga K "InvalidModes")) "__getattribute__", PySem.W.findIn K (.ref (He.ga K "InvalidModes")) "__getattr__", PySem.W.findIn K (.ref (He.ga K "InvalidModes")) "__class__") = (some (some (.builtin "object.__setattr__")), some (some (.builtin "BaseException.__getattribute__")), some none, some (some (.builtin "object.__class__"))))
def tY69 (K : PySem.W.Frag) : Bool := decide ((PySem.W.subIn K (.ref (He.ga K "InvalidModes")) (.type "BaseException"), PySem.W.mroIn K (He.ga K "InvalidModes") (.type "object"), (PySem.W.clsIn K (He.ga K "InvalidModes")).map (·.mro), PySem.W.typeIn K (.ref (He.ga K "InvalidModes"))) = (some true, some true, some (.ref (He.ga K "InvalidModes") :: [.type "ValueError", .type "Exception", .type "BaseException", .type "object"]), some (.type "type")))
def tY70 (K : PySem.W.Frag) : Bool := decide ((["number"] : List Str).map (fun f => PySem.W.findIn K (.ref (He.ga K "InvalidModes")) f) = (["number"] : List Str).map fun _ => some none)
def tY71 (K : PySem.W.Frag) : Bool := decide (PySem.W.nsIn K mainGlobals "InvalidRow" = some (some (.ref (He.ga K "InvalidRow"))))
def tY72 (K : PySem.W.Frag) : Bool := decide (PySem.W.findIn K (.ref (He.ga K "InvalidRow")) "__init__" = some (some (.ref (He.ma K (He.ga K "InvalidRow") "__init__"))))
def tY73 (K : PySem.W.Frag) : Bool := decide ((PySem.W.excInitIn K (He.ga K "InvalidRow") [.type "ValueError", .type "Exception", .type "BaseException", .type "object"] "ValueError.__new__", PySem.W.excOver K (He.ga K "InvalidRow") [.type "ValueError", .type "Exception", .type "BaseException", .type "object"], PySem.W.hasDictIn K (He.ga K "InvalidRow"), PySem.W.isFn K (.ref (He.ma K (He.ga K "InvalidRow") "__init__")), PySem.W.keepIn K (.ref (He.ga K "InvalidRow"))) = (true, true, true, true, true))
def tY74 (K : PySem.W.Frag) : Bool := decide ((PySem.W.findIn K (.ref (He.ga K "InvalidRow")) "__setattr__", PySem.W.findIn K (.ref (He.ga K "InvalidRow")) "__getattribute__", PySem.W.findIn K (.ref (He.ga K "InvalidRow")) "__getattr__", PySem.W.findIn K (.ref (He.ga K "InvalidRow")) "__class__") = (some (some (.builtin "object.__setattr__")), some (some (.builtin "BaseException.__getattribute__")), some none, some (some (.builtin "object.__class__"))))
def tY75 (K : PySem.W.Frag) : Bool := decide ((PySem.W.subIn K (.ref (He.ga K "InvalidRow")) (.type "BaseException"), PySem.W.mroIn K (He.ga K "InvalidRow") (.type "object"), (PySem.W.clsIn K (He.ga K "InvalidRow")).map (·.mro), PySem.W.typeIn K (.ref (He.ga K "InvalidRow"))) = (some true, some true, some (.ref (He.ga K "InvalidRow") :: [.type "ValueError", .type "Exception", .type "BaseException", .type "object"]), some (.type "type")))
def tY76 (K : PySem.W.Frag) : Bool := decide ((["mode", "number"] : List Str).map (fun f => PySem.W.findIn K (.ref (He.ga K "InvalidRow")) f) = (["mode", "number"] : List Str).map fun _ => some none)
def tY77 (K : PySem.W.Frag) : Bool := decide (PySem.W.nsIn K mainGlobals "InvalidEnds" = some (some (.ref (He.ga K "InvalidEnds"))))
def tY78 (K : PySem.W.Frag) : Bool := decide (PySem.W.findIn K (.ref (He.ga K "InvalidEnds")) "__init__" = some (some (.ref (He.ma K (He.ga K "InvalidEnds") "__init__"))))
def tY79 (K : PySem.W.Frag) : Bool := decide ((PySem.W.excInitIn K (He.ga K "InvalidEnds") [.type "ValueError", .type "Exception", .type "BaseException", .type "object"] "ValueError.__new__", PySem.W.excOver K (He.ga K "InvalidEnds") [.type "ValueError", .type "Exception", .type "BaseException", .type "object"], PySem.W.hasDictIn K (He.ga K "InvalidEnds"), PySem.W.isFn K (.ref (He.ma K (He.ga K "InvalidEnds") "__init__")), PySem.W.keepIn K (.ref (He.ga K "InvalidEnds"))) = (true, true, true, true, true))
def tY80 (K : PySem.W.Frag) : Bool := decide ((PySem.W.findIn K (.ref (He.ga K "InvalidEnds")) "__setattr__", PySem.W.findIn K (.ref (He.ga K "InvalidEnds")) "__getattribute__", PySem.W.findIn K (.ref (He.ga K "InvalidEnds")) "__getattr__", PySem.W.findIn K (.ref (He.ga K "InvalidEnds")) "__class__") = (some (some (.builtin "object.__setattr__")), some (some (.builtin "BaseException.__getattribute__")), some none, some (some (.builtin "object.__class__"))))
def tY81 (K : PySem.W.Frag) : Bool := decide ((PySem.W.subIn K (.ref (He.ga K "InvalidEnds")) (.type "BaseException"), PySem.W.mroIn K (He.ga K "InvalidEnds") (.type "object"), (PySem.W.clsIn K (He.ga K "InvalidEnds")).map (·.mro), PySem.W.typeIn K (.ref (He.ga K "InvalidEnds"))) = (some true, some true, some (.ref (He.ga K "InvalidEnds") :: [.type "ValueError", .type "Exception", .type "BaseException", .type "object"]), some (.type "type")))
def tY82 (K : PySem.W.Frag) : Bool := decide ((["value"] : List Str).map (fun f => PySem.W.findIn K (.ref (He.ga K "InvalidEnds")) f) = (["value"] : List Str).map fun _ => some none)
def tY83 (K : PySem.W.Frag) : Bool := decide (PySem.W.nsIn K mainGlobals "InvalidResult" = some (some (.ref (He.ga K "InvalidResult"))))
def tY84 (K : PySem.W.Frag) : Bool := decide (PySem.W.findIn K (.ref (He.ga K "InvalidResult")) "__init__" = some (some (.ref (He.ma K (He.ga K "InvalidResult") "__init__"))))
def tY85 (K : PySem.W.Frag) : Bool := decide ((PySem.W.excInitIn K (He.ga K "InvalidResult") [.type "ValueError", .type "Exception", .type "BaseException", .type "object"] "ValueError.__new__", PySem.W.excOver K (He.ga K "InvalidResult") [.type "ValueError", .type "Exception", .type "BaseException", .type "object"], PySem.W.hasDictIn K (He.ga K "InvalidResult"), PySem.W.isFn K (.ref (He.ma K (He.ga K "InvalidResult") "__init__")), PySem.W.keepIn K (.ref (He.ga K "InvalidResult"))) = (true, true, true, true, true))
def tY86 (K : PySem.W.Frag) : Bool := decide ((PySem.W.findIn K (.ref (He.ga K "InvalidResult")) "__setattr__", PySem.W.findIn K (.ref (He.ga K "InvalidResult")) "__getattribute__", PySem.W.findIn K (.ref (He.ga K "InvalidResult")) "__getattr__", PySem.W.findIn K (.ref (He.ga K "InvalidResult")) "__class__") = (some (some (.builtin "object.__setattr__")), some (some (.builtin "BaseException.__getattribute__")), some none, some (some (.builtin "object.__class__"))))
def tY87 (K : PySem.W.Frag) : Bool := decide ((PySem.W.subIn K (.ref (He.ga K "InvalidResult")) (.type "BaseException"), PySem.W.mroIn K (He.ga K "InvalidResult") (.type "object"), (PySem.W.clsIn K (He.ga K "InvalidResult")).map (·.mro), PySem.W.typeIn K (.ref (He.ga K "InvalidResult"))) = (some true, some true, some (.ref (He.ga K "InvalidResult") :: [.type "ValueError", .type "Exception", .type "BaseException", .type "object"]), some (.type "type")))
def tY88 (K : PySem.W.Frag) : Bool := decide ((["value"] : List Str).map (fun f => PySem.W.findIn K (.ref (He.ga K "InvalidResult")) f) = (["value"] : List Str).map fun _ => some none)
def tY89 (K : PySem.W.Frag) : Bool := decide (PySem.W.nsIn K mainGlobals "InvalidSign" = some (some (.ref (He.ga K "InvalidSign"))))
def tY90 (K : PySem.W.Frag) : Bool := decide (PySem.W.findIn K (.ref (He.ga K "InvalidSign")) "__init__" = some (some (.ref (He.ma K (He.ga K "InvalidSign") "__init__"))))
def tY91 (K : PySem.W.Frag) : Bool := decide ((PySem.W.excInitIn K (He.ga K "InvalidSign") [.type "ValueError", .type "Exception", .type "BaseException", .type "object"] "ValueError.__new__", PySem.W.excOver K (He.ga K "InvalidSign") [.type "ValueError", .type "Exception", .type "BaseException", .type "object"], PySem.W.hasDictIn K (He.ga K "InvalidSign"), PySem.W.isFn K (.ref (He.ma K (He.ga K "InvalidSign") "__init__")), PySem.W.keepIn K (.ref (He.ga K "InvalidSign"))) = (true, true, true, true, true))
def tY92 (K : PySem.W.Frag) : Bool := decide ((PySem.W.findIn K (.ref (He.ga K "InvalidSign")) "__setattr__", PySem.W.findIn K (.ref (He.ga K "InvalidSign")) "__getattribute__", PySem.W.findIn K (.ref (He.ga K "InvalidSign")) "__getattr__", PySem.W.findIn K (.ref (He.ga K "InvalidSign")) "__class__") = (some (some (.builtin "object.__setattr__")), some (some (.builtin "BaseException.__getattribute__")), some none, some (some (.builtin "object.__class__"))))
def tY93 (K : PySem.W.Frag) : Bool := decide ((PySem.W.subIn K (.ref (He.ga K "InvalidSign")) (.type "BaseException"), PySem.W.mroIn K (He.ga K "InvalidSign") (.type "object"), (PySem.W.clsIn K (He.ga K "InvalidSign")).map (·.mro), PySem.W.typeIn K (.ref (He.ga K "InvalidSign"))) = (some true, some true, some (.ref (He.ga K "InvalidSign") :: [.type "ValueError", .type "Exception", .type "BaseException", .type "object"]), some (.type "type")))
def tY94 (K : PySem.W.Frag) : Bool := decide ((["value"] : List Str).map (fun f => PySem.W.findIn K (.ref (He.ga K "InvalidSign")) f) = (["value"] : List Str).map fun _ => some none)
def tY95 (K : PySem.W.Frag) : Bool := decide (PySem.W.nsIn K mainGlobals "InvalidNumber" = some (some (.ref (He.ga K "InvalidNumber"))))
def tY96 (K : PySem.W.Frag) : Bool := decide (PySem.W.findIn K (.ref (He.ga K "InvalidNumber")) "__init__" = some (some (.ref (He.ma K (He.ga K "InvalidNumber") "__init__"))))
def tY97 (K : PySem.W.Frag) : Bool := decide ((PySem.W.excInitIn K (He.ga K "InvalidNumber") [.type "ValueError", .type "Exception", .type "BaseException", .type "object"] "ValueError.__new__", PySem.W.excOver K (He.ga K "InvalidNumber") [.type "ValueError", .type "Exception", .type "BaseException", .type "object"], PySem.W.hasDictIn K (He.ga K "InvalidNumber"), PySem.W.isFn K (.ref (He.ma K (He.ga K "InvalidNumber") "__init__")), PySem.W.keepIn K (.ref (He.ga K "InvalidNumber"))) = (true, true, true, true, true))
def tY98 (K : PySem.W.Frag) : Bool := decide ((PySem.W.findIn K (.ref (He.ga K "InvalidNumber")) "__setattr__", PySem.W.findIn K (.ref (He.ga K "InvalidNumber")) "__getattribute__", PySem.W.findIn K (.ref (He.ga K "InvalidNumber")) "__getattr__", PySem.W.findIn K (.ref (He.ga K "InvalidNumber")) "__class__") = (some (some (.builtin "object.__setattr__")), some (some (.builtin "BaseException.__getattribute__")), some none, some (some (.builtin "object.__class__"))))
def tY99 (K : PySem.W.Frag) : Bool := decide ((PySem.W.subIn K (.ref (He.ga K "InvalidNumber")) (.type "BaseException"), PySem.W.mroIn K (He.ga K "InvalidNumber") (.type "object"), (PySem.W.clsIn K (He.ga K "InvalidNumber")).map (·.mro), PySem.W.typeIn K (.ref (He.ga K "InvalidNumber"))) = (some true, some true, some (.ref (He.ga K "InvalidNumber") :: [.type "ValueError", .type "Exception", .type "BaseException", .type "object"]), some (.type "type")))
def tY100 (K : PySem.W.Frag) : Bool := decide ((["value"] : List Str).map (fun f => PySem.W.findIn K (.ref (He.ga K "InvalidNumber")) f) = (["value"] : List Str).map fun _ => some none)
def tY101 (K : PySem.W.Frag) : Bool := decide (PySem.W.nsIn K mainGlobals "UnknownName" = some (some (.ref (He.ga K "UnknownName"))))
def tY102 (K : PySem.W.Frag) : Bool := decide (PySem.W.findIn K (.ref (He.ga K "UnknownName")) "__init__" = some (some (.ref (He.ma K (He.ga K "UnknownName") "__init__"))))
def tY103 (K : PySem.W.Frag) : Bool := decide ((PySem.W.excInitIn K (He.ga K "UnknownName") [.type "LookupError", .type "Exception", .type "BaseException", .type "object"] "LookupError.__new__", PySem.W.excOver K (He.ga K "UnknownName") [.type "LookupError", .type "Exception", .type "BaseException", .type "object"], PySem.W.hasDictIn K (He.ga K "UnknownName"), PySem.W.isFn K (.ref (He.ma K (He.ga K "UnknownName") "__init__")), PySem.W.keepIn K (.ref (He.ga K "UnknownName"))) = (true, true, true, true, true))
def tY104 (K : PySem.W.Frag) : Bool := decide ((PySem.W.findIn K (.ref (He.ga K "UnknownName")) "__setattr__", PySem.W.findIn K (.ref (He.ga K "UnknownName")) "__getattribute__", PySem.W.findIn K (.ref (He.ga K "UnknownName")) "__getattr__", PySem.W.findIn K (.ref (He.ga K "UnknownName")) "__class__") = (some (some (.builtin "object.__setattr__")), some (some (.builtin "BaseException.__getattribute__")), some none, some (some (.builtin "object.__class__"))))
def tY105 (K : PySem.W.Frag) : Bool := decide ((PySem.W.subIn K (.ref (He.ga K "UnknownName")) (.type "BaseException"), PySem.W.mroIn K (He.ga K "UnknownName") (.type "object"), (PySem.W.clsIn K (He.ga K "UnknownName")).map (·.mro), PySem.W.typeIn K (.ref (He.ga K "UnknownName"))) = (some true, some true, some (.ref (He.ga K "UnknownName") :: [.type "LookupError", .type "Exception", .type "BaseException", .type "object"]), some (.type "type")))
def tY106 (K : PySem.W.Frag) : Bool := decide ((["value"] : List Str).map (fun f => PySem.W.findIn K (.ref (He.ga K "UnknownName")) f) = (["value"] : List Str).map fun _ => some none)
def tY107 (K : PySem.W.Frag) : Bool := decide (PySem.W.nsIn K mainGlobals "InvalidFigures" = some (some (.ref (He.ga K "InvalidFigures"))))
def tY108 (K : PySem.W.Frag) : Bool := decide (PySem.W.findIn K (.ref (He.ga K "InvalidFigures")) "__init__" = some (some (.ref (He.ma K (He.ga K "InvalidFigures") "__init__"))))
def tY109 (K : PySem.W.Frag) : Bool := decide ((PySem.W.excInitIn K (He.ga K "InvalidFigures") [.type "ValueError", .type "Exception", .type "BaseException", .type "object"] "ValueError.__new__", PySem.W.excOver K (He.ga K "InvalidFigures") [.type "ValueError", .type "Exception", .type "BaseException", .type "object"], PySem.W.hasDictIn K (He.ga K "InvalidFigures"), PySem.W.isFn K (.ref (He.ma K (He.ga K "InvalidFigures") "__init__")), PySem.W.keepIn K (.ref (He.ga K "InvalidFigures"))) = (true, true, true, true, true))
def tY110 (K : PySem.W.Frag) : Bool := decide ((PySem.W.findIn K (.ref (He.ga K "InvalidFigures")) "__setattr__", PySem.W.findIn K (.ref (He.ga K "InvalidFigures")) "__getattribute__", PySem.W.findIn K (.ref (He.ga K "InvalidFigures")) "__getattr__", PySem.W.findIn K (.ref (He.ga K "InvalidFigures")) "__class__") = (some (some (.builtin "object.__setattr__")), some (some (.builtin "BaseException.__getattribute__")), some none, some (some (.builtin "object.__class__"))))
def tY111 (K : PySem.W.Frag) : Bool := decide ((PySem.W.subIn K (.ref (He.ga K "InvalidFigures")) (.type "BaseException"), PySem.W.mroIn K (He.ga K "InvalidFigures") (.type "object"), (PySem.W.clsIn K (He.ga K "InvalidFigures")).map (·.mro), PySem.W.typeIn K (.ref (He.ga K "InvalidFigures"))) = (some true, some true, some (.ref (He.ga K "InvalidFigures") :: [.type "ValueError", .type "Exception", .type "BaseException", .type "object"]), some (.type "type")))
def tY112 (K : PySem.W.Frag) : Bool := decide ((["value"] : List Str).map (fun f => PySem.W.findIn K (.ref (He.ga K "InvalidFigures")) f) = (["value"] : List Str).map fun _ => some none)
def tY113 (K : PySem.W.Frag) : Bool := decide (PySem.W.nsIn K mainGlobals "InvalidProgram" = some (some (.ref (He.ga K "InvalidProgram"))))
def tY114 (K : PySem.W.Frag) : Bool := decide (PySem.W.findIn K (.ref (He.ga K "InvalidProgram")) "__init__" = some (some (.ref (He.ma K (He.ga K "InvalidProgram") "__init__"))))
def tY115 (K : PySem.W.Frag) : Bool := decide ((PySem.W.excInitIn K (He.ga K "InvalidProgram") [.type "ValueError", .type "Exception", .type "BaseException", .type "object"] "ValueError.__new__", PySem.W.excOver K (He.ga K "InvalidProgram") [.type "ValueError", .type "Exception", .type "BaseException", .type "object"], PySem.W.hasDictIn K (He.ga K "InvalidProgram"), PySem.W.isFn K (.ref (He.ma K (He.ga K "InvalidProgram") "__init__")), PySem.W.keepIn K (.ref (He.ga K "InvalidProgram"))) = (true, true, true, true, true))
def tY116 (K : PySem.W.Frag) : Bool := decide ((PySem.W.findIn K (.ref (He.ga K "InvalidProgram")) "__setattr__", PySem.W.findIn K (.ref (He.ga K "InvalidProgram")) "__getattribute__", PySem.W.findIn K (.ref (He.ga K "InvalidProgram")) "__getattr__", PySem.W.findIn K (.ref (He.ga K "InvalidProgram")) "__class__") = (some (some (.builtin "object.__setattr__")), some (some (.builtin "BaseException.__getattribute__")), some none, some (some (.builtin "object.__class__"))))
def tY117 (K : PySem.W.Frag) : Bool := decide ((PySem.W.subIn K (.ref (He.ga K "InvalidProgram")) (.type "BaseException"), PySem.W.mroIn K (He.ga K "InvalidProgram") (.type "object"), (PySem.W.clsIn K (He.ga K "InvalidProgram")).map (·.mro), PySem.W.typeIn K (.ref (He.ga K "InvalidProgram"))) = (some true, some true, some (.ref (He.ga K "InvalidProgram") :: [.type "ValueError", .type "Exception", .type "BaseException", .type "object"]), some (.type "type")))
def tY118 (K : PySem.W.Frag) : Bool := decide ((["value"] : List Str).map (fun f => PySem.W.findIn K (.ref (He.ga K "InvalidProgram")) f) = (["value"] : List Str).map fun _ => some none)
def tY119 (K : PySem.W.Frag) : Bool := decide (PySem.W.nsIn K mainGlobals "Program" = some (some (.ref (He.ga K "Program"))))
def tY120 (K : PySem.W.Frag) : Bool := decide ((PySem.W.plainGet K (He.ga K "Program") Str.empty, PySem.W.hasDictIn K (He.ga K "Program"), PySem.W.plainOver K (He.ga K "Program")) = (true, true, true))
def tY121 (K : PySem.W.Frag) : Bool := decide (PySem.W.findIn K (.ref (He.ga K "Program")) "__setattr__" = some (some (.builtin "object.__setattr__")))
def tY122 (K : PySem.W.Frag) : Bool := decide (PySem.W.findIn K (.ref (He.ga K "Program")) "_base" = some none)
def tY123 (K : PySem.W.Frag) : Bool := decide (PySem.W.findIn K (.ref (He.ga K "Program")) "_registers" = some none)
def tY124 (K : PySem.W.Frag) : Bool := decide (PySem.W.findIn K (.ref (He.ga K "Program")) "_modes" = some none)
def tY125 (K : PySem.W.Frag) : Bool := decide (PySem.W.findIn K (.ref (He.ga K "Program")) "_ends" = some none)
def tY126 (K : PySem.W.Frag) : Bool := decide (PySem.W.findIn K (.ref (He.ga K "Program")) "_result" = some none)
def tY127 (K : PySem.W.Frag) : Bool := decide (PySem.W.findIn K (.ref (He.ga K "Program")) "_tables" = some none)
def tY128 (K : PySem.W.Frag) : Bool := decide (PySem.W.findIn K (.ref (He.ga K "Program")) "__init__" = some (some (.ref (He.ma K (He.ga K "Program") "__init__"))))
def tY129 (K : PySem.W.Frag) : Bool := decide (PySem.W.makesIn K (He.ga K "Program") = true)
def tY130 (K : PySem.W.Frag) : Bool := decide (PySem.W.isFn K (.ref (He.ma K (He.ga K "Program") "__init__")) = true)
def tY131 (K : PySem.W.Frag) : Bool := decide (PySem.W.keepIn K (.ref (He.ga K "Program")) = true)
def tY132 (K : PySem.W.Frag) : Bool := decide (PySem.W.findIn K (.ref (He.ga K "Program")) "base" = some (some (.ref (He.ma K (He.ga K "Program") "base"))))
def tY133 (K : PySem.W.Frag) : Bool := decide (PySem.W.specialIn K (.ref (He.ma K (He.ga K "Program") "base")) "__get__" = some (some (.builtin "property.__get__")))
def tY134 (K : PySem.W.Frag) : Bool := decide (PySem.W.takesIn K (.ref (He.ma K (He.ga K "Program") "base")) = some true)
def tY135 (K : PySem.W.Frag) : Bool := gB K (He.ma K (He.ga K "Program") "base")
def tY136 (K : PySem.W.Frag) : Bool := decide (PySem.W.findIn K (.ref (He.ga K "Program")) "size" = some (some (.ref (He.ma K (He.ga K "Program") "size"))))
def tY137 (K : PySem.W.Frag) : Bool := decide (PySem.W.specialIn K (.ref (He.ma K (He.ga K "Program") "size")) "__get__" = some (some (.builtin "property.__get__")))
def tY138 (K : PySem.W.Frag) : Bool := decide (PySem.W.takesIn K (.ref (He.ma K (He.ga K "Program") "size")) = some true)
def tY139 (K : PySem.W.Frag) : Bool := gB K (He.ma K (He.ga K "Program") "size")
def tY140 (K : PySem.W.Frag) : Bool := decide (PySem.W.findIn K (.ref (He.ga K "Program")) "ends" = some (some (.ref (He.ma K (He.ga K "Program") "ends"))))
def tY141 (K : PySem.W.Frag) : Bool := decide (PySem.W.specialIn K (.ref (He.ma K (He.ga K "Program") "ends")) "__get__" = some (some (.builtin "property.__get__")))
def tY142 (K : PySem.W.Frag) : Bool := decide (PySem.W.takesIn K (.ref (He.ma K (He.ga K "Program") "ends")) = some true)
def tY143 (K : PySem.W.Frag) : Bool := gB K (He.ma K (He.ga K "Program") "ends")
def tY144 (K : PySem.W.Frag) : Bool := decide (PySem.W.findIn K (.ref (He.ga K "Program")) "result" = some (some (.ref (He.ma K (He.ga K "Program") "result"))))
def tY145 (K : PySem.W.Frag) : Bool := decide (PySem.W.specialIn K (.ref (He.ma K (He.ga K "Program") "result")) "__get__" = some (some (.builtin "property.__get__")))
def tY146 (K : PySem.W.Frag) : Bool := decide (PySem.W.takesIn K (.ref (He.ma K (He.ga K "Program") "result")) = some true)
def tY147 (K : PySem.W.Frag) : Bool := gB K (He.ma K (He.ga K "Program") "result")
def tY148 (K : PySem.W.Frag) : Bool := decide (PySem.W.findIn K (.ref (He.ga K "Program")) "registers" = some (some (.ref (He.ma K (He.ga K "Program") "registers"))))
def tY149 (K : PySem.W.Frag) : Bool := decide (PySem.W.isFn K (.ref (He.ma K (He.ga K "Program") "registers")) = true)
def tY150 (K : PySem.W.Frag) : Bool := decide (PySem.W.findIn K (.ref (He.ga K "Program")) "modes" = some (some (.ref (He.ma K (He.ga K "Program") "modes"))))
def tY151 (K : PySem.W.Frag) : Bool := decide (PySem.W.isFn K (.ref (He.ma K (He.ga K "Program") "modes")) = true)
def tY152 (K : PySem.W.Frag) : Bool := decide (PySem.W.findIn K (.ref (He.ga K "Program")) "rule_of" = some (some (.ref (He.ma K (He.ga K "Program") "rule_of"))))
def tY153 (K : PySem.W.Frag) : Bool := decide (PySem.W.isFn K (.ref (He.ma K (He.ga K "Program") "rule_of")) = true)
def tY154 (K : PySem.W.Frag) : Bool := decide (PySem.W.findIn K (.ref (He.ga K "Program")) "_mode" = some (some (.ref (He.ma K (He.ga K "Program") "_mode"))))
def tY155 (K : PySem.W.Frag) : Bool := decide (PySem.W.isFn K (.ref (He.ma K (He.ga K "Program") "_mode")) = true)
def tY156 (K : PySem.W.Frag) : Bool := decide (PySem.W.findIn K (.ref (He.ga K "Program")) "__getitem__" = some (some (.ref (He.ma K (He.ga K "Program") "__getitem__"))))
def tY157 (K : PySem.W.Frag) : Bool := decide (PySem.W.isFn K (.ref (He.ma K (He.ga K "Program") "__getitem__")) = true)
def tY158 (K : PySem.W.Frag) : Bool := decide (PySem.W.fnIn K (He.ma K (He.ga K "Program") "__getitem__") = true)
def tY159 (K : PySem.W.Frag) : Bool := decide (PySem.W.findIn K (.ref (He.ga K "Program")) "__class__" = some (some (.builtin "object.__class__")))
def tY160 (K : PySem.W.Frag) : Bool := decide (PySem.W.mroIn K (He.ga K "Program") (.type "object") = some true)
def tY161 (K : PySem.W.Frag) : Bool := decide (PySem.W.kitOne K (.ref (He.ga K "Program")) (.ref (He.ga K "Program")) = some true)
def tY162 (K : PySem.W.Frag) : Bool := decide (PySem.W.kitOne K (.type "NoneType") (.ref (He.ga K "Program")) = some false)
def tY163 (K : PySem.W.Frag) : Bool := decide (PySem.W.kitOne K (.type "bool") (.ref (He.ga K "Program")) = some false)
def tY164 (K : PySem.W.Frag) : Bool := decide (PySem.W.kitOne K (.type "int") (.ref (He.ga K "Program")) = some false)
def tY165 (K : PySem.W.Frag) : Bool := decide (PySem.W.kitOne K (.type "str") (.ref (He.ga K "Program")) = some false)
def tY166 (K : PySem.W.Frag) : Bool := decide (PySem.W.kitOne K (.type "list") (.ref (He.ga K "Program")) = some false)
def tY167 (K : PySem.W.Frag) : Bool := decide (PySem.W.kitOne K (.type "tuple") (.ref (He.ga K "Program")) = some false)
def tY168 (K : PySem.W.Frag) : Bool := decide (PySem.W.nsIn K mainGlobals "_law_value" = some (some (.ref (He.ga K "_law_value"))))
def tY169 (K : PySem.W.Frag) : Bool := decide (PySem.W.nsIn K mainGlobals "law" = some (some (.ref (He.ga K "law"))))
def tY170 (K : PySem.W.Frag) : Bool := decide (PySem.W.exmOne K (.ref (He.ga K "InvalidFigures")) (.ref (He.ga K "InvalidFigures")) = some true)
def tY171 (K : PySem.W.Frag) : Bool := decide (PySem.W.exmOne K (.ref (He.ga K "InvalidSign")) (.ref (He.ga K "InvalidSign")) = some true)
def tY172 (K : PySem.W.Frag) : Bool := decide (PySem.W.nsIn K mainGlobals "RULES" = some (some (.ref (He.ga K "RULES"))))
def tY173 (K : PySem.W.Frag) : Bool := tupY K (He.ga K "RULES") ([V.str "down", V.str "up", V.str "zero", V.str "positive", V.str "near"])
def tY174 (K : PySem.W.Frag) : Bool := intB K "LARGEST" 1000000
def tY175 (K : PySem.W.Frag) : Bool := strB K "LETTERS" "abcdefghijklmnopqrstuvwxyz"
def tY176 (K : PySem.W.Frag) : Bool := decide (PySem.W.nsIn K mainGlobals "isinstance" = some none)
def tY177 (K : PySem.W.Frag) : Bool := decide (PySem.W.nsIn K mainGlobals "int" = some none)
def tY178 (K : PySem.W.Frag) : Bool := decide (PySem.W.nsIn K mainGlobals "bool" = some none)
def tY179 (K : PySem.W.Frag) : Bool := decide (PySem.W.nsIn K mainGlobals "str" = some none)
def tY180 (K : PySem.W.Frag) : Bool := decide (PySem.W.nsIn K mainGlobals "abs" = some none)
def tY181 (K : PySem.W.Frag) : Bool := decide (PySem.W.nsIn K mainGlobals "len" = some none)
def tY182 (K : PySem.W.Frag) : Bool := decide (PySem.W.nsIn K mainGlobals "list" = some none)
def tY183 (K : PySem.W.Frag) : Bool := decide (PySem.W.nsIn K mainGlobals "tuple" = some none)
def tY184 (K : PySem.W.Frag) : Bool := decide (PySem.W.nsIn K mainGlobals "range" = some none)
def tY185 (K : PySem.W.Frag) : Bool := decide (PySem.W.nsIn K mainGlobals "enumerate" = some none)
def tY186 (K : PySem.W.Frag) : Bool := decide (PySem.W.nsIn K mainGlobals "all" = some none)
def tY187 (K : PySem.W.Frag) : Bool := decide (PySem.W.nsIn K mainGlobals "max" = some none)
def tY188 (K : PySem.W.Frag) : Bool := decide (PySem.W.nsIn K mainGlobals "min" = some none)
def tY189 (K : PySem.W.Frag) : Bool := decide (PySem.W.nsIn K mainGlobals "sum" = some none)
def tY190 (K : PySem.W.Frag) : Bool := decide (PySem.W.nsIn K mainGlobals "zip" = some none)
def tY191 (K : PySem.W.Frag) : Bool := decide (PySem.W.nsIn K mainGlobals "dict" = some none)
def tY192 (K : PySem.W.Frag) : Bool := decide (PySem.W.nsIn K mainGlobals "iter" = some none)
def tY193 (K : PySem.W.Frag) : Bool := decide (PySem.W.nsIn K mainGlobals "repr" = some none)
def dY0 : DefY := ⟨fun K => (He.ga K "is_integer"), "is_integer", "is_integer", [], (top 19)⟩
def dY1 : DefY := ⟨fun K => (He.ga K "is_between"), "is_between", "is_between", [], (top 20)⟩
def dY2 : DefY := ⟨fun K => (He.ga K "is_rule"), "is_rule", "is_rule", [], (top 21)⟩
def dY3 : DefY := ⟨fun K => (He.ga K "is_sign"), "is_sign", "is_sign", [], (top 22)⟩
def dY4 : DefY := ⟨fun K => (He.ga K "is_base"), "is_base", "is_base", [], (top 23)⟩
def dY5 : DefY := ⟨fun K => (He.ga K "is_remainder"), "is_remainder", "is_remainder", [], (top 24)⟩
def dY6 : DefY := ⟨fun K => (He.ga K "is_name"), "is_name", "is_name", [], (top 25)⟩
def dY7 : DefY := ⟨fun K => (He.ga K "is_listing"), "is_listing", "is_listing", [], (top 26)⟩
def dY8 : DefY := ⟨fun K => (He.ga K "is_factors"), "is_factors", "is_factors", [], (top 27)⟩
def dY9 : DefY := ⟨fun K => (He.ga K "is_register"), "is_register", "is_register", [], (top 28)⟩
def dY10 : DefY := ⟨fun K => (He.ga K "is_mode"), "is_mode", "is_mode", [], (top 29)⟩
def dY11 : DefY := ⟨fun K => (He.ga K "is_row"), "is_row", "is_row", [], (top 30)⟩
def dY12 : DefY := ⟨fun K => (He.ga K "first_wrong"), "first_wrong", "first_wrong", [], (top 31)⟩
def dY13 : DefY := ⟨fun K => (He.ga K "check_registers"), "check_registers", "check_registers", [], (top 32)⟩
def dY14 : DefY := ⟨fun K => (He.ga K "check_modes"), "check_modes", "check_modes", [], (top 33)⟩
def dY15 : DefY := ⟨fun K => (He.ga K "check_rows"), "check_rows", "check_rows", [], (top 34)⟩
def dY16 : DefY := ⟨fun K => (He.ga K "check_ends"), "check_ends", "check_ends", [], (top 35)⟩
def dY17 : DefY := ⟨fun K => (He.ga K "check_program"), "check_program", "check_program", [], (top 36)⟩
def dY18 : DefY := ⟨fun K => (He.ga K "goes_up"), "goes_up", "goes_up", [], (top 38)⟩
def dY19 : DefY := ⟨fun K => (He.ga K "divide"), "divide", "divide", [], (top 39)⟩
def dY20 : DefY := ⟨fun K => (He.ga K "table_of"), "table_of", "table_of", [], (top 41)⟩
def dY21 : DefY := ⟨fun K => (He.ga K "sign_of"), "sign_of", "sign_of", [], (top 43)⟩
def dY22 : DefY := ⟨fun K => (He.ga K "weighed"), "weighed", "weighed", [], (top 44)⟩
def dY23 : DefY := ⟨fun K => (He.ga K "result_of"), "result_of", "result_of", [], (top 45)⟩
def dY24 : DefY := ⟨fun K => (He.ga K "path_of"), "path_of", "path_of", [], (top 46)⟩
def dY25 : DefY := ⟨fun K => (He.ga K "first_mode"), "first_mode", "first_mode", [], (top 47)⟩
def dY26 : DefY := ⟨fun K => (He.ga K "first_values"), "first_values", "first_values", [], (top 48)⟩
def dY27 : DefY := ⟨fun K => (He.ga K "walk"), "walk", "walk", [], (top 49)⟩
def dY28 : DefY := ⟨fun K => (He.ga K "result_at"), "result_at", "result_at", [], (top 50)⟩
def dY29 : DefY := ⟨fun K => (He.ga K "is_word"), "is_word", "is_word", [], (top 52)⟩
def dY30 : DefY := ⟨fun K => (He.ga K "is_figures"), "is_figures", "is_figures", [], (top 53)⟩
def dY31 : DefY := ⟨fun K => (He.ga K "number_of"), "number_of", "number_of", [], (top 54)⟩
def dY32 : DefY := ⟨fun K => (He.ga K "check_meant"), "check_meant", "check_meant", [], (top 56)⟩
def dY33 : DefY := ⟨fun K => (He.ga K "value_at"), "value_at", "value_at", [], (top 57)⟩
def dY34 : DefY := ⟨fun K => (He.ga K "word_value"), "word_value", "word_value", [], (top 58)⟩
def dY35 : DefY := ⟨fun K => (He.ga K "_law_pool"), "_law_pool", "_law_pool", [], (top 60)⟩
def dY36 : DefY := ⟨fun K => (He.ga K "_law_draw"), "_law_draw", "_law_draw", [], (top 61)⟩
def dY37 : DefY := ⟨fun K => (He.ga K "_law_choose"), "_law_choose", "_law_choose", [], (top 62)⟩
def dY38 : DefY := ⟨fun K => (He.ga K "_law_update"), "_law_update", "_law_update", [], (top 63)⟩
def dY39 : DefY := ⟨fun K => (He.ga K "_law_rows"), "_law_rows", "_law_rows", [], (top 64)⟩
def dY40 : DefY := ⟨fun K => (He.ga K "_law_built"), "_law_built", "_law_built", [], (top 65)⟩
def dY41 : DefY := ⟨fun K => (He.ga K "_law_parts"), "_law_parts", "_law_parts", [], (top 66)⟩
def dY42 : DefY := ⟨fun K => (He.ga K "_law_made"), "_law_made", "_law_made", [], (top 67)⟩
def dY43 : DefY := ⟨fun K => (He.ga K "_law_split"), "_law_split", "_law_split", [], (top 68)⟩
def dY44 : DefY := ⟨fun K => (He.ga K "_law_line"), "_law_line", "_law_line", [], (top 69)⟩
def dY45 : DefY := ⟨fun K => (He.ga K "_law_play"), "_law_play", "_law_play", [], (top 70)⟩
def dY46 : DefY := ⟨fun K => (He.ga K "_law_dot"), "_law_dot", "_law_dot", [], (top 71)⟩
def dY47 : DefY := ⟨fun K => (He.ga K "_law_value"), "_law_value", "_law_value", [], (top 72)⟩
def dY48 : DefY := ⟨fun K => (He.ga K "_law_words"), "_law_words", "_law_words", [], (top 73)⟩
def dY49 : DefY := ⟨fun K => (He.ga K "_law_refused"), "_law_refused", "_law_refused", [], (top 74)⟩
def dY50 : DefY := ⟨fun K => (He.ga K "_law_no_side"), "_law_no_side", "_law_no_side", [], (top 75)⟩
def dY51 : DefY := ⟨fun K => (He.ma K (He.ga K "InvalidBase") "__init__"), "__init__", "InvalidBase.__init__", [], (inClass (top 4) 0)⟩
def dY52 : DefY := ⟨fun K => (He.ma K (He.ga K "InvalidRegisters") "__init__"), "__init__", "InvalidRegisters.__init__", [], (inClass (top 5) 0)⟩
def dY53 : DefY := ⟨fun K => (He.ma K (He.ga K "InvalidModes") "__init__"), "__init__", "InvalidModes.__init__", [], (inClass (top 6) 0)⟩
def dY54 : DefY := ⟨fun K => (He.ma K (He.ga K "InvalidRow") "__init__"), "__init__", "InvalidRow.__init__", [], (inClass (top 7) 0)⟩
def dY55 : DefY := ⟨fun K => (He.ma K (He.ga K "InvalidEnds") "__init__"), "__init__", "InvalidEnds.__init__", [], (inClass (top 8) 0)⟩
def dY56 : DefY := ⟨fun K => (He.ma K (He.ga K "InvalidResult") "__init__"), "__init__", "InvalidResult.__init__", [], (inClass (top 9) 0)⟩
def dY57 : DefY := ⟨fun K => (He.ma K (He.ga K "InvalidSign") "__init__"), "__init__", "InvalidSign.__init__", [], (inClass (top 12) 0)⟩
def dY58 : DefY := ⟨fun K => (He.ma K (He.ga K "InvalidNumber") "__init__"), "__init__", "InvalidNumber.__init__", [], (inClass (top 3) 0)⟩
def dY59 : DefY := ⟨fun K => (He.ma K (He.ga K "UnknownName") "__init__"), "__init__", "UnknownName.__init__", [], (inClass (top 13) 0)⟩
def dY60 : DefY := ⟨fun K => (He.ma K (He.ga K "InvalidFigures") "__init__"), "__init__", "InvalidFigures.__init__", [], (inClass (top 11) 0)⟩
def dY61 : DefY := ⟨fun K => (He.ma K (He.ga K "InvalidProgram") "__init__"), "__init__", "InvalidProgram.__init__", [], (inClass (top 10) 0)⟩
def dY62 : DefY := ⟨fun K => (He.ma K (He.ga K "Program") "__init__"), "__init__", "Program.__init__", [], (inClass (top 42) 0)⟩
def dY63 : DefY := ⟨fun K => (gA K (He.ma K (He.ga K "Program") "base")), "base", "Program.base", [], (inClass (top 42) 1)⟩
def dY64 : DefY := ⟨fun K => (gA K (He.ma K (He.ga K "Program") "size")), "size", "Program.size", [], (inClass (top 42) 2)⟩
def dY65 : DefY := ⟨fun K => (gA K (He.ma K (He.ga K "Program") "ends")), "ends", "Program.ends", [], (inClass (top 42) 3)⟩
def dY66 : DefY := ⟨fun K => (gA K (He.ma K (He.ga K "Program") "result")), "result", "Program.result", [], (inClass (top 42) 4)⟩
def dY67 : DefY := ⟨fun K => (He.ma K (He.ga K "Program") "registers"), "registers", "Program.registers", [], (inClass (top 42) 5)⟩
def dY68 : DefY := ⟨fun K => (He.ma K (He.ga K "Program") "modes"), "modes", "Program.modes", [], (inClass (top 42) 6)⟩
def dY69 : DefY := ⟨fun K => (He.ma K (He.ga K "Program") "rule_of"), "rule_of", "Program.rule_of", [], (inClass (top 42) 7)⟩
def dY70 : DefY := ⟨fun K => (He.ma K (He.ga K "Program") "_mode"), "_mode", "Program._mode", [], (inClass (top 42) 9)⟩
def dY71 : DefY := ⟨fun K => (He.ma K (He.ga K "Program") "__getitem__"), "__getitem__", "Program.__getitem__", [], (inClass (top 42) 10)⟩
def dY72 : DefY := ⟨fun K => (He.ga K "_law_value"), "_law_value", "_law_value", [], (top 72)⟩
def dY73 : DefY := ⟨fun K => (He.ga K "law"), "law", "law", [], (top 76)⟩
def testsY0 : List (PySem.W.Frag → Bool) := [tY0, tY1, tY2, tY3, tY4, tY5, tY6, tY7, tY8, tY9, tY10, tY11, tY12, tY13, tY14, tY15, tY16, tY17, tY18, tY19, tY20, tY21, tY22, tY23, tY24]
def testsY1 : List (PySem.W.Frag → Bool) := [tY25, tY26, tY27, tY28, tY29, tY30, tY31, tY32, tY33, tY34, tY35, tY36, tY37, tY38, tY39, tY40, tY41, tY42, tY43, tY44, tY45, tY46, tY47, tY48, tY49]
def testsY2 : List (PySem.W.Frag → Bool) := [tY50, tY51, tY52, tY53, tY54, tY55, tY56, tY57, tY58, tY59, tY60, tY61, tY62, tY63, tY64, tY65, tY66, tY67, tY68, tY69, tY70, tY71, tY72, tY73, tY74]
def testsY3 : List (PySem.W.Frag → Bool) := [tY75, tY76, tY77, tY78, tY79, tY80, tY81, tY82, tY83, tY84, tY85, tY86, tY87, tY88, tY89, tY90, tY91, tY92, tY93, tY94, tY95, tY96, tY97, tY98, tY99]
def testsY4 : List (PySem.W.Frag → Bool) := [tY100, tY101, tY102, tY103, tY104, tY105, tY106, tY107, tY108, tY109, tY110, tY111, tY112, tY113, tY114, tY115, tY116, tY117, tY118, tY119, tY120, tY121, tY122, tY123, tY124]
def testsY5 : List (PySem.W.Frag → Bool) := [tY125, tY126, tY127, tY128, tY129, tY130, tY131, tY132, tY133, tY134, tY135, tY136, tY137, tY138, tY139, tY140, tY141, tY142, tY143, tY144, tY145, tY146, tY147, tY148, tY149]
def testsY6 : List (PySem.W.Frag → Bool) := [tY150, tY151, tY152, tY153, tY154, tY155, tY156, tY157, tY158, tY159, tY160, tY161, tY162, tY163, tY164, tY165, tY166, tY167, tY168, tY169, tY170, tY171, tY172, tY173, tY174]
def testsY7 : List (PySem.W.Frag → Bool) := [tY175, tY176, tY177, tY178, tY179, tY180, tY181, tY182, tY183, tY184, tY185, tY186, tY187, tY188, tY189, tY190, tY191, tY192, tY193]
def testsY : List (PySem.W.Frag → Bool) := testsY0 ++ (testsY1 ++ (testsY2 ++ (testsY3 ++ (testsY4 ++ (testsY5 ++ (testsY6 ++ (testsY7)))))))
def defsY0 : List DefY := [dY0, dY1, dY2, dY3, dY4, dY5, dY6, dY7, dY8, dY9, dY10, dY11, dY12, dY13, dY14, dY15, dY16, dY17, dY18, dY19, dY20, dY21, dY22, dY23, dY24]
def defsY1 : List DefY := [dY25, dY26, dY27, dY28, dY29, dY30, dY31, dY32, dY33, dY34, dY35, dY36, dY37, dY38, dY39, dY40, dY41, dY42, dY43, dY44, dY45, dY46, dY47, dY48, dY49]
def defsY2 : List DefY := [dY50, dY51, dY52, dY53, dY54, dY55, dY56, dY57, dY58, dY59, dY60, dY61, dY62, dY63, dY64, dY65, dY66, dY67, dY68, dY69, dY70, dY71, dY72, dY73]
def defsY : List DefY := defsY0 ++ (defsY1 ++ (defsY2))
def vfY (K : PySem.W.Frag) : Addr := (He.ga K "_law_value")
def topN0 : List PySem.Str := ["_wall", "InvalidRule", "InvalidNumber", "InvalidBase", "InvalidRegisters", "InvalidModes", "InvalidRow", "InvalidEnds", "InvalidResult", "InvalidProgram", "InvalidFigures", "InvalidSign", "UnknownName", "Endless", "RULES", "LETTERS", "LARGEST", "is_integer", "is_between", "is_rule"]
def topN1 : List PySem.Str := ["is_sign", "is_base", "is_remainder", "is_name", "is_listing", "is_factors", "is_register", "is_mode", "is_row", "first_wrong", "check_registers", "check_modes", "check_rows", "check_ends", "check_program", "goes_up", "divide", "table_of", "Program", "sign_of"]
def topN2 : List PySem.Str := ["weighed", "result_of", "path_of", "first_mode", "first_values", "walk", "result_at", "is_word", "is_figures", "number_of", "check_meant", "value_at", "word_value", "_law_pool", "_law_draw", "_law_choose", "_law_update", "_law_rows", "_law_built", "_law_parts"]
def topN3 : List PySem.Str := ["_law_made", "_law_split", "_law_line", "_law_play", "_law_dot", "_law_value", "_law_words", "_law_refused", "_law_no_side"]
def topN : List PySem.Str := topN0 ++ topN1 ++ topN2 ++ topN3
abbrev rowY : OpenRow := OpenLaw.row PySem.Challenge.rw_twodivisions_k60_values_of_words
abbrev hkY : PySem.W.Hook := hookY 1200 defsY testsY vfY
def obY (s : PySem.W.SharedT) : Bool × List He.FnW := obsY 1200 defsY testsY vfY (HandSHeadRun.getT s)
theorem obY_eq (s : PySem.W.SharedT) : obY s = hkY.obs s.abs := obsY_eq (HandSHeadRun.getT_eq s)
set_option maxHeartbeats 0 in
theorem runY (w : World) : HandSHeadRun.RunEq rowY (PySem.W.view rowY.prog [76]) hkY obY 8000 topN w := by
  intro os
  kernel_rfl
end
/-! ### own layer: promises that are kept where no repr is under way (A.guards = some []) -/
structure FnG (P : Program) (w : World) (K : PySem.W.Frag) (mg : Str → Option Value) (base : Heap) (CX : CXT) (k : Nat) (f : Addr) (fd : FuncData) (ps : List Str) (sp : Sp) : Prop where
  lens : ∀ vs H Q E, sp vs H Q E → vs.length = ps.length
  goes : ∀ (A : Around) (outer : List Env) (s : Shared) (H : Hp) (args : Args) (us : List Value) (vs : List V) (Q : VK) (E : XK), A.guards = some [] → Room k A → Env0 P w K mg base A outer s H →
    BindsTo s fd args (ps.zip us) → Vals vs us → sp vs H Q E → codeAny (model P w) A (.call (.ref f) args) (CR CX outer P w H s Q E) s
theorem FnG.of {P : Program} {w : World} {K : PySem.W.Frag} {mg : Str → Option Value} {base : Heap} {CX : CXT} {k : Nat} {f : Addr} {fd : FuncData} {ps : List Str} {sp : Sp} (F : FnOk P w K mg base CX k f fd ps sp) : FnG P w K mg base CX k f fd ps sp :=
  ⟨F.len, fun A outer s H args us vs Q E _ => F.run A outer s H args us vs Q E⟩
/-! ### the law's own call, by such a promise -/
/-- what the caller wants of the law's call -/
abbrev Wanted (s₁ : Shared) (r : Result) (s' : Shared) : Prop := r = .ok (.ret (.bool true)) ∧ PySem.OldK s₁.heap s'.heap ∧ s'.os = s₁.os ∧ PyProof.Rows.AllBare s'.gens
/-! ### own exception classes, called with keywords (rest: by place; kw: by name) -/
section
open PySem.PX
variable {prog : Program} {w : World} {M : Model} {A : Around} {E : Value → Shared → Prop} {R : Result → Shared → Prop} {h : Heap} {g : Array GenState} {d : Drawn} {t : Nat} {os : OsState}
variable {nm q : Str} {C N : Addr} {bs bm tl : List Value} {hdct : Bool} {sn : List Str} {sub : List Value} {ab : Bool} {col : Option Bool} {dd : Option Addr} {k0 k1 k2 k3 k5 : Option Value} {B newId initId : String}
abbrev exLaid (h : Heap) (C : Addr) (rest : List Value) : Heap := (h.push { cls := .type "tuple", data := .seq rest.toArray }).push { cls := .ref C, data := .fields #[.ref h.objs.size, .none, .none, .none, .bool false, .none] }
theorem kw_check_new (F : ExcBaseFacts B newId initId tl) (same : ∀ Y : String, bm.contains (.type Y) = tl.contains (.type Y)) {rest : List Value} {kw : List (Str × Value)} {Q : Unit → Shared → Prop}
    (hC : h.get? C = some (excClassObj nm q C N bs bm hdct sn sub ab col dd k0 k1 k2 k3 k5 newId)) (z : Q () ⟨h, g, d, t, os⟩) : wpAny M A (checkBuiltinCall newId ⟨.ref C :: rest, kw⟩) Q E ⟨h, g, d, t, os⟩ := by
  have inB : (Value.ref C :: bm).contains (.type B) = true := by
    rw [List.contains_cons, same, F.hasB, Bool.or_true]
  have star := F.noStar
  simp only [checkBuiltinCall, F.newKind, F.newSplit, F.newRow]
  repeat (first
    | refine wpAny_loadPart_at hC ?_
    | (refine wpAny_isSubtype_exc hC ?_; rw [inB])
    | refine wpAny_staticBase_exc hC ?_
    | refine wpAny_madeBy_exc hC ?_
    | simp only [bne_self_eq_false, Bool.false_eq_true, if_false]
    | wp_step)
  exact z
theorem kw_new (F : ExcBaseFacts B newId initId tl) (same : ∀ Y : String, bm.contains (.type Y) = tl.contains (.type Y)) {rest : List Value} {kw : List (Str × Value)}
    (hC : h.get? C = some (excClassObj nm q C N bs bm hdct sn sub ab col dd k0 k1 k2 k3 k5 newId)) (z : R (.ok (.ret (.ref (h.objs.size + 1)))) ⟨exLaid h C rest, g, d, t, os⟩) (few : rest.length ≤ sizeLine) :
    codeAny (model prog w) A (.builtin newId ⟨.ref C :: rest, kw⟩) R ⟨h, g, d, t, os⟩ := by
  have stops := F.ends
  have inB : (Value.ref C :: bm).contains (.type B) = true := by
    rw [List.contains_cons, same, F.hasB, Bool.or_true]
  have noA : (Value.ref C :: bm).contains (.type "AttributeError") = false := by
    rw [List.contains_cons, same, F.noAttr]
    rfl
  have noN : (Value.ref C :: bm).contains (.type "NameError") = false := by
    rw [List.contains_cons, same, F.noName]
    rfl
  refine codeAny_builtinAt F.entry ?_
  unfold Builtin.«BaseException.__new__»
  refine wpAt_bind ?_
  show wpAt _ _ _ (stack >>= _) _ _ _
  refine wpAt_bind (wpAt_stack fun p below => wpAt_of_wpAny ?_)
  wp_walk
  refine wpAt_of_wpAny ?_
  rw [F.owner]
  repeat (first
    | with_reducible refine wpAny_madeHere_exc F.canon hC ?_
    | with_reducible refine wpAny_loadPart_at hC ?_
    | (with_reducible refine wpAny_isSubtype_exc hC ?_; first | rw [inB] | rw [noA] | rw [noN])
    | wp_step)
  show R _ _
  rw [Heap.size_push]
  exact z
theorem kw_type_call (F : ExcBaseFacts B newId initId tl) (same : ∀ Y : String, bm.contains (.type Y) = tl.contains (.type Y)) {rest : List Value} {kw : List (Str × Value)} {fI : Addr} {Q : Fin → Shared → Prop}
    (hC : h.get? C = some (excClassObj nm q C N bs bm hdct sn sub ab col dd k0 k1 k2 k3 k5 newId)) (li : PySem.W.Looks (model prog w) h (typeLookup (.ref C) "__init__") (some (.ref fI)))
    (lb : ∀ self, PySem.W.Looks (model prog w) h (bindSpecial (.ref fI) self) (.ref fI, [self])) (few : rest.length ≤ sizeLine)
    (z : codeAny (model prog w) A (.call (.ref fI) ⟨.ref (h.objs.size + 1) :: rest, kw⟩) (fun r s' => match r with | .ok (.ret v) => v = .none ∧ Q (.done (.ret (.ref (h.objs.size + 1)))) s' | .ok _ => False | .error e => E e s') ⟨exLaid h C rest, g, d, t, os⟩) :
    wpAny (model prog w) A (Builtin.«type.__call__» ⟨.ref C :: rest, kw⟩) Q E ⟨h, g, d, t, os⟩ := by
  repeat (first
    | with_reducible refine wpAny_loadPart_at hC ?_
    | with_reducible refine wpAny_madeBy_exc hC ?_
    | wp_step)
  refine codeAny_call_builtin_code (Code.quiet_builtin _ F.quiet) (kw_check_new F same hC (kw_new F same hC ?_ few))
  show wpAny _ _ _ _ _ _
  have stay : ∀ b o, h.get? b = some o → (exLaid h C rest).get? b = some o := fun b o e => Heap.get?_push_of_some _ (Heap.get?_push_of_some _ e)
  have hC2 := stay _ _ hC
  have made : (exLaid h C rest).get? (h.objs.size + 1) = some { cls := .ref C, data := .fields #[.ref h.objs.size, .none, .none, .none, .bool false, .none] } := by
    unfold exLaid
    heap_get
  have inC : (Value.ref C :: bm).contains (.ref C) = true := by simp
  have li2 := li.keeps stay
  have lb2 := (lb (.ref (h.objs.size + 1))).keeps stay
  unfold isInstance
  repeat (first
    | with_reducible refine wpAny_loadPart_at made ?_
    | (with_reducible refine wpAny_isSubtype_exc hC2 ?_; rw [inC])
    | wp_step)
  show wpAny _ _ (typeLookup (.ref C) _) _ _ _
  refine li2.at (wpAny_holding (wpAny_bind (lb2.at (wpAny_bind (wpAny_call (codeAny_mono z ?_))))))
  rintro (e | _ | _ | _ | v) s' y <;> first | exact y | exact y.elim | skip
  obtain ⟨rfl, y⟩ := y
  first
    | exact wpAny_pure (wpAny_pure y)
    | (wp_walk; exact y)
theorem kw_call (F : ExcBaseFacts B newId initId tl) (same : ∀ Y : String, bm.contains (.type Y) = tl.contains (.type Y)) {rest : List Value} {kw : List (Str × Value)} {fI : Addr}
    (hC : h.get? C = some (excClassObj nm q C N bs bm hdct sn sub ab col dd k0 k1 k2 k3 k5 newId)) (li : PySem.W.Looks (model prog w) h (typeLookup (.ref C) "__init__") (some (.ref fI)))
    (lb : ∀ self, PySem.W.Looks (model prog w) h (bindSpecial (.ref fI) self) (.ref fI, [self])) (few : rest.length ≤ sizeLine)
    (z : codeAny (model prog w) (A.under (.builtin "type.__call__" ⟨.ref C :: rest, kw⟩)) (.call (.ref fI) ⟨.ref (h.objs.size + 1) :: rest, kw⟩) (PySem.W.InitBack (h.objs.size + 1) R) ⟨exLaid h C rest, g, d, t, os⟩) :
    codeAny (model prog w) A (.call (.ref C) ⟨rest, kw⟩) R ⟨h, g, d, t, os⟩ := by
  have f1 := tc_lookup
  have f2 := tc_bind (.ref C)
  have isT : (⟨h, g, d, t, os⟩ : Shared).TypeIs (.ref C) "type" := ⟨_, hC, rfl⟩
  refine codeAny_of_tree ?_
  show wpAny _ _ (callAny (.ref C) _) _ _ _
  repeat (any_goals (first
    | assumption
    | with_reducible refine wpAny_loadPart_at hC ?_
    | wp_step))
  refine ⟨rfl, codeAny_call_builtin_at (Code.quiet_builtin _ (by decide +kernel)) entry_typeCall (wpAny_check_type_call_sub hC (kw_type_call F same hC li lb few (codeAny_mono z ?_)))⟩
  rintro (e | _ | _ | _ | v) s' y <;> exact y
end
/-! ### a store into an own exception, whatever built-in class is its base -/
section
open PySem.PX Builtin Builtin.ObjectAttr
variable {prog : Program} {w : World} {A : Around} {E : Value → Shared → Prop} {R : Result → Shared → Prop} {hp : Heap} {g : Array GenState} {d : Drawn} {t : Nat} {os : OsState} {B : String} {tl : List Value} {K : PySem.W.Frag}
theorem taker_none {C : Addr} {name : Str} (no : PySem.W.findIn K (.ref C) name = some none) : PySem.W.takerIn K C name = some none := by
  unfold PySem.W.takerIn
  rw [no]
  rfl
theorem xs_first {name : Str} {tk : Tok} {v : Value} {x C : Addr} {fv : Array Value} (SF : StoreFacts B tl "object.__setattr__" "object") (X : K.In hp) (at_x : hp.get? x = some { cls := .ref C, data := .fields fv }) (ov : PySem.W.excOver K C tl = true)
    (hasD : PySem.W.hasDictIn K C = true) (no : PySem.W.findIn K (.ref C) name = some none)
    (z : ∀ h' tk' dx, (∀ b o, b ≠ x → hp.get? b = some o → h'.get? b = some o) → hp.objs.size ≤ dx → dx ≠ x → h'.get? x = some { cls := .ref C, dict := some dx, data := .fields fv } →
      h'.Ns1 dx (fun y => if y = name then some v else none) → R (.ok (.ret .none)) ⟨h', g, d, tk', os⟩) :
    codeAny (model prog w) A (.call (.builtin "object.__setattr__") ⟨[.ref x, .str name tk, v], []⟩) R ⟨hp, g, d, t, os⟩ := by
  refine PySem.W.osa_openX (od := none) SF X ⟨at_x, rfl, rfl, trivial⟩ ov (taker_none no) fun b => ?_
  obtain ⟨cd, hc, hd⟩ := PySem.W.any_some hasD
  have lk : PySem.W.Looks (model prog w) hp (classData C) cd := PySem.W.looks_clsIn X hc
  have apart : x ≠ hp.objs.size := Nat.ne_of_lt (Heap.lt_size at_x)
  show wpAny _ _ (storeInOwnDict (.ref x) (.ref C) (.str name tk) name v b) _ _ _
  obtain ⟨nm, bs, mro, ns, qn, hd1, sn, sb, ab, col, del⟩ := cd
  obtain rfl : hd1 = true := hd
  unfold storeInOwnDict ownDictForStores
  repeat (first
    | with_reducible refine store_in_new ?_ ?_
    | with_reducible refine wpAny_loadPart_at at_x ?_
    | with_reducible refine lk.at ?_
    | wp_step)
  · exact ⟨_, #[], _, (Heap.get?_update_ne _ _ _ _ apart.symm).trans (Heap.get?_push_at rfl rfl), rfl, fun e he => absurd he (by simp), fun _ => rfl⟩
  · intro h' tk' hn hs
    have x2 : (hp.push { cls := .type "dict", data := .dict #[] }).get? x = some { cls := .ref C, data := .fields fv } := Heap.get?_push_of_some _ at_x
    refine z h' tk' hp.objs.size (fun b o nb ho => ?_) (Nat.le_refl _) apart.symm ((hs.2 x apart).trans (Heap.get?_update_self _ x2 rfl)) hn
    exact (hs.2 b (Nat.ne_of_lt (Heap.lt_size ho))).trans ((Heap.get?_update_ne _ _ _ _ nb).trans (Heap.get?_push_of_some _ ho))
theorem xs_later {name : Str} {tk : Tok} {v : Value} {x C dx : Addr} {fv : Array Value} {m0 : Str → Option Value} {nl : List Str} (SF : StoreFacts B tl "object.__setattr__" "object") (X : K.In hp)
    (at_x : hp.get? x = some { cls := .ref C, dict := some dx, data := .fields fv }) (nd : hp.Ns1 dx m0) (wi : Within m0 nl) (few : nl.length ≤ 1000) (ov : PySem.W.excOver K C tl = true) (hasD : PySem.W.hasDictIn K C = true) (no : PySem.W.findIn K (.ref C) name = some none)
    (z : ∀ h' tk', (∀ b o, b ≠ dx → hp.get? b = some o → h'.get? b = some o) → h'.Ns1 dx (fun y => if y = name then some v else m0 y) → R (.ok (.ret .none)) ⟨h', g, d, tk', os⟩) :
    codeAny (model prog w) A (.call (.builtin "object.__setattr__") ⟨[.ref x, .str name tk, v], []⟩) R ⟨hp, g, d, t, os⟩ := by
  obtain ⟨oD, esD, epD, at_d, dD, _⟩ := nd.count wi
  refine PySem.W.osa_openX (od := some oD) SF X ⟨at_x, rfl, rfl, at_d⟩ ov (taker_none no) fun b => ?_
  obtain ⟨cd, hc, hd⟩ := PySem.W.any_some hasD
  have lk : PySem.W.Looks (model prog w) hp (classData C) cd := PySem.W.looks_clsIn X hc
  show wpAny _ _ (storeInOwnDict (.ref x) (.ref C) (.str name tk) name v b) _ _ _
  obtain ⟨nm, bs, mro, ns, qn, hd1, sn, sb, ab, col, del⟩ := cd
  obtain rfl : hd1 = true := hd
  unfold storeInOwnDict ownDictForStores
  repeat (first
    | with_reducible refine store_in_old nd wi few ?_
    | with_reducible refine wpAny_loadPart_at at_x ?_
    | with_reducible refine lk.at ?_
    | wp_step)
  intro h' tk' hn hs
  exact z h' tk' (fun b o nb ho => (hs.2 b nb).trans ho) hn
end
/-! ### the same over the layer: self.f = y in an own exception's __init__ -/
/-- what the written part says of an own exception class C, its __init__ at fI -/
structure XCls (K : PySem.W.Frag) (C fI : Addr) (tl : List Value) (newId : String) : Prop where
  ini : PySem.W.excInitIn K C tl newId = true
  over : PySem.W.excOver K C tl = true
  hasD : PySem.W.hasDictIn K C = true
  sa : PySem.W.findIn K (.ref C) "__setattr__" = some (some (.builtin "object.__setattr__"))
  init : PySem.W.findIn K (.ref C) "__init__" = some (some (.ref fI))
  isF : PySem.W.isFn K (.ref fI) = true
  kp : PySem.W.keepIn K (.ref C) = true
section
variable {X : Cx} {pins : List (Addr × Obj)} {σ : St} {H : Hp} {s : Shared} {a C fI dx : Addr} {f : Str} {y : V} {u : Value} {fs : List (Str × V)} {Q : Unit → Shared → Prop} {E : Value → Shared → Prop} {A : Around} {B newId : String} {tl : List Value}
theorem xset_first (SF : StoreFacts B tl "object.__setattr__" "object") (T : XCls X.K C fI tl newId) (I : Inv X pins σ H s) (ex : H a = some (exo a C none)) (no : PySem.W.findIn X.K (.ref C) f = some none) (ry : RelV y u)
    (z : ∀ dx s', H dx = none → dx ≠ a → Inv X pins σ (upd (upd H dx (exd dx [(f, y)])) a (exo a C (some dx))) s' → Q () s') : wpAny (model X.prog X.w) A (setAttr (.ref a) f u) Q E s := by
  obtain ⟨t1, ho⟩ := exo_at I.hok ex
  obtain ⟨hp, g, d, t, os⟩ := s
  refine PySem.W.set_plain I.kIn (ox := { cls := .ref C, dict := none, data := .fields #[.ref t1, .none, .none, .none, .bool false, .none] }) (od := none) ⟨ho, rfl, rfl, trivial⟩ T.sa (xs_first SF I.kIn ho T.over T.hasD no fun h' tk' dx k dn dne hx hn => ?_)
  have free : H dx = none := I.hok.fresh dn
  have old : ∀ {b : Addr} {o : Obj}, hp.get? b = some o → b ≠ dx := fun {b o} q => Nat.ne_of_lt (Nat.lt_of_lt_of_le (Heap.lt_size q) dn)
  have off : ∀ {b : Addr}, H b = none → b ≠ a := fun {b} n e => by
    subst e
    rw [n] at ex
    cases ex
  -- what is told elsewhere is told as before
  have same : ∀ {b : Addr} {o : HO}, H b = some o → o ≠ exo a C none → (upd (upd H dx (exd dx [(f, y)])) a (exo a C (some dx))) b = some o := fun {b o} q ne => by
    rw [upd_ne (at_ne ex q (Ne.symm ne)), upd_ne (ne_of_none q free)]
    exact q
  have U : Un X.fs [] H (upd (upd H dx (exd dx [(f, y)])) a (exo a C (some dx))) hp h' :=
    { keep := fun b o q n _ _ => k b o (off n) q
      slot := fun b o q n _ _ => ⟨o.slots, k b o (off n) q⟩
      free := fun b o q n _ => by
        rw [upd_ne (off n), upd_ne (old q)]
        exact n
      there := fun b o q _ => (Classical.em (b = a)).elim (fun e => ⟨_, e ▸ hx⟩) fun e => ⟨o, k b o e q⟩
      tups := fun b xs q => same q (Ne.symm exo_tup)
      frzs := fun b o v q => same q (Ne.symm exo_frz)
      tbls := fun b ps q => ⟨#[], by rw [same q (Ne.symm exo_tbl)]; simp⟩ }
  refine z dx _ free dne (I.un (t' := tk') U fun b o q => ?_)
  by_cases e1 : b = a
  · subst e1
    obtain rfl := Option.some.inj (upd_same.symm.trans q)
    exact exo_ok hx
  · rw [upd_ne e1] at q
    by_cases e2 : b = dx
    · subst e2
      obtain rfl := Option.some.inj (upd_same.symm.trans q)
      exact exd_ok hn (relO_put (fs := []) ry fun _ => True.intro)
    · rw [upd_ne e2] at q
      refine (I.hok b o q).stay (fun c v hc r => k c v ?_ r) (fun c hc => same hc (Ne.symm exo_own)) fun c xs hc => same hc (Ne.symm exo_tup)
      rcases hc with rfl | hc
      · exact e1
      · exact at_ne ex hc exo_own
theorem xset_later (SF : StoreFacts B tl "object.__setattr__" "object") (T : XCls X.K C fI tl newId) (I : Inv X pins σ H s) (ex : H a = some (exo a C (some dx))) (ed : H dx = some (exd dx fs)) (few : fs.length ≤ 900) (no : PySem.W.findIn X.K (.ref C) f = some none) (ry : RelV y u)
    (z : ∀ s', Inv X pins σ (upd H dx (exd dx ((f, y) :: fs))) s' → Q () s') : wpAny (model X.prog X.w) A (setAttr (.ref a) f u) Q E s := by
  obtain ⟨t1, ho⟩ := exo_at I.hok ex
  obtain ⟨mA, nd, rel⟩ := exd_at I.hok ed
  obtain ⟨hp, g, d, t, os⟩ := s
  obtain ⟨oD, _, _, at_d, _, _⟩ := nd.count (within_of rel)
  refine PySem.W.set_plain I.kIn (ox := { cls := .ref C, dict := some dx, data := .fields #[.ref t1, .none, .none, .none, .bool false, .none] }) (od := some oD) ⟨ho, rfl, rfl, at_d⟩ T.sa
    (xs_later SF I.kIn ho nd (within_of rel) (by rw [List.length_map]; omega) T.over T.hasD no fun h' tk' k hn => z _ (I.write (t' := tk') (x := dx) (e := dx) (o := exd dx ((f, y) :: fs)) (by rw [ed]; exact True.intro) (.inl rfl) k ?_ (exd_ok hn (relO_put ry rel))))
  obtain ⟨o, _, _, e, _⟩ := hn
  exact ⟨o, e⟩
end
/-- self.f = e, in an __init__ of an own exception class -/
def tXst (K : PySem.W.Frag) (tl : List Value) (newId : String) (f : Str) (to te : TE) : TS := fun D σ H => te σ H fun y H1 => to σ H1 fun x H2 => ∃ a C fI : Addr, x = .ref a ∧ XCls K C fI tl newId ∧ PySem.W.findIn K (.ref C) f = some none ∧
  ((H2 a = some (exo a C none) ∧ ∀ dx, H2 dx = none → dx ≠ a → D.nx σ (upd (upd H2 dx (exd dx [(f, y)])) a (exo a C (some dx)))) ∨
    ∃ (dx : Addr) (fs : List (Str × V)), H2 a = some (exo a C (some dx)) ∧ H2 dx = some (exd dx fs) ∧ fs.length ≤ 900 ∧ D.nx σ (upd H2 dx (exd dx ((f, y) :: fs))))
theorem ps_xst {X : Cx} {o e : Expr} {to te : TE} {f : Str} {p' pos : Pos} {B newId : String} {tl : List Value} (SF : StoreFacts B tl "object.__setattr__" "object") (ho : PE X o to) (he : PE X e te) (hs : swapsWith e (some (.Attribute o f p')) pos.line X.env = pure false := by rfl) :
    PS X (.Assign [.Attribute o f p'] e pos) (tXst X.K tl newId f to te) := by
  refine ⟨fun pins s σ H D I h => PySem.plainObj_wpAny_Assign_Attribute (thn (he.run pins s σ H _ I h) fun v s1 ⟨y, H1, I1, r1, q1⟩ => thn (ho.run pins s1 σ H1 _ I1 q1) fun u s2 ⟨x, H2, I2, r2, a, C, fI, ex, T, no, q⟩ => ?_) hs⟩
  subst ex
  obtain rfl : u = Value.ref a := r2
  rcases q with ⟨ea, q⟩ | ⟨dx, fs, ea, ed, few, q⟩
  · exact xset_first SF T I2 ea no r1 fun dx s' n ne J => ⟨σ, _, J, q dx n ne⟩
  · exact xset_later SF T I2 ea ed few no r1 fun s' J => ⟨σ, _, J, q⟩
/-! ### an own exception made as a value, its fields read, isinstance of it, repr -/
/-- what is asked of an own exception class so that its fields are read and isinstance answers -/
structure XLook (K : PySem.W.Frag) (C : Addr) : Prop where
  xf : XfC K C
  ex : ExcC K C
/-- v is read as the data d -/
def Rds (X : Cx) (H : Hp) (v : V) (d : PyData) : Prop := ∀ (pins : List (Addr × Obj)) (σ : St) (s : Shared) (u : Value), Inv X pins σ H s → RelV v u → ∃ as, Reads s.heap u d as ∧ (d.hasDict = true → sysModules ∉ as)
theorem Rds.of {X : Cx} {H : Hp} {v : V} {d : PyData} (h : Dp X.K H v d) (n : d.hasDict = false) : Rds X H v d := fun pins σ s u I r => by
  obtain ⟨as, q⟩ := Dp.reads I d v u h r
  exact ⟨as, q, fun z => by rw [n] at z; cases z⟩
/-! ### lists that are made anew do not lie where sys.modules lies -/
/-! ### data that are read, a dict without pairs among them -/
/-! ### own exception classes whose __init__ stores its parameters -/
/-- an exception of the class C stands at a; its dict holds fs -/
def Ex (H : Hp) (a C : Addr) (fs : List (Str × V)) : Prop := ∃ d, H a = some (exo a C (some d)) ∧ H d = some (exd d fs)
/-- all but a stays -/
abbrev Near (a : Addr) (H H' : Hp) : Prop := ∀ b o, H b = some o → b ≠ a → H' b = some o
def sp1 (f : Str) (C : Addr) : Sp := fun vs H Q _ => ∃ (a : Addr) (v : V), vs = [.ref a, v] ∧ H a = some (exo a C none) ∧ ∀ H', Near a H H' → Ex H' a C [(f, v)] → Q .non H'
def sp0 (C : Addr) : Sp := fun vs H Q _ => ∃ a : Addr, vs = [.ref a] ∧ H a = some (exo a C none) ∧ Q .non H
theorem Near.up {a : Addr} {o : HO} {H H' : Hp} (n : H a = none) (h : Near a (upd H a o) H') : Same H H' := fun b u e => h b u (by rw [upd_ne (ne_of_none e n)]; exact e) (ne_of_none e n)
/-! ### a list of one value so many times, shown -/
/-! ### raise of own exceptions, whatever built-in class is their base -/
def sp1n (f : Str) (C : Addr) : Sp := fun vs H Q _ => ∃ (a : Addr) (v : V), vs = [.ref a, v] ∧ H a = some (exo a C none) ∧ ∀ d, H d = none → d ≠ a → Q .non (upd (upd H d (exd d [(f, v)])) a (exo a C (some d)))
def sp2n (f g : Str) (C : Addr) : Sp := fun vs H Q _ => ∃ (a : Addr) (v u : V), vs = [.ref a, v, u] ∧ H a = some (exo a C none) ∧ ∀ d, H d = none → d ≠ a → Q .non (upd (upd (upd H d (exd d [(f, v)])) a (exo a C (some d))) d (exd d ((g, u) :: [(f, v)])))
/-- the class x of the module, at C, is made with n values by place, and may be raised -/
def XRz (P : Program) (w : World) (K : PySem.W.Frag) (mg : Str → Option Value) (base : Heap) (x : Str) (C : Addr) (n : Nat) (sp : Sp) : Prop :=
  ∃ (fI : Addr) (fd : FuncData) (ps : List Str) (B newId initId : String) (tl : List Value), ExcBaseFacts B newId initId tl ∧ XCls K C fI tl newId ∧ mg x = some (.ref C) ∧ FnOk P w K mg base CX0 1 fI fd ps sp ∧
    KBn K fd ps (n + 1) [] (fun us _ => us) (fun vs _ => vs) ∧ PySem.W.subIn K (.ref C) (.type "BaseException") = some true ∧ PySem.W.typeIn K (.ref C) = some (.type "type")
section
variable {X : Cx} {pins : List (Addr × Obj)} {σ : St} {s : Shared}
/-- the exception without a dict is let go -/
theorem mk_bare {H : Hp} {Q : XK} {h0 h1 h2 : Heap} {g1 g2 : Array GenState} {d1 d2 : Drawn} {t1 t2 : Nat} {o1 o2 : OsState} {a C : Addr} (R : Raises X (.ref C)) (I : Inv X pins σ H ⟨h0, g1, d1, t1, o1⟩) (new : h0.objs.size ≤ a) (on : ∀ b o, h0.get? b = some o → h1.get? b = some o)
    (un : Un (frs X.stack) [] (upd H a (exo a C none)) (upd H a (exo a C none)) h1 h2) (ok : HOk X.prog X.w (upd H a (exo a C none)) h2) (os : o2 = o1) (gens : PyProof.Rows.AllBare g2) (q : Q (.ref C) none H) : MkP X pins σ Q (.ref a) ⟨h2, g2, d2, t2, o2⟩ := by
  obtain ⟨t0, at_a⟩ := exo_at ok upd_same
  have free : H a = none := I.hok.fresh new
  obtain ⟨G, g_in, g_out⟩ := restrict h2 fun b => decide (b ≠ a)
  have same : ∀ b, b ≠ a → G.get? b = h2.get? b := fun b n => g_in b (decide_eq_true n)
  have gone : G.get? a = none := g_out a (by simp)
  have old : ∀ {b : Addr} {o : Obj}, h0.get? b = some o → b ≠ a := fun e => Nat.ne_of_lt (Nat.lt_of_lt_of_le (Heap.lt_size e) new)
  have off : ∀ {b : Addr} {o : HO}, H b = some o → b ≠ a := fun e => ne_of_none e free
  have still : ∀ {b : Addr}, b ≠ a → H b = none → upd H a (exo a C none) b = none := fun n e => by rw [upd_ne n]; exact e
  have U : Un (frs X.stack) [] H H h0 G :=
    { keep := fun b o e n m x => (same b (old e)).trans (un.keep b o (on b o e) (still (old e) n) m x)
      slot := fun b o e n m x => by
        obtain ⟨sl, y⟩ := un.slot b o (on b o e) (still (old e) n) m x
        exact ⟨sl, (same b (old e)).trans y⟩
      free := fun _ _ _ n _ => n
      there := fun b o e x => by
        obtain ⟨o', y⟩ := un.there b o (on b o e) x
        exact ⟨o', (same b (old e)).trans y⟩
      tups := fun _ _ e => e
      frzs := fun _ _ _ e => e
      tbls := fun b ps e => ⟨#[], by rw [e]; simp⟩ }
  have okG : HOk X.prog X.w H G := fun b o e => by
    have y := ok b o (by rw [upd_ne (off e)]; exact e)
    have noOwn : ∀ {c : Addr}, upd H a (exo a C none) c = some (.own b) → c ≠ a := fun {c} z m => by
      rw [m, upd_same] at z
      exact exo_own (Option.some.inj z)
    refine y.stay (fun c v hc z => ?_) (fun c z => ?_) fun c xs z => ?_
    · have hca : c ≠ a := by
        rcases hc with m | m
        · rw [m]
          exact off e
        · exact noOwn m
      exact (same c hca).trans z
    · rw [upd_ne (noOwn z)] at z
      exact z
    · by_cases m : c = a
      · rw [m, upd_same] at z
        exact (exo_tup (Option.some.inj z)).elim
      · rw [upd_ne m] at z
        exact z
  have J : Inv X pins σ H ⟨G, g2, d2, t2, o2⟩ := I.call' (ch := []) os U okG gens fun b m => absurd m (by simp)
  refine ⟨a, _, _, ⟨G, g2, d2, t2, o2⟩, H, .ref C, none, rfl, J, fun b o e => ?_, gone, at_a, ⟨rfl, rfl⟩, rfl, rfl, free, rfl, gens, R, q⟩
  by_cases m : b = a
  · rw [m, gone] at e
    cases e
  · exact (same b m).symm.trans e
/-- what is asked so that C(vs ..) is raised: its dict, where it has one, is new -/
def Flies (C : Addr) (sp : Sp) (vs : List V) (H1 : Hp) (Q : XK) : Prop := ∀ a, H1 a = none → sp (.ref a :: vs) (upd H1 a (exo a C none)) (fun v H2 => v = .non ∧
  ((∃ (d : Addr) (fs : List (Str × V)), H2 a = some (exo a C (some d)) ∧ H2 d = some (exd d fs) ∧ H1 d = none ∧ Q (.ref C) (some d) (upd (del H2 a) d (.xd fs))) ∨ (H2 = upd H1 a (exo a C none) ∧ Q (.ref C) none H1))) E0
theorem run_flies {x : Str} {C : Addr} {n : Nat} {sp : Sp} {H : Hp} {Q : XK} {us : List Value} {vs : List V} (o : XRz X.prog X.w X.K X.mg X.base x C n sp) (hr : Room 2 X.A) (I : Inv X pins σ H s) (r : Vals vs us) (l1 : vs.length = n) (few : vs.length ≤ 1000) (z : Flies C sp vs H Q) :
    wpAny (model X.prog X.w) X.A (call (.ref C) us) (MkP X pins σ Q) X.xe s := by
  obtain ⟨fI, fd, ps, B, newId, initId, tl, FB, T, m, F, hb, sub, ty⟩ := o
  have R : Raises X (.ref C) := raises_own sub ty
  obtain ⟨hp, gs, dr, tk, os⟩ := s
  obtain ⟨nm, N, qn, bs, bm, hdct, sn, sub', ab, col, dd, k0, k1, k2, k3, k5, hC, same⟩ := PySem.W.excInit_of I.kIn T.ini
  have up : hp.objs.size ≤ hp.objs.size + 1 := Nat.le_succ _
  have hq := z (hp.objs.size + 1) (I.hok.fresh up)
  have stay : ∀ b o, hp.get? b = some o → (exLaid hp C us).get? b = some o := fun b o q => Heap.get?_push_of_some _ (Heap.get?_push_of_some _ q)
  have made : (exLaid hp C us).get? (hp.objs.size + 1) = some { cls := .ref C, data := .fields #[.ref hp.objs.size, .none, .none, .none, .bool false, .none] } := by
    unfold exLaid
    heap_get
  have I2 : Inv X pins σ (upd H (hp.objs.size + 1) (exo (hp.objs.size + 1) C none)) ⟨exLaid hp C us, gs, dr, tk, os⟩ := I.laid (t' := tk) stay up (exo_ok made)
  have r1 : Vals (V.ref (hp.objs.size + 1) :: vs) (Value.ref (hp.objs.size + 1) :: us) := .cons rfl r
  have n1 : (Value.ref (hp.objs.size + 1) :: us).length = n + 1 := by
    rw [List.length_cons, ← r.length, l1]
  have fewU : us.length ≤ sizeLine := by
    rw [← r.length]
    exact Nat.le_trans few (by decide)
  obtain ⟨oI, at_I, isI⟩ : ∃ oI, hp.get? fI = some oI ∧ oI.cls = .type "function" := by
    obtain ⟨o, q, c⟩ := Option.map_eq_some_iff.mp (show (X.K.lookup fI).map (·.cls) = some (.type "function") from beq_iff_eq.mp T.isF)
    exact ⟨o, I.kIn _ _ q, c⟩
  refine wpAny_call (kw_call FB same hC (PySem.W.looks_findIn I.kIn T.init) (fun self => PySem.W.exc_bind at_I isI self) fewU (codeAny_mono (F.run _ X.stack _ _ ⟨Value.ref (hp.objs.size + 1) :: us, []⟩ (Value.ref (hp.objs.size + 1) :: us) _ _ E0
    (hr.make C us []) (I2.env0.make C us []) (hb.to _ (Value.ref (hp.objs.size + 1) :: us) [] I2.kIn n1 rfl) r1 hq) ?_))
  rintro (er | _ | _ | _ | u) s' y
  · exact y.elim
  · exact y.elim
  · exact y.elim
  · exact y.elim
  · obtain ⟨v, H2, os2, bare2, un2, ok2, rv, ev, y⟩ := y
    subst ev
    refine ⟨rv, ?_⟩
    obtain ⟨h2, g2, d2, t2, os'⟩ := s'
    rcases y with ⟨d, fs, ea, ed, nd, q⟩ | ⟨e, q⟩
    · exact mk_end R I up stay un2 ok2 os2 bare2 ea ed nd q
    · subst e
      exact mk_bare R I up stay un2 ok2 os2 bare2 q
/-- x(e, ..) in a raise -/
theorem pmk_flies {x : Str} {C : Addr} {n : Nat} {sp : Sp} {e : Expr} {es : List Expr} {t : TA} {p pos : Pos} (o : XRz X.prog X.w X.K X.mg X.base x C n sp) (hr : Room 2 X.A) (hg : Gl X x) (ha : PA X (e :: es) t) (hdb : (x == ("__debug__" : Str)) = false := by decide)
    (he : starEach (e :: es) X.env = (false, eval e X.env) :: starEach es X.env := by rfl) (hpl : (backTo pos (starEach es X.env)).any (·.1) = false := by rfl) :
    PMk X (.Call (.Name x p) (e :: es) [] pos) (fun σ H Q => t σ H fun vs H1 => vs.length = n ∧ vs.length ≤ 1000 ∧ Flies C sp vs H1 Q) := by
  intro pins s σ H Q I h
  obtain ⟨fI, fd, ps, B, newId, initId, tl, FB, T, m, F, hb, sub, ty⟩ := id o
  exact wpAny_Call_Name_kw (ld_glob I hg m (PySem.W.callWith_K (h₀ := X.base) I.ok.mod.kin T.kp (thn (ha.run pos pins s σ H _ I h) fun us s1 ⟨vs, H1, I1, r, l1, l2, q⟩ => ⟨I1.kIn, run_flies o hr I1 r l1 l2 q⟩) he hpl) hdb)
theorem xd_eq {H : Hp} {a C d : Addr} {o o' : HO} {fs : List (Str × V)} (n : H a = none) (ne : d ≠ a) : upd (del (upd (upd (upd H a o) d o') a (exo a C (some d))) a) d (.xd fs) = upd H d (.xd fs) := by
  funext b
  by_cases hb : b = d
  · rw [hb, upd_same, upd_same]
  · rw [upd_ne hb, upd_ne hb]
    by_cases ha : b = a
    · rw [ha, del_same, n]
    · rw [del_ne ha, upd_ne ha, upd_ne hb, upd_ne ha]
theorem xd_eq2 {H : Hp} {a C d : Addr} {o o' o2 : HO} {fs : List (Str × V)} (n : H a = none) (ne : d ≠ a) : upd (del (upd (upd (upd (upd H a o) d o') a (exo a C (some d))) d o2) a) d (.xd fs) = upd H d (.xd fs) := by
  funext b
  by_cases hb : b = d
  · rw [hb, upd_same, upd_same]
  · rw [upd_ne hb, upd_ne hb]
    by_cases ha : b = a
    · rw [ha, del_same, n]
    · rw [del_ne ha, upd_ne hb, upd_ne ha, upd_ne hb, upd_ne ha]
theorem flies1 {H : Hp} {f : Str} {C : Addr} {v : V} {Q : XK} (q : ∀ d, H d = none → Q (.ref C) (some d) (upd H d (.xd [(f, v)]))) : Flies C (sp1n f C) [v] H Q := fun a na => ⟨a, v, rfl, upd_same, fun d nd ne => ⟨rfl, .inl ⟨d, [(f, v)], upd_same, by rw [upd_ne ne, upd_same], by rw [upd_ne ne] at nd; exact nd, by
  rw [xd_eq na ne]
  rw [upd_ne ne] at nd
  exact q d nd⟩⟩⟩
theorem flies2 {H : Hp} {f g : Str} {C : Addr} {v u : V} {Q : XK} (q : ∀ d, H d = none → Q (.ref C) (some d) (upd H d (.xd [(g, u), (f, v)]))) : Flies C (sp2n f g C) [v, u] H Q := fun a na => ⟨a, v, u, rfl, upd_same, fun d nd ne => ⟨rfl, .inl ⟨d, [(g, u), (f, v)], by rw [upd_ne (Ne.symm ne), upd_same], upd_same, by rw [upd_ne ne] at nd; exact nd, by
  rw [xd_eq2 na ne]
  rw [upd_ne ne] at nd
  exact q d nd⟩⟩⟩
variable {x : Str} {C : Addr} {n : Nat} {sp : Sp} {W : WX} {e : Expr} {es : List Expr} {t : TA} {p pos pos2 : Pos}
/-- raise x(e, ..) -/
theorem ps_raiseN (o : XRz X.prog X.w X.K X.mg X.base x C n sp) (hr : Room 2 X.A) (hc : X.calm = true) (tk : Takes X W) (hg : Gl X x) (ha : PA X (e :: es) t) (hdb : (x == ("__debug__" : Str)) = false := by decide)
    (he : starEach (e :: es) X.env = (false, eval e X.env) :: starEach es X.env := by rfl) (hpl : (backTo pos (starEach es X.env)).any (·.1) = false := by rfl) :
    PS X (.Raise (some (.Call (.Name x p) (e :: es) [] pos)) none pos2) (fun _ σ H => t σ H fun vs H1 => vs.length = n ∧ vs.length ≤ 1000 ∧ Flies C sp vs H1 fun cls d H' => W cls d σ H') :=
  ps_raise hc tk (pmk_flies o hr hg ha hdb he hpl)
end
/-! ### try with several except clauses, each with a name of its own or with none -/
/-- what is wanted behind a suite whose name stands in slot i: there the name is gone -/
def behindName (i : Nat) (D : Ends) : Ends :=
  { nx := fun τ G => D.nx (τ.set i none) G, rt := D.rt, bk := fun τ G => D.bk (τ.set i none) G, ct := fun τ G => D.ct (τ.set i none) G }
/-- a clause: its class, its name's slot, its suite's reading -/
structure Clause where
  cls : Value
  slot : Option Nat
  ts : Addr → Value → Option Addr → TS
/-- the suite is entered with the exception at a -/
def Clause.enters (c : Clause) (a : Addr) (kd : Value) (dd : Option Addr) (D : Ends) (τ : St) (G : Hp) : Prop :=
  match c.slot with
  | none => c.ts a kd dd D τ G
  | some i => c.ts a kd dd (behindName i D) (τ.set i (some (.ref a))) G
/-- what the clauses, one after the other, wish of an exception -/
def wishes (K : PySem.W.Frag) (out : WX) (D : Ends) : List Clause → WX
  | [] => out
  | c :: r => fun kd dd τ G => ∃ hit, PySem.W.exmOne K kd c.cls = some hit ∧ (hit = true → ∀ a, G a = none → c.enters a kd dd D τ G) ∧ (hit = false → wishes K out D r kd dd τ G)
abbrev SuiteOk (X : Cx) (sts : List Stmt) (ts : Addr → Value → Option Addr → TS) : Prop :=
  ∀ (a : Addr) (ob : Obj) (kd : Value) (dd : Option Addr) (ps : List (Addr × Obj)), Zc kd dd ob → (∃ fv, ob.data = .fields fv) → PSs (X.suite a ((a, ob) :: ps)) sts (ts a kd dd)
inductive Clauses (X : Cx) : List ExceptHandler → List Clause → Prop
  | nil : Clauses X [] []
  | bare {x : Str} {c : Value} {ts : Addr → Value → Option Addr → TS} {st : Stmt} {sts : List Stmt} {p1 p2 : Pos} {hs : List ExceptHandler} {l : List Clause} (nm : Names X x c) (su : SuiteOk X (st :: sts) ts) (r : Clauses X hs l) :
      Clauses X (.ExceptHandler (some (.Name x p1)) none (st :: sts) p2 :: hs) (⟨c, none, ts⟩ :: l)
  | named {x y : Str} {i : Nat} {c : Value} {ts : Addr → Value → Option Addr → TS} {st : Stmt} {sts : List Stmt} {p1 p2 : Pos} {hs : List ExceptHandler} {l : List Clause} (nm : Names X x c) (at_i : X.N[i]? = some y) (lo : X.env.kindOf y = some .local) (su : SuiteOk X (st :: sts) ts)
      (r : Clauses X hs l) : Clauses X (.ExceptHandler (some (.Name x p1)) (some y) (st :: sts) p2 :: hs) (⟨c, some i, ts⟩ :: l)
section
variable {X : Cx} {body : List Stmt} {hd : ExceptHandler} {hs : List ExceptHandler} {l : List Clause} {pos : Pos} {tb : WX → TS} {out : WX}
theorem ps_tryN (top : X.stack = X.env :: X.outer) (own : X.env.frame = some X.env.locals) (nd : X.N.Nodup) (tk : Takes X out)
    (bd : ∀ (W : WX) (ps : List (Addr × Obj)) (xe : Value → Shared → Prop), Takes (X.tr ps xe) W → PassesOwn (model X.prog X.w) X.A X.env xe → PSs (X.tr ps xe) body (tb W))
    (cl : Clauses X (hd :: hs) l) : PS X (.Try body (hd :: hs) [] [] pos) (fun D τ G => tb (wishes X.K out D l) D τ G) := by
  refine ⟨fun pins s τ G D I q => wpAny_Try_except (wpAny_mono ((bd (wishes X.K out D l) (X.pn ++ pins) (fun e z1 => wpAny (model X.prog X.w) X.A (noteFrame e X.env) (fun _ z2 => wpAny (model X.prog X.w) X.A (setFlight e none)
    (fun _ z3 => wpAny (model X.prog X.w) X.A (handleBy e X.env (hd :: hs)) (SP X pins D) X.xe z3) X.xe z2) X.xe z1) (fun u z caught => ?_) PassesOwn.looking).run [] s τ G D (I.toTry _) q) ?_ fun _ _ w => w)⟩
  · -- an exception of the body
    have fit := I.ok
    have frs_ : X.A.frames = some (X.env :: X.outer) := fit.frames.trans (by rw [top])
    obtain ⟨a, B, sI, pins1, τ1, G1, kd, dd, rfl, J1, nb, up, sky, free, os, ag, wish⟩ := caught
    have J : Inv X pins τ1 G1 sI := J1.ofTry fit
    show wpAny (model X.prog X.w) X.A (noteFrame (.ref a) X.env) _ _ _
    refine Sky.land Zc.steady frs_ own (by rw [← top]; exact sky) fun h1 fly1 up1 => ?_
    have J2 : Inv X pins τ1 G1 { z with heap := h1 } := J.landed nb fly1.1 (up.trans up1) os ag
    obtain ⟨ob, fv, at_a, zc, isF⟩ := fly1.there
    -- the exception is no frame
    have noFrame : a ∉ frs (X.env :: X.outer) := fun m => by
      obtain ⟨_, o2, e2, no⟩ := fly1.2.2.1.mem m
      rw [at_a] at e2
      cases e2
      exact no _ isF
    have neL : a ≠ X.env.locals := fun e => noFrame (List.mem_filterMap.mpr ⟨X.env, List.mem_cons_self, by rw [own, e]⟩)
    have notF : a ∉ X.fs := fun m => by
      obtain ⟨en, hen, e⟩ := List.mem_filterMap.mp m
      exact noFrame (List.mem_filterMap.mpr ⟨en, List.mem_cons_of_mem _ hen, e⟩)
    have U := J2.suite at_a isF free neL notF
    have tyA : PySem.W.Looks (model X.prog X.w) h1 (typeOf (.ref a)) kd := fun _ _ _ _ kp w => wpAny_typeOf_ref (kp _ _ at_a) (by rw [zc.1]; exact w)
    -- a clause's class is looked up
    have class_ : ∀ {x : Str} {c : Value} {p1 : Pos} {Q : Value → Shared → Prop} {E : Value → Shared → Prop}, Names X x c → Q c { z with heap := h1 } →
        wpAny (model X.prog X.w) (X.A.mark (some (.ref a))) (eval (.Name x p1) X.env) Q E { z with heap := h1 } := fun {x c p1 Q E} nm w => by
      rcases nm with ⟨g, nodbg, m | ⟨m, v, noname⟩⟩
      · exact ld_glob (X := X.suite a ((a, ob) :: (X.pn ++ pins))) U g m w nodbg
      · exact ld_blt (X := X.suite a ((a, ob) :: (X.pn ++ pins))) U g m v w noname nodbg
    have walk : ∀ {hs' : List ExceptHandler} {l' : List Clause}, Clauses X hs' l' → wishes X.K out D l' kd dd τ1 G1 → wpAny (model X.prog X.w) X.A (handleBy (.ref a) X.env hs') (SP X pins D) X.xe { z with heap := h1 } := by
      intro hs' l' c
      induction c with
      | nil =>
        intro w
        obtain ⟨_, _, _, oe, vs, T, oT, _, e1, _, e2, e3, _⟩ := id fly1
        have on : wpAny (model X.prog X.w) X.A (setFlight (.ref a) X.env.frame) (fun _ z4 => wpAny (model X.prog X.w) X.A (throw (.ref a) : Sem Flow) (SP X pins D) X.xe z4) X.xe { z with heap := h1 } := by
          rw [own]
          exact HandSPX.setFlight_upZ fly1 fun h2 sky2 up2 => wpAny_throw (tk _ _ ⟨a, B, sI, pins, τ1, G1, kd, dd, rfl, J, nb, (up.trans up1).trans up2, .inr (.inr (by rw [top]; exact sky2)), free, os, ag, w⟩)
        refine wpAny_handleBy_nil ?_
        unfold PySem.passOn
        refine wpAny_bind (wpAny_field e1 e2 e3 ?_)
        rw [if_neg (by simp)]
        first
          | exact wpAny_bind on
          | exact wpAny_bind (wpAny_pure (wpAny_bind on))
      | @bare x c ts st sts p1 p2 hs2 l2 nm su r ih =>
        intro w
        obtain ⟨hit, ex, yes, no⟩ := w
        refine wpAny_handleBy_cons (codeAny_handlers_test (class_ nm ((PySem.W.exm_one (M := model X.prog X.w) J2.kIn tyA ex).here ?_))) (fun e => by cases e)
        cases hit with
        | false => exact ih (no rfl)
        | true =>
          refine codeAny_handlers_suite (HandSPX.lands_againZ fly1 fun h2 fly2 up2 => ?_)
          obtain ⟨ob2, fv2, at2, zc2, isF2⟩ := fly2.there
          have V := (J.landed (s' := { z with heap := h2 }) nb fly2.1 ((up.trans up1).trans up2) os ag).suite at2 isF2 free neL notF
          refine wpAny_mono ((su a ob2 kd dd (X.pn ++ pins) zc2 ⟨_, isF2⟩).run [] _ _ G1 _ V (yes rfl a free)) ?_ fun _ _ w => w.elim
          rintro (_ | _ | _ | u) z6 y
          · obtain ⟨τ6, G6, S6, q6⟩ := y
            exact ⟨_, _, S6.unsuite fit, q6⟩
          · obtain ⟨τ6, G6, S6, q6⟩ := y
            exact ⟨_, _, S6.unsuite fit, q6⟩
          · obtain ⟨τ6, G6, S6, q6⟩ := y
            exact ⟨_, _, S6.unsuite fit, q6⟩
          · obtain ⟨v6, τ6, G6, S6, r6, q6⟩ := y
            exact ⟨_, _, _, S6.unsuite fit, r6, q6⟩
      | @named x y i c ts st sts p1 p2 hs2 l2 nm at_i lo su r ih =>
        intro w
        obtain ⟨hit, ex, yes, no⟩ := w
        refine wpAny_handleBy_cons (codeAny_handlers_test (class_ nm ((PySem.W.exm_one (M := model X.prog X.w) J2.kIn tyA ex).here ?_))) (fun e => by cases e)
        cases hit with
        | false => exact ih (no rfl)
        | true =>
          refine codeAny_handlers_suite_as (HandSPX.lands_againZ fly1 fun h2 fly2 up2 => ?_)
          obtain ⟨ob2, fv2, at2, zc2, isF2⟩ := fly2.there
          have V := (J.landed (s' := { z with heap := h2 }) nb fly2.1 ((up.trans up1).trans up2) os ag).suite at2 isF2 free neL notF
          refine store_ok (X := X.suite a ((a, ob2) :: (X.pn ++ pins))) (v := .ref a) V nd at_i (.inl lo) rfl (fun z5 V5 => ?_) (.inr lo)
          have gone : ∀ {τ6 : St} {G6 : Hp} {R : Shared → Prop} {z6 : Shared}, Inv (X.suite a ((a, ob2) :: (X.pn ++ pins))) [] τ6 G6 z6 → (∀ z7, Inv X pins (τ6.set i none) G6 z7 → R z7) →
              wpAny (model X.prog X.w) X.A (do bindName X.env y .none; unbindBehindTheSuite X.env y p2) (fun _ z7 => R z7) X.xe z6 := fun {τ6 G6 R z6} S6 w => gone_ok (S6.unsuite fit) nd at_i lo w
          refine wpAny_mono ((su a ob2 kd dd (X.pn ++ pins) zc2 ⟨_, isF2⟩).run [] z5 _ G1 _ V5 (yes rfl a free)) ?_ fun _ _ w => w.elim
          rintro (_ | _ | _ | u) z6 k6
          · obtain ⟨τ6, G6, S6, q6⟩ := k6
            exact gone S6 fun z7 J7 => ⟨_, _, J7, q6⟩
          · obtain ⟨τ6, G6, S6, q6⟩ := k6
            exact gone S6 fun z7 J7 => ⟨_, _, J7, q6⟩
          · obtain ⟨τ6, G6, S6, q6⟩ := k6
            exact gone S6 fun z7 J7 => ⟨_, _, J7, q6⟩
          · obtain ⟨v6, τ6, G6, S6, r6, q6⟩ := k6
            exact gone S6 fun z7 J7 => ⟨_, _, _, J7, r6, q6⟩
    exact walk cl wish
  · rintro (_ | _ | _ | u) z1 y
    · obtain ⟨τ1, G1, J1, w⟩ := y
      exact wpAny_execs_nil ⟨τ1, G1, J1.ofTry I.ok, w⟩
    · obtain ⟨τ1, G1, J1, w⟩ := y
      exact ⟨τ1, G1, J1.ofTry I.ok, w⟩
    · obtain ⟨τ1, G1, J1, w⟩ := y
      exact ⟨τ1, G1, J1.ofTry I.ok, w⟩
    · obtain ⟨v, τ1, G1, J1, r, w⟩ := y
      exact ⟨v, τ1, G1, J1.ofTry I.ok, r, w⟩
end
/-! ### own words: a def by its name, its promise by its name -/
/-- the def x of the text stands in the module -/
def Has (K : PySem.W.Frag) (mg : Str → Option Value) (x : Str) (st : Stmt) (ps : List Str) : Prop :=
  ∃ f fd, mg x = some (.ref f) ∧ Binds K fd ps [] ∧ Fun K x x st f fd
/-- the def x keeps the promise sp -/
def Ok (P : Program) (w : World) (K : PySem.W.Frag) (mg : Str → Option Value) (base : Heap) (k : Nat) (x : Str) (ps : List Str) (sp : Sp) : Prop :=
  ∃ f fd, mg x = some (.ref f) ∧ PySem.W.keepIn K (.ref f) = true ∧ Binds K fd ps [] ∧ FnOk P w K mg base CX0 k f fd ps sp
theorem pe_cO {X : Cx} {k : Nat} {x : Str} {ps : List Str} {sp : Sp} {p pos : Pos} {e : Expr} {es : List Expr} {t : TA} {E : XK} (o : Ok X.prog X.w X.K X.mg X.base k x ps sp) (hr : Room k X.A) (hx : Passes CX0 X E) (hg : Gl X x)
    (ha : PA X (e :: es) t) (hdb : (x == ("__debug__" : Str)) = false := by decide) (he : starEach (e :: es) X.env = (false, eval e X.env) :: starEach es X.env := by rfl) (hpl : (backTo pos (starEach es X.env)).any (·.1) = false := by rfl) :
    PE X (.Call (.Name x p) (e :: es) [] pos) (tCall sp [] E t) := by
  obtain ⟨f, fd, g, kp, b, G⟩ := o
  exact pe_call G hr hg g kp b .nil hx ha hdb he hpl
/-! ### numbers of a fair size -/
def Sm (i : Int) : Prop := -(2 ^ 600) < i ∧ i < 2 ^ 600
theorem Sm.nat {i : Int} (h : Sm i) : i.natAbs < 2 ^ 600 := by
  obtain ⟨h1, h2⟩ := h
  omega
section
variable {X : Cx}
theorem op_mulS : OpR X (binaryOp .Mult) (rI (fun i j => Sm i ∧ Sm j) fun i j => .int (i * j)) := by
  intro pins s σ H x y v u Q I rx ry h
  obtain ⟨i, j, rfl, rfl, ⟨h1, h2⟩, q⟩ := h
  exact op_mulW pins s σ H _ _ v u Q I rx ry ⟨i, j, rfl, rfl, wide_mul h1.nat h2.nat (by decide) (by decide) (by decide), q⟩
theorem op_divS : OpR X (binaryOp .FloorDiv) (rI (fun _ j => j ≠ 0 ∧ Sm j) fun i j => .int (i.fdiv j)) := opI fun i j _ _ _ _ _ hc q =>
  PyProof.Rows.floordiv_int hc.1 q (.inl (PyProof.noPylong_of_log2 (Nat.lt_of_lt_of_le (PySem.Flt.log2_lt_of (by decide : 0 < 600) hc.2.nat) (by decide))))
end
/-! ### heaps: all but the pool stays -/
def Keep (pp : Addr) (H H' : Hp) : Prop := ∀ b o, H b = some o → b ≠ pp → H' b = some o
theorem Keep.refl {pp : Addr} {H : Hp} : Keep pp H H := fun _ _ h _ => h
theorem Keep.trans {pp : Addr} {H H1 H2 : Hp} (a : Keep pp H H1) (b : Keep pp H1 H2) : Keep pp H H2 := fun c o h n => b c o (a c o h n) n
theorem Same.keep {pp : Addr} {H H' : Hp} (a : Same H H') : Keep pp H H' := fun b o h _ => a b o h
theorem Keep.seq {pp a : Addr} {K : PySem.W.Frag} {H H' : Hp} {xs : List V} (e : Keep pp H H') (n : a ≠ pp) (h : SqL K H a xs) : SqL K H' a xs := by
  rcases h with (h | ⟨o, h⟩) | h
  · exact .inl (.inl (e _ _ h n))
  · exact .inl (.inr ⟨o, e _ _ h n⟩)
  · exact .inr h
theorem Same.new {H : Hp} {p : Addr} {o : HO} (n : H p = none) : Same H (upd H p o) := fun b u h => by
  rw [upd_ne (ne_of_none h n)]
  exact h
/-- a pool of draws stands at pp -/
def PoolAt (H : Hp) (pp : Addr) : Prop := ∃ c s : Int, 0 ≤ s ∧ s < 2147483647 ∧ H pp = some (.lst [.int c, .int s])
theorem PoolAt.keep {H H' : Hp} {pp p : Addr} (h : PoolAt H p) (e : Keep pp H H') (n : p ≠ pp) : PoolAt H' p := by
  obtain ⟨c, s, h0, h1, h2⟩ := h
  exact ⟨c, s, h0, h1, e _ _ h2 n⟩
theorem PoolAt.same {H H' : Hp} {p : Addr} (h : PoolAt H p) (e : Same H H') : PoolAt H' p := by
  obtain ⟨c, s, h0, h1, h2⟩ := h
  exact ⟨c, s, h0, h1, e _ _ h2⟩
theorem PoolAt.ne {H : Hp} {p q : Addr} (h : PoolAt H p) (n : H q = none) : q ≠ p := by
  obtain ⟨c, s, h0, h1, h2⟩ := h
  exact (ne_of_none h2 n).symm
theorem Keep.free {pp l : Addr} {H H' : Hp} (e : Keep pp H H') (h : PoolAt H' pp) (n : H' l = none) : H l = none := by
  cases q : H l with
  | none => rfl
  | some o =>
    rw [e l o q (h.ne n)] at n
    cases n
theorem atI0 {α : Type} {x : α} {xs : List α} : atI (x :: xs) 0 = some x := atI_nat (j := 0) rfl
theorem atI1 {α : Type} {x y : α} {xs : List α} : atI (x :: y :: xs) 1 = some y := atI_nat (j := 1) rfl
theorem kIntInt {K : PySem.W.Frag} : PySem.W.kitOne K (.type "int") (.type "int") = some true := kit_ty (show kitB "int" "int" = some true by decide +kernel)
theorem kIntBool {K : PySem.W.Frag} : PySem.W.kitOne K (.type "int") (.type "bool") = some false := kit_ty (show kitB "int" "bool" = some false by decide +kernel)
theorem n29 : (2147483629 : Int) ≠ 0 := by decide
theorem n47 : (2147483647 : Int) ≠ 0 := by decide
theorem vne {i j : Int} (h : i ≠ j) : ¬ decide (V.int i = V.int j) = true := fun z => h (by injection of_decide_eq_true z)
theorem veq {i j : Int} (h : i = j) : decide (V.int i = V.int j) = true := decide_eq_true (by rw [h])
theorem sne {i j : Str} (h : i ≠ j) : ¬ decide (V.str i = V.str j) = true := fun z => h (by injection of_decide_eq_true z)
theorem of_veq {i j : Int} (h : decide (V.int i = V.int j) = true) : i = j := by injection of_decide_eq_true h
theorem of_seq {i j : Str} (h : decide (V.str i = V.str j) = true) : i = j := by injection of_decide_eq_true h
theorem of_vne {i j : Int} (h : ¬ decide (V.int i = V.int j) = true) : i ≠ j := fun z => h (by rw [z]; exact decide_eq_true rfl)
theorem of_sne {i j : Str} (h : ¬ decide (V.str i = V.str j) = true) : i ≠ j := fun z => h (by rw [z]; exact decide_eq_true rfl)
theorem iteN {c A B : Prop} [Decidable c] (h : ¬ c) (q : B) : if c then A else B := by
  rw [if_neg h]
  exact q
theorem iteP {c A B : Prop} [Decidable c] (h : c) (q : A) : if c then A else B := by
  rw [if_pos h]
  exact q
theorem bnot_dec {c : Prop} [Decidable c] (h : (!decide c) = true) : ¬ c := fun z => by
  rw [decide_eq_true z] at h
  cases h
theorem bnot_dec' {c : Prop} [Decidable c] (h : ¬ (!decide c) = true) : c := by
  by_cases z : c
  · exact z
  · exact absurd (by rw [decide_eq_false z]; rfl) h
/-! ### the built-ins, by name -/
theorem bb_isinstance : bootBuiltins "isinstance" = some (.builtin "isinstance") := by decide +kernel
theorem bb_len : bootBuiltins "len" = some (.builtin "len") := by decide +kernel
theorem bb_max : bootBuiltins "max" = some (.builtin "max") := by decide +kernel
theorem bb_min : bootBuiltins "min" = some (.builtin "min") := by decide +kernel
theorem bb_abs : bootBuiltins "abs" = some (.builtin "abs") := by decide +kernel
theorem bb_sum : bootBuiltins "sum" = some (.builtin "sum") := by decide +kernel
theorem bb_all : bootBuiltins "all" = some (.builtin "all") := by decide +kernel
theorem bb_int : bootBuiltins "int" = some (.type "int") := by decide +kernel
theorem bb_bool : bootBuiltins "bool" = some (.type "bool") := by decide +kernel
theorem bb_str : bootBuiltins "str" = some (.type "str") := by decide +kernel
theorem bb_list : bootBuiltins "list" = some (.type "list") := by decide +kernel
theorem bb_tuple : bootBuiltins "tuple" = some (.type "tuple") := by decide +kernel
/-! ### what stays; data that is tracked; comprehensions by what their elements are -/
section
/-- all that stands outside Z stays -/
def Fm (Z : Addr → Prop) (H H' : Hp) : Prop := ∀ b o, H b = some o → ¬ Z b → H' b = some o
abbrev Z0 : Addr → Prop := fun _ => False
abbrev Zp (pp : Addr) : Addr → Prop := fun b => b = pp
theorem Fm.refl {Z : Addr → Prop} {H : Hp} : Fm Z H H := fun _ _ h _ => h
theorem Fm.trans {Z : Addr → Prop} {H H1 H2 : Hp} (a : Fm Z H H1) (b : Fm Z H1 H2) : Fm Z H H2 := fun c o h n => b c o (a c o h n) n
theorem Fm.of {Z : Addr → Prop} {H H' : Hp} (s : Same H H') : Fm Z H H' := fun b o h _ => s b o h
theorem Fm.same {H H' : Hp} (s : Fm Z0 H H') : Same H H' := fun b o h => s b o h id
theorem Fm.keep {pp : Addr} {H H' : Hp} (s : Fm (Zp pp) H H') : Keep pp H H' := s
theorem Keep.fr {pp : Addr} {H H' : Hp} (s : Keep pp H H') : Fm (Zp pp) H H' := s
theorem Fm.new {Z : Addr → Prop} {H : Hp} {p : Addr} {o : HO} (n : H p = none) : Fm Z H (upd H p o) := Fm.of (Same.new n)
/-- a later store at a place that was free -/
theorem Fm.on {Z : Addr → Prop} {H H' : Hp} {p : Addr} {o : HO} (s : Fm Z H H') (n : H p = none) : Fm Z H (upd H' p o) := fun b u h z => by
  rw [upd_ne (ne_of_none h n)]
  exact s b u h z
mutual
/-- the value v is the data d, all of it tracked and outside Z -/
inductive Dt (Z : Addr → Prop) (H : Hp) : V → PyData → Prop
  | non : Dt Z H .non .none
  | bl (b : Bool) : Dt Z H (.bl b) (.bool b)
  | int (i : Int) : Dt Z H (.int i) (.int i)
  | str (x : Str) : Dt Z H (.str x) (.str x)
  | lst {a : Addr} {xs : List V} {ds : List PyData} : H a = some (.lst xs) → ¬ Z a → DtAll Z H xs ds → Dt Z H (.ref a) (.list ds)
  | tup {a : Addr} {xs : List V} {ds : List PyData} : H a = some (.tup xs) → ¬ Z a → DtAll Z H xs ds → Dt Z H (.ref a) (.tuple ds)
inductive DtAll (Z : Addr → Prop) (H : Hp) : List V → List PyData → Prop
  | nil : DtAll Z H [] []
  | cons {v : V} {vs : List V} {d : PyData} {ds : List PyData} : Dt Z H v d → DtAll Z H vs ds → DtAll Z H (v :: vs) (d :: ds)
end
variable {Z : Addr → Prop} {H H' : Hp} {K : PySem.W.Frag}
mutual
theorem Dt.fr' (s : Fm Z H H') {v : V} {d : PyData} (h : Dt Z H v d) : Dt Z H' v d :=
  match h with
  | .non => .non
  | .bl b => .bl b
  | .int i => .int i
  | .str x => .str x
  | .lst e n t => .lst (s _ _ e n) n (DtAll.fr' s t)
  | .tup e n t => .tup (s _ _ e n) n (DtAll.fr' s t)
theorem DtAll.fr' (s : Fm Z H H') {vs : List V} {ds : List PyData} (h : DtAll Z H vs ds) : DtAll Z H' vs ds :=
  match h with
  | .nil => .nil
  | .cons a b => .cons (Dt.fr' s a) (DtAll.fr' s b)
end
theorem Dt.fr {v : V} {d : PyData} (h : Dt Z H v d) (s : Fm Z H H') : Dt Z H' v d := Dt.fr' s h
theorem DtAll.fr {vs : List V} {ds : List PyData} (h : DtAll Z H vs ds) (s : Fm Z H H') : DtAll Z H' vs ds := DtAll.fr' s h
mutual
theorem Dt.dp' {v : V} {d : PyData} (h : Dt Z H v d) : Dp K H v d :=
  match h with
  | .non => .non
  | .bl b => .bl b
  | .int i => .int i
  | .str x => .str x
  | .lst e n t => .lst (SqL.of e) (DtAll.dp' t)
  | .tup e n t => .tup (SqT.of e) (DtAll.dp' t)
theorem DtAll.dp' {vs : List V} {ds : List PyData} (h : DtAll Z H vs ds) : DpAll K H vs ds :=
  match h with
  | .nil => .nil
  | .cons a b => .cons (Dt.dp' a) (DtAll.dp' b)
end
theorem Dt.dp {v : V} {d : PyData} (h : Dt Z H v d) : Dp K H v d := Dt.dp' h
mutual
theorem Dt.mono' {Z' : Addr → Prop} (z : ∀ a, Z' a → Z a) {v : V} {d : PyData} (h : Dt Z H v d) : Dt Z' H v d :=
  match h with
  | .non => .non
  | .bl b => .bl b
  | .int i => .int i
  | .str x => .str x
  | .lst e n t => .lst e (fun m => n (z _ m)) (DtAll.mono' z t)
  | .tup e n t => .tup e (fun m => n (z _ m)) (DtAll.mono' z t)
theorem DtAll.mono' {Z' : Addr → Prop} (z : ∀ a, Z' a → Z a) {vs : List V} {ds : List PyData} (h : DtAll Z H vs ds) : DtAll Z' H vs ds :=
  match h with
  | .nil => .nil
  | .cons a b => .cons (Dt.mono' z a) (DtAll.mono' z b)
end
theorem Dt.z0 {v : V} {d : PyData} (h : Dt Z H v d) : Dt Z0 H v d := Dt.mono' (fun _ m => m.elim) h
theorem Dt.mono {Z' : Addr → Prop} {v : V} {d : PyData} (h : Dt Z H v d) (z : ∀ a, Z' a → Z a) : Dt Z' H v d := Dt.mono' z h
theorem DtAll.len {vs : List V} {ds : List PyData} (h : DtAll Z H vs ds) : vs.length = ds.length := by
  induction vs generalizing ds with
  | nil => cases h; rfl
  | cons v vs ih => cases h with | cons a b => rw [List.length_cons, List.length_cons, ih b]
theorem DtAll.get {vs : List V} {ds : List PyData} (h : DtAll Z H vs ds) {i : Nat} {v : V} (e : vs[i]? = some v) : ∃ d, ds[i]? = some d ∧ Dt Z H v d := by
  induction vs generalizing ds i with
  | nil => simp at e
  | cons u vs ih =>
    cases h with
    | cons a b =>
      cases i with
      | zero =>
        simp at e
        subst e
        exact ⟨_, rfl, a⟩
      | succ i =>
        simp at e
        obtain ⟨d, e1, e2⟩ := ih b e
        exact ⟨d, by simpa using e1, e2⟩
theorem DtAll.append {vs us : List V} {ds es : List PyData} (h : DtAll Z H vs ds) (g : DtAll Z H us es) : DtAll Z H (vs ++ us) (ds ++ es) := by
  induction vs generalizing ds with
  | nil => cases h; exact g
  | cons v vs ih => cases h with | cons a b => exact .cons a (ih b)
theorem DtAll.take {vs : List V} {ds : List PyData} (h : DtAll Z H vs ds) (n : Nat) : DtAll Z H (vs.take n) (ds.take n) := by
  induction vs generalizing ds n with
  | nil => cases h; simp; exact .nil
  | cons v vs ih =>
    cases h with
    | cons a b =>
      cases n with
      | zero => exact .nil
      | succ n => exact .cons a (ih b n)
theorem DtAll.drop {vs : List V} {ds : List PyData} (h : DtAll Z H vs ds) (n : Nat) : DtAll Z H (vs.drop n) (ds.drop n) := by
  induction vs generalizing ds n with
  | nil => cases h; simp; exact .nil
  | cons v vs ih =>
    cases h with
    | cons a b =>
      cases n with
      | zero => exact .cons a b
      | succ n => exact ih b n
theorem DtAll.of_get {vs : List V} {ds : List PyData} (l : vs.length = ds.length) (h : ∀ (i : Nat) (v : V) (d : PyData), vs[i]? = some v → ds[i]? = some d → Dt Z H v d) : DtAll Z H vs ds := by
  induction vs generalizing ds with
  | nil =>
    cases ds with
    | nil => exact .nil
    | cons d ds => simp at l
  | cons v vs ih =>
    cases ds with
    | nil => simp at l
    | cons d ds =>
      refine .cons (h 0 v d rfl rfl) (ih (by simpa using l) fun i v' d' e1 e2 => h (i + 1) v' d' ?_ ?_)
      · rw [List.getElem?_cons_succ]
        exact e1
      · rw [List.getElem?_cons_succ]
        exact e2
theorem DtAll.ints (ns : List Int) : DtAll Z H (ns.map V.int) (ns.map PyData.int) := by
  induction ns with
  | nil => exact .nil
  | cons n ns ih => exact .cons (.int n) ih
theorem DtAll.ints_eq {vs : List V} {ns : List Int} (h : DtAll Z H vs (ns.map PyData.int)) : vs = ns.map V.int := by
  induction ns generalizing vs with
  | nil => cases h; rfl
  | cons n ns ih =>
    cases h with
    | cons a b =>
      cases a
      rw [ih b]
      rfl
end
section
variable {J : It} {n : Nat} {G : Hp → Prop} {Y : Nat → Hp → V → Hp → Prop}
theorem get_snoc {α : Type} {xs : List α} {y z : α} {j : Nat} (h : (xs ++ [y])[j]? = some z) : xs[j]? = some z ∨ (j = xs.length ∧ y = z) := by
  by_cases hj : j < xs.length
  · rw [List.getElem?_append_left hj] at h
    exact .inl h
  · rw [List.getElem?_append_right (by omega)] at h
    by_cases h0 : j - xs.length = 0
    · rw [h0] at h
      exact .inr ⟨by omega, by simpa using h⟩
    · obtain ⟨k, hk⟩ : ∃ k, j - xs.length = k + 1 := ⟨j - xs.length - 1, by omega⟩
      rw [hk] at h
      simp at h
theorem Fm.wide {Z Z' : Addr → Prop} {H H' : Hp} (s : Fm Z H H') (z : ∀ a, Z a → Z' a) : Fm Z' H H' := fun b o h n => s b o h fun m => n (z _ m)
/-- Z, and D -/
def Zu (Z : Addr → Prop) (D : Addr) : Addr → Prop := fun b => Z b ∨ b = D
theorem Fm.zu {Z : Addr → Prop} {D : Addr} {H H' : Hp} (s : Fm Z H H') : Fm (Zu Z D) H H' := s.wide fun _ m => .inl m
theorem zu_ne {Z : Addr → Prop} {D a : Addr} (h : ¬ Z a) (n : a ≠ D) : ¬ Zu Z D a := fun m => m.elim h n
theorem Fm.at_zu {Z : Addr → Prop} {D : Addr} {H : Hp} {o : HO} : Fm (Zu Z D) H (upd H D o) := fun b u h n => by
  rw [upd_ne (fun m => n (.inr m))]
  exact h
mutual
theorem Dt.off' {Z : Addr → Prop} {D : Addr} {H : Hp} (n : H D = none) {v : V} {d : PyData} (h : Dt Z H v d) : Dt (Zu Z D) H v d :=
  match h with
  | .non => .non
  | .bl b => .bl b
  | .int i => .int i
  | .str x => .str x
  | .lst e m t => .lst e (zu_ne m (ne_of_none e n)) (DtAll.off' n t)
  | .tup e m t => .tup e (zu_ne m (ne_of_none e n)) (DtAll.off' n t)
theorem DtAll.off' {Z : Addr → Prop} {D : Addr} {H : Hp} (n : H D = none) {vs : List V} {ds : List PyData} (h : DtAll Z H vs ds) : DtAll (Zu Z D) H vs ds :=
  match h with
  | .nil => .nil
  | .cons a b => .cons (Dt.off' n a) (DtAll.off' n b)
end
theorem Dt.off {Z : Addr → Prop} {D : Addr} {H : Hp} {v : V} {d : PyData} (h : Dt Z H v d) (n : H D = none) : Dt (Zu Z D) H v d := Dt.off' n h
theorem Dt.un {Z : Addr → Prop} {D : Addr} {H : Hp} {v : V} {d : PyData} (h : Dt (Zu Z D) H v d) : Dt Z H v d := h.mono fun _ m => .inl m
/-- a comprehension without a test: R tells of each element, I holds of all heaps on the way -/
theorem lc_acc (w : Walk J n G Y) {g : TG} {te : TE} {vs : List Nat} {σ : St} {H1 : Hp} {D : Addr} {Qd : Hp → Prop} (Z : Addr → Prop) (I : Hp → Prop) (R : Nat → V → Hp → Prop)
    (hD : H1 D = none) (zD : ¬ Z D) (i0 : I H1) (iS : ∀ H l, I H → ¬ Z D → I (upd H D (.lst l))) (rS : ∀ i y H H', i < n → R i y H → Fm (Zu Z D) H H' → R i y H') (few : n < sizeLine)
    (hG : ∀ H, Fm Z H1 H → G H)
    (hs : ∀ i x H H' (Qk : V → Hp → Prop), i < n → Fm Z H1 H → I H → (∀ p, H p = none → p ≠ D) → Y i H x H' → (∀ y H4, Fm Z H H4 → I H4 → R i y H4 → Qk y H4) → g x (wipe σ vs) H' fun σ2 H2 => wipe σ2 vs = wipe σ vs ∧ te σ2 H2 Qk)
    (hd : ∀ H xs, Fm Z H1 H → I H → H D = some (.lst xs) → xs.length = n → (∀ j y, xs[j]? = some y → R j y H) → Qd H) :
    ∃ W : Nat → Nat → Hp → Prop, (∃ m, W 0 m (upd H1 D (.lst []))) ∧ ∀ i m H, W i m H →
      (J.stop i H ∧ Qd H) ∨ (J.go i H ∧ ∃ Nx : Hp → Prop, (∀ H', Nx H' → ∃ m', m' < m ∧ W (i + 1) m' H') ∧ ∀ x H', J.yld i H x H' → g x (wipe σ vs) H' fun σ2 H2 => wipe σ2 vs = wipe σ vs ∧ tYes σ2 H2 fun b H3 =>
        if b = true then te σ2 H3 fun y H4 => ∃ acc, H4 D = some (.lst acc) ∧ acc.length < sizeLine ∧ Nx (upd H4 D (.lst (acc ++ [y]))) else Nx H3) := by
  refine lc_it w (fun i H => i ≤ n ∧ Fm Z H1 H ∧ I H ∧ ∃ xs, H D = some (.lst xs) ∧ xs.length = i ∧ ∀ j y, xs[j]? = some y → R j y H) ?_ (fun i H _ p => hG H p.2.1) ?_ ?_
  · exact ⟨Nat.zero_le _, Fm.new hD, iS _ _ i0 zD, [], upd_same, rfl, fun j y e => by simp at e⟩
  · rintro i x H H' hi ⟨_, f, iH, xs, hx, hl, hr⟩ y
    refine hs i x H H' _ hi f iH (fun p m => (ne_of_none hx m).symm) y ?_
    intro y H4 f4 i4 r4
    refine ⟨xs, f4 _ _ hx zD, by omega, by omega, Fm.on (f.trans f4) hD, iS _ _ i4 zD, xs ++ [y], upd_same, by simp [hl], fun j y' e => ?_⟩
    rcases get_snoc e with e | ⟨e1, rfl⟩
    · have hj : j < xs.length := (List.getElem?_eq_some_iff.mp e).1
      exact rS _ _ _ _ (by omega) (rS _ _ _ _ (by omega) (hr j y' e) f4.zu) Fm.at_zu
    · obtain rfl : j = i := by omega
      exact rS _ _ _ _ hi r4 Fm.at_zu
  · rintro H ⟨_, f, iH, xs, hx, hl, hr⟩
    exact hd H xs f iH hx hl hr
end
section
variable {J : It} {n : Nat} {G : Hp → Prop} {Y : Nat → Hp → V → Hp → Prop}
/-- .. whose elements are data -/
theorem lc_dat (w : Walk J n G Y) {g : TG} {te : TE} {vs : List Nat} {σ : St} {H1 : Hp} {D : Addr} {Qd : Hp → Prop} (Z : Addr → Prop) (I : Hp → Prop) (ds : List PyData) (hn : ds.length = n)
    (hD : H1 D = none) (zD : ¬ Z D) (i0 : I H1) (iS : ∀ H l, I H → ¬ Z D → I (upd H D (.lst l))) (few : n < sizeLine)
    (hG : ∀ H, Fm Z H1 H → G H)
    (hs : ∀ i x d H H' (Qk : V → Hp → Prop), ds[i]? = some d → Fm Z H1 H → I H → (∀ p, H p = none → p ≠ D) → Y i H x H' → (∀ y H4, Fm Z H H4 → I H4 → Dt (Zu Z D) H4 y d → Qk y H4) → g x (wipe σ vs) H' fun σ2 H2 => wipe σ2 vs = wipe σ vs ∧ te σ2 H2 Qk)
    (hd : ∀ H xs, Fm Z H1 H → I H → H D = some (.lst xs) → DtAll (Zu Z D) H xs ds → Qd H) :
    ∃ W : Nat → Nat → Hp → Prop, (∃ m, W 0 m (upd H1 D (.lst []))) ∧ ∀ i m H, W i m H →
      (J.stop i H ∧ Qd H) ∨ (J.go i H ∧ ∃ Nx : Hp → Prop, (∀ H', Nx H' → ∃ m', m' < m ∧ W (i + 1) m' H') ∧ ∀ x H', J.yld i H x H' → g x (wipe σ vs) H' fun σ2 H2 => wipe σ2 vs = wipe σ vs ∧ tYes σ2 H2 fun b H3 =>
        if b = true then te σ2 H3 fun y H4 => ∃ acc, H4 D = some (.lst acc) ∧ acc.length < sizeLine ∧ Nx (upd H4 D (.lst (acc ++ [y]))) else Nx H3) := by
  refine lc_acc w Z I (fun i y H => ∀ d, ds[i]? = some d → Dt (Zu Z D) H y d) hD zD i0 iS (fun i y H H' _ r f d e => (r d e).fr f) few hG ?_ ?_
  · intro i x H H' Qk hi f iH ne y q
    have hi2 : i < ds.length := by omega
    refine hs i x ds[i] H H' Qk (List.getElem?_eq_getElem hi2) f iH ne y fun y H4 f4 i4 r4 => q y H4 f4 i4 fun d e => ?_
    rw [List.getElem?_eq_getElem hi2] at e
    cases e
    exact r4
  · intro H xs f iH hx hl hr
    exact hd H xs f iH hx (DtAll.of_get (by omega) fun i v d e1 e2 => hr i v e1 d e2)
/-- .. whose elements are values that do not depend on the heap -/
theorem lc_vals (w : Walk J n G Y) {g : TG} {te : TE} {vs : List Nat} {σ : St} {H1 : Hp} {D : Addr} {Qd : Hp → Prop} (Z : Addr → Prop) (I : Hp → Prop) (ks : List V) (hn : ks.length = n)
    (hD : H1 D = none) (zD : ¬ Z D) (i0 : I H1) (iS : ∀ H l, I H → ¬ Z D → I (upd H D (.lst l))) (few : n < sizeLine)
    (hG : ∀ H, Fm Z H1 H → G H)
    (hs : ∀ i x k H H' (Qk : V → Hp → Prop), ks[i]? = some k → Fm Z H1 H → I H → (∀ p, H p = none → p ≠ D) → Y i H x H' → (∀ H4, Fm Z H H4 → I H4 → Qk k H4) → g x (wipe σ vs) H' fun σ2 H2 => wipe σ2 vs = wipe σ vs ∧ te σ2 H2 Qk)
    (hd : ∀ H, Fm Z H1 H → I H → H D = some (.lst ks) → Qd H) :
    ∃ W : Nat → Nat → Hp → Prop, (∃ m, W 0 m (upd H1 D (.lst []))) ∧ ∀ i m H, W i m H →
      (J.stop i H ∧ Qd H) ∨ (J.go i H ∧ ∃ Nx : Hp → Prop, (∀ H', Nx H' → ∃ m', m' < m ∧ W (i + 1) m' H') ∧ ∀ x H', J.yld i H x H' → g x (wipe σ vs) H' fun σ2 H2 => wipe σ2 vs = wipe σ vs ∧ tYes σ2 H2 fun b H3 =>
        if b = true then te σ2 H3 fun y H4 => ∃ acc, H4 D = some (.lst acc) ∧ acc.length < sizeLine ∧ Nx (upd H4 D (.lst (acc ++ [y]))) else Nx H3) := by
  refine lc_acc w Z I (fun i y H => ks[i]? = some y) hD zD i0 iS (fun i y H H' _ r f => r) few hG ?_ ?_
  · intro i x H H' Qk hi f iH ne y q
    have hi2 : i < ks.length := by omega
    refine hs i x ks[i] H H' Qk (List.getElem?_eq_getElem hi2) f iH ne y fun H4 f4 i4 => q _ H4 f4 i4 (List.getElem?_eq_getElem hi2)
  · intro H xs f iH hx hl hr
    refine hd H f iH ?_
    rw [hx]
    congr 2
    refine List.ext_getElem? fun i => ?_
    by_cases hi : i < xs.length
    · rw [List.getElem?_eq_getElem hi, hr i xs[i] (List.getElem?_eq_getElem hi)]
    · rw [List.getElem?_eq_none (by omega), List.getElem?_eq_none (by omega)]
end
/-! ### what the written part says of one own exception class -/
structure Cl (K : PySem.W.Frag) (C fI : Addr) (tl : List Value) (newId : String) (fs : List Str) : Prop where
  T : XCls K C fI tl newId
  look : XLook K C
  no : ∀ f ∈ fs, PySem.W.findIn K (.ref C) f = some none
  mro : (PySem.W.clsIn K C).map (·.mro) = some (.ref C :: tl)
  ty : PySem.W.typeIn K (.ref C) = some (.type "type")
theorem cl_of {K : PySem.W.Frag} {C fI : Addr} {tl : List Value} {newId : String} {fs : List Str} (g1 : PySem.W.specialIn K (.builtin "object.__class__") "__get__" = some (some (.builtin "getset_descriptor.__get__"))) (g2 : PySem.W.takesIn K (.builtin "object.__class__") = some true)
    (b : PySem.W.findIn K (.ref C) "__init__" = some (some (.ref fI)))
    (t : (PySem.W.excInitIn K C tl newId, PySem.W.excOver K C tl, PySem.W.hasDictIn K C, PySem.W.isFn K (.ref fI), PySem.W.keepIn K (.ref C)) = (true, true, true, true, true))
    (u : (PySem.W.findIn K (.ref C) "__setattr__", PySem.W.findIn K (.ref C) "__getattribute__", PySem.W.findIn K (.ref C) "__getattr__", PySem.W.findIn K (.ref C) "__class__") =
      (some (some (.builtin "object.__setattr__")), some (some (.builtin "BaseException.__getattribute__")), some none, some (some (.builtin "object.__class__"))))
    (v : (PySem.W.subIn K (.ref C) (.type "BaseException"), PySem.W.mroIn K C (.type "object"), (PySem.W.clsIn K C).map (·.mro), PySem.W.typeIn K (.ref C)) = (some true, some true, some (.ref C :: tl), some (.type "type")))
    (f : fs.map (fun f => PySem.W.findIn K (.ref C) f) = fs.map fun _ => some none) : Cl K C fI tl newId fs := by
  simp only [Prod.mk.injEq] at t u v
  obtain ⟨t1, t2, t3, t4, t5⟩ := t
  obtain ⟨u1, u2, u3, u4⟩ := u
  obtain ⟨v1, v2, v3, v4⟩ := v
  exact ⟨⟨t1, t2, t3, u1, b, t4, t5⟩, ⟨⟨u2, u3, v1, t3⟩, ⟨u2, u3, v1, t3, u4, g1, g2, v2⟩⟩, List.map_inj_left.mp f, v3, v4⟩
/-! ### the types of data; isinstance; integers -/
section
def tyD : PyData → String
  | .none => "NoneType"
  | .bool _ => "bool"
  | .int _ => "int"
  | .str _ => "str"
  | .list _ => "list"
  | .tuple _ => "tuple"
  | _ => "?"
def isInt : PyData → Bool
  | .int _ => true
  | _ => false
def isSeq : PyData → Bool
  | .list _ => true
  | .tuple _ => true
  | _ => false
def itemsD : PyData → List PyData
  | .list ds => ds
  | .tuple ds => ds
  | _ => []
variable {Z : Addr → Prop} {H H' : Hp} {K : PySem.W.Frag}
theorem Dt.ty {v : V} {d : PyData} (h : Dt Z H v d) : TyX K H v (.type (tyD d)) := by
  cases h with
  | non => exact .base .non
  | bl b => exact .base (.bl b)
  | int i => exact .base (.int i)
  | str x => exact .base (.str x)
  | lst e n t => exact .base (.lst e)
  | tup e n t => exact .base (.tup e)
theorem Dt.kInt {v : V} {d : PyData} (h : Dt Z H v d) : PySem.W.kitOne K (.type (tyD d)) (.type "int") = some (isInt d || (tyD d == "bool")) := by
  cases h with
  | non => exact kit_ty (show kitB "NoneType" "int" = some false by decide +kernel)
  | bl b => exact kit_ty (show kitB "bool" "int" = some true by decide +kernel)
  | int i => exact kit_ty (show kitB "int" "int" = some true by decide +kernel)
  | str x => exact kit_ty (show kitB "str" "int" = some false by decide +kernel)
  | lst e n t => exact kit_ty (show kitB "list" "int" = some false by decide +kernel)
  | tup e n t => exact kit_ty (show kitB "tuple" "int" = some false by decide +kernel)
theorem Dt.kBool {v : V} {d : PyData} (h : Dt Z H v d) : PySem.W.kitOne K (.type (tyD d)) (.type "bool") = some (tyD d == "bool") := by
  cases h with
  | non => exact kit_ty (show kitB "NoneType" "bool" = some false by decide +kernel)
  | bl b => exact kit_ty (show kitB "bool" "bool" = some true by decide +kernel)
  | int i => exact kit_ty (show kitB "int" "bool" = some false by decide +kernel)
  | str x => exact kit_ty (show kitB "str" "bool" = some false by decide +kernel)
  | lst e n t => exact kit_ty (show kitB "list" "bool" = some false by decide +kernel)
  | tup e n t => exact kit_ty (show kitB "tuple" "bool" = some false by decide +kernel)
theorem Dt.kStr {v : V} {d : PyData} (h : Dt Z H v d) : PySem.W.kitOne K (.type (tyD d)) (.type "str") = some (tyD d == "str") := by
  cases h with
  | non => exact kit_ty (show kitB "NoneType" "str" = some false by decide +kernel)
  | bl b => exact kit_ty (show kitB "bool" "str" = some false by decide +kernel)
  | int i => exact kit_ty (show kitB "int" "str" = some false by decide +kernel)
  | str x => exact kit_ty (show kitB "str" "str" = some true by decide +kernel)
  | lst e n t => exact kit_ty (show kitB "list" "str" = some false by decide +kernel)
  | tup e n t => exact kit_ty (show kitB "tuple" "str" = some false by decide +kernel)
theorem Dt.kList {v : V} {d : PyData} (h : Dt Z H v d) : PySem.W.kitOne K (.type (tyD d)) (.type "list") = some (tyD d == "list") := by
  cases h with
  | non => exact kit_ty (show kitB "NoneType" "list" = some false by decide +kernel)
  | bl b => exact kit_ty (show kitB "bool" "list" = some false by decide +kernel)
  | int i => exact kit_ty (show kitB "int" "list" = some false by decide +kernel)
  | str x => exact kit_ty (show kitB "str" "list" = some false by decide +kernel)
  | lst e n t => exact kit_ty (show kitB "list" "list" = some true by decide +kernel)
  | tup e n t => exact kit_ty (show kitB "tuple" "list" = some false by decide +kernel)
theorem Dt.kTup {v : V} {d : PyData} (h : Dt Z H v d) : PySem.W.kitOne K (.type (tyD d)) (.type "tuple") = some (tyD d == "tuple") := by
  cases h with
  | non => exact kit_ty (show kitB "NoneType" "tuple" = some false by decide +kernel)
  | bl b => exact kit_ty (show kitB "bool" "tuple" = some false by decide +kernel)
  | int i => exact kit_ty (show kitB "int" "tuple" = some false by decide +kernel)
  | str x => exact kit_ty (show kitB "str" "tuple" = some false by decide +kernel)
  | lst e n t => exact kit_ty (show kitB "list" "tuple" = some false by decide +kernel)
  | tup e n t => exact kit_ty (show kitB "tuple" "tuple" = some true by decide +kernel)
theorem Dt.kSeq {v : V} {d : PyData} (h : Dt Z H v d) : PySem.W.kitAny K (.type (tyD d)) [.type "list", .type "tuple"] = some (isSeq d) := by
  refine kitAny_cons h.kList (fun e => kitAny_cons (h.fr Fm.refl).kTup (fun e2 => ?_) fun e2 => ?_) fun e => ?_
  · cases h <;> first | rfl | (simp [tyD] at e2; done) | (simp [tyD, isInt] at e; done)
  · cases h <;> first | rfl | (simp [tyD] at e2; done)
  · cases h <;> first | rfl | (simp [tyD, isInt] at e; done)
theorem pairedLT : Paired ClsV [.ty "list", .ty "tuple"] [.type "list", .type "tuple"] := .cons (.ty _) (.cons (.ty _) .nil)
theorem Dt.seq {v : V} {d : PyData} (h : Dt Z H v d) (s : isSeq d = true) : ∃ a xs, v = .ref a ∧ DtAll Z H xs (itemsD d) ∧ (H a = some (.lst xs) ∨ H a = some (.tup xs)) ∧ ¬ Z a := by
  cases h with
  | lst e n t => exact ⟨_, _, rfl, t, .inl e, n⟩
  | tup e n t => exact ⟨_, _, rfl, t, .inr e, n⟩
  | non => cases s
  | bl b => cases s
  | int i => cases s
  | str x => cases s
end
section
variable {X : Cx} {tg : Expr}
/-- what is walked is a tracked list or a tuple -/
def iSeq (tl : TE) : TI := fun σ H R => tl σ H fun x H1 => ∃ (a : Addr) (xs : List V) (o : HO), x = .ref a ∧ (o = .lst xs ∨ o = .tup xs) ∧ H1 a = some o ∧ ∀ J, Walk J xs.length (fun H => H a = some o) (YAt xs) → R J H1
theorem pi_seq {l : Expr} {tl : TE} (hl : PE X l tl) : PI X tg l (iSeq tl) := by
  refine ⟨fun pins s σ H R I h => ?_⟩
  refine thn (hl.run pins s σ H _ I h) fun v s1 ⟨x, H1, I1, r1, q1⟩ => ?_
  obtain ⟨a, xs, o, e, ho, ha, q⟩ := q1
  subst e
  cases r1
  rcases ho with rfl | rfl
  · obtain ⟨its, rv, p, hz⟩ := I1.list (SqL.of (K := X.K) ha)
    refine wpAny_pyIter_list p.isList ?_
    refine ⟨s1.heap.objs.size, [s1.heap.objs.size], _, _, H1, rfl, I1.kept (t' := s1.toks) fun b o e => Heap.get?_push_of_some _ e, turn_list a _, ⟨_, Heap.get?_push_size _ rfl, rfl, rfl⟩, fun b hb => ?_, q _ (walk_list.mono (fun H h => SqL.of h) fun _ _ _ _ _ _ y => y)⟩
    have e : b = s1.heap.objs.size := by simpa using hb
    subst e
    exact I1.fpOk (Nat.le_refl _) (I1.hok.fresh (Nat.le_refl _))
  · obtain ⟨its, rv, p, hz⟩ := I1.tuple (SqT.of (K := X.K) ha)
    refine wpAny_pyIter_tuple (show s1.heap.IsTuple a its.toArray from p) ?_
    refine ⟨s1.heap.objs.size, [s1.heap.objs.size], _, _, H1, rfl, I1.kept (t' := s1.toks) fun b o e => Heap.get?_push_of_some _ e, turn_tuple a _, ⟨_, Heap.get?_push_size _ rfl, rfl, rfl⟩, fun b hb => ?_, q _ (walk_tup.mono (fun H h => SqT.of h) fun _ _ _ _ _ _ y => y)⟩
    have e : b = s1.heap.objs.size := by simpa using hb
    subst e
    exact I1.fpOk (Nat.le_refl _) (I1.hok.fresh (Nat.le_refl _))
end
/-! ### the rules over tracked lists and tuples: nothing of the written part is read (serve within comprehensions too) -/
section
/-- a tracked list or tuple -/
def Sq_ (H : Hp) (a : Addr) (xs : List V) : Prop := H a = some (.lst xs) ∨ H a = some (.tup xs)
variable {X : Cx}
def rIxl : R2 := fun x y H Q => ∃ p xs i v, x = .ref p ∧ y = .int i ∧ H p = some (.lst xs) ∧ atI xs i = some v ∧ Q v H
theorem ixl : IxR X rIxl := fun a b c d e f g h i j k l m r ⟨p, xs, n, z, e1, e2, q1, q2, q3⟩ hs => ix_list a b c d e f g h i j k l m r ⟨p, xs, n, z, e1, e2, SqL.of q1, q2, q3⟩ hs
def rIxt : R2 := fun x y H Q => ∃ p xs i v, x = .ref p ∧ y = .int i ∧ H p = some (.tup xs) ∧ atI xs i = some v ∧ Q v H
theorem ixt : IxR X rIxt := fun a b c d e f g h i j k l m r ⟨p, xs, n, z, e1, e2, q1, q2, q3⟩ hs => ix_tup a b c d e f g h i j k l m r ⟨p, xs, n, z, e1, e2, SqT.of q1, q2, q3⟩ hs
def rSll : V → Option Int → Option Int → Hp → VK → Prop := fun x lo hi H Q => ∃ a xs, x = .ref a ∧ H a = some (.lst xs) ∧ ∀ p, H p = none → Q (.ref p) (upd H p (.lst (cutV xs lo hi)))
theorem sll : SlR X rSll := fun a b c d e f g h i j k l m n o p q ⟨a1, xs, e1, h1, q1⟩ => sl_list a b c d e f g h i j k l m n o p q ⟨a1, xs, e1, SqL.of h1, q1⟩
def rSlt : V → Option Int → Option Int → Hp → VK → Prop := fun x lo hi H Q => ∃ a xs, x = .ref a ∧ H a = some (.tup xs) ∧
  ¬ (HT.sIx xs.length 0 lo = 0 ∧ HT.sIx xs.length xs.length hi = xs.length) ∧ ∀ p, H p = none → Q (.ref p) (upd H p (.tup (cutV xs lo hi)))
theorem slt : SlR X rSlt := fun a b c d e f g h i j k l m n o p q ⟨a1, xs, e1, h1, h2, q1⟩ => sl_tup a b c d e f g h i j k l m n o p q ⟨a1, xs, e1, SqT.of h1, h2, q1⟩
theorem lenT : CallR X (.builtin "len") (fun xs H Q => ∃ p ys, xs = [.ref p] ∧ Sq_ H p ys ∧ Q (.int ys.length) H) := fun a b c d e f g h i ⟨p, ys, e1, h1, q⟩ => call_len_seq a b c d e f g h i ⟨p, ys, e1, h1.imp SqL.of SqT.of, q⟩
theorem listT : CallR X (.type "list") (fun xs H Q => ∃ p ys, xs = [.ref p] ∧ Sq_ H p ys ∧ ∀ l, H l = none → Q (.ref l) (upd H l (.lst ys))) := fun a b c d e f g h i ⟨p, ys, e1, h1, q⟩ => call_list_of a b c d e f g h i ⟨p, ys, e1, h1.imp SqL.of SqT.of, q⟩
theorem tupT : CallR X (.type "tuple") (fun xs H Q => ∃ p ys, xs = [.ref p] ∧ ((H p = some (.lst ys) ∧ ∀ l, H l = none → Q (.ref l) (upd H l (.tup ys))) ∨ (H p = some (.tup ys) ∧ Q (.ref p) H))) :=
  fun a b c d e f g h i ⟨p, ys, e1, h1⟩ => call_tuple_of a b c d e f g h i ⟨p, ys, e1, h1.imp (fun z => ⟨SqL.of z.1, z.2⟩) fun z => ⟨SqT.of z.1, z.2⟩⟩
theorem eqD (hu : X.A.units + 64 < cLine) : OpR X (compareOp .Eq) (fun x y H Q => ∃ d e Z Z', Dt Z H x d ∧ Dt Z' H y e ∧ SeqAt.shaped d = true ∧ SeqAt.shaped e = true ∧ Q (.bl (PyData.eqv d e)) H) :=
  fun a b c d e f g h i j k l ⟨d1, e1, Z, Z', h1, h2, h3, h4, q⟩ => op_eqD hu a b c d e f g h i j k l ⟨d1, e1, h1.dp, h2.dp, h3, h4, q⟩
theorem neD (hu : X.A.units + 64 < cLine) : OpR X (compareOp .NotEq) (fun x y H Q => ∃ d e Z Z', Dt Z H x d ∧ Dt Z' H y e ∧ SeqAt.shaped d = true ∧ SeqAt.shaped e = true ∧ Q (.bl (!PyData.eqv d e)) H) :=
  fun a b c d e f g h i j k l ⟨d1, e1, Z, Z', h1, h2, h3, h4, q⟩ => op_neD hu a b c d e f g h i j k l ⟨d1, e1, h1.dp, h2.dp, h3, h4, q⟩
theorem inT : OpR X (compareOp .In) (fun x y H Q => ∃ p xs, y = .ref p ∧ Sq_ H p xs ∧ flatV x = true ∧ xs.all flatV = true ∧ Q (.bl (inV x xs)) H) :=
  fun a b c d e f g h i j k l ⟨p, xs, e1, h1, h2, h3, q⟩ => op_in_seq a b c d e f g h i j k l ⟨p, xs, e1, h1.imp SqL.of SqT.of, h2, h3, q⟩
theorem allT (hc : X.calm = true) : CallR X (.builtin "all") (fun vs H Q => ∃ (a : Addr) (bs : List Bool), vs = [V.ref a] ∧ H a = some (.lst (bs.map V.bl)) ∧ Q (.bl (bs.all id)) H) :=
  fun a b c d e f g h i ⟨p, bs, e1, h1, q⟩ => cr_all hc a b c d e f g h i ⟨p, bs, e1, SqL.of h1, q⟩
theorem sumT (hc : X.calm = true) : CallR X (.builtin "sum") (fun vs H Q => ∃ (a : Addr) (ns : List Int), vs = [V.ref a] ∧ H a = some (.lst (ns.map V.int)) ∧ Q (.int ns.sum) H) :=
  fun a b c d e f g h i ⟨p, ns, e1, h1, q⟩ => cr_sum hc a b c d e f g h i ⟨p, ns, e1, SqL.of h1, q⟩
def gTupT (n : Nat) (t : TGs) : TG := fun v σ H Q => ∃ a xs, v = .ref a ∧ H a = some (.tup xs) ∧ xs.length = n ∧ t xs σ H Q
theorem pgT {pos : Pos} {es : List Expr} {k : Nat} {t : TGs} {n : Nat} (hc : X.calm = true) (h : PGs X es t)
    (hn : (assignEach es X.env).length = n := by rfl) (hst : (assignEach es X.env).findIdx? (·.1) = none := by rfl) : PG X (.Tuple es k pos) (gTupT n t) :=
  ⟨fun a b c d e f g h1 h2 ⟨p, xs, e1, e2, e3, e4⟩ => (pg_tup hc h hn hst).run a b c d e f g h1 h2 ⟨p, xs, e1, SqT.of e2, e3, e4⟩⟩
def iZipT (ta : TA) : TI := fun σ H R => ta σ H fun vs H1 => ∃ (a b : Addr) (xs ys : List V), vs = [.ref a, .ref b] ∧ H1 a = some (.lst xs) ∧ H1 b = some (.lst ys) ∧
  ∀ J, Walk J (min xs.length ys.length) (fun H => H a = some (.lst xs) ∧ H b = some (.lst ys)) (YPair (fun i => xs[i]?) (fun i => ys[i]?)) → R J H1
theorem pa_up {es : List Expr} {t : TA} (h : PA X es t) : PA X es (fun σ H Q => ∃ Q', t σ H Q' ∧ ∀ vs H1, Q' vs H1 → Q vs H1) :=
  ⟨fun pos pins s σ H Q I ⟨Q', w, k⟩ => thn (h.run pos pins s σ H Q' I w) fun us s1 ⟨vs, H1, I1, r, q⟩ => ⟨vs, H1, I1, r, k _ _ q⟩⟩
theorem pi_zipT {e e2 : Expr} {ta : TA} {p pos tpos : Pos} {elts : List Expr} {kk : Nat} (hg : Gl X "zip") (hm : X.mg "zip" = none) (ha : PA X [e, e2] ta)
    (hs : starEach [e, e2] X.env = (false, eval e X.env) :: starEach [e2] X.env := by rfl) (hpl : (backTo pos (starEach [e2] X.env)).any (·.1) = false := by rfl) :
    PI X (.Tuple elts kk tpos) (.Call (.Name "zip" p) [e, e2] [] pos) (iZipT ta) :=
  ⟨fun pins s σ H R I h => (pi_zip hg hm (pa_up ha) hs hpl).run pins s σ H R I ⟨_, h, fun vs H1 ⟨a, b, xs, ys, e1, h1, h2, k⟩ => ⟨a, b, xs, ys, e1, SqL.of h1, SqL.of h2, k _ ((walk_zip rfl).mono (fun H z => ⟨SqL.of z.1, SqL.of z.2⟩) fun _ _ _ _ _ _ y => y)⟩⟩⟩
end
/-! slices of lists -/
theorem cut_to {xs : List V} (i : Nat) : cutV xs none (some (i : Int)) = xs.take i := by
  unfold cutV
  rw [HT.sIx_nat, HT.sIx_none, List.drop_zero, Nat.sub_zero]
  by_cases h : i ≤ xs.length
  · rw [Nat.min_eq_left h]
  · rw [Nat.min_eq_right (by omega), List.take_of_length_le (Nat.le_refl _), List.take_of_length_le (by omega)]
/-! what may be compared -/
def Shp (n : Nat) (d : PyData) : Prop := d.canLay0 = true ∧ d.depth ≤ n
theorem Shp.ok {n : Nat} {d : PyData} (h : Shp n d) (z : n ≤ 64 := by decide) : SeqAt.shaped d = true := by
  show (d.canLay0 && decide (d.depth ≤ 64)) = true
  rw [h.1, Bool.true_and]
  exact decide_eq_true (Nat.le_trans h.2 z)
theorem shp_all {n : Nat} : ∀ {ds : List PyData}, (∀ d ∈ ds, Shp n d) → PyData.canLayAll0 ds = true ∧ PyData.depthAll ds ≤ n
  | [], _ => ⟨by simp [PyData.canLayAll0], by simp [PyData.depthAll]⟩
  | d :: ds, h => by
    obtain ⟨a1, a2⟩ := h d List.mem_cons_self
    obtain ⟨b1, b2⟩ := shp_all (ds := ds) fun x hx => h x (List.mem_cons_of_mem _ hx)
    exact ⟨by simp [PyData.canLayAll0, a1, b1], by simp only [PyData.depthAll]; omega⟩
theorem shp_list {n : Nat} {ds : List PyData} (h : ∀ d ∈ ds, Shp n d) : Shp (n + 1) (.list ds) := by
  obtain ⟨a, b⟩ := shp_all h
  exact ⟨by simp [PyData.canLay0, a], by simp only [PyData.depth]; omega⟩
theorem shp_tup {n : Nat} {ds : List PyData} (h : ∀ d ∈ ds, Shp n d) : Shp (n + 1) (.tuple ds) := by
  obtain ⟨a, b⟩ := shp_all h
  exact ⟨by simp [PyData.canLay0, a], by simp only [PyData.depth]; omega⟩
theorem shp_int {i : Int} : Shp 0 (.int i) := ⟨by simp [PyData.canLay0], by simp [PyData.depth]⟩
theorem shp_none : Shp 0 .none := ⟨by simp [PyData.canLay0], by simp [PyData.depth]⟩
theorem Shp.mono {n m : Nat} {d : PyData} (h : Shp n d) (z : n ≤ m) : Shp m d := ⟨h.1, Nat.le_trans h.2 z⟩
/-! elements told one by one -/
theorem DtAll.set {Z : Addr → Prop} {H : Hp} {vs : List V} {ds : List PyData} (h : DtAll Z H vs ds) {v : V} {d : PyData} (g : Dt Z H v d) {i : Nat} : DtAll Z H (vs.set i v) (ds.set i d) := by
  induction vs generalizing ds i with
  | nil => cases h; exact .nil
  | cons u vs ih =>
    cases h with
    | cons a b =>
      cases i with
      | zero => exact .cons g b
      | succ i => exact .cons a (ih b)
theorem up {H : Hp} {a p : Addr} {o x : HO} (h : H a = some x) (n : H p = none) : (upd H p o) a = some x := Same.new n _ _ h
theorem Dt.up {Z : Addr → Prop} {H : Hp} {p : Addr} {o : HO} {v : V} {d : PyData} (h : Dt Z H v d) (n : H p = none) : Dt Z (upd H p o) v d := h.fr (Fm.new n)
theorem Fm.up {Z : Addr → Prop} {H H1 : Hp} {p : Addr} {o : HO} (f : Fm Z H H1) (n : H1 p = none) : Fm Z H (upd H1 p o) := f.trans (Fm.new n)
theorem PoolAt.fr {H H' : Hp} {p : Addr} (h : PoolAt H p) (e : Fm Z0 H H') : PoolAt H' p := h.same e.same
/-! ### what the top has written, bundle by bundle -/
/-- the class x stands at C, its __init__ is st -/
def CIn (K : PySem.W.Frag) (x q : Str) (st : Stmt) (C : Addr) (tl : List Value) (nw : String) (fs : List Str) : Prop :=
  ∃ fI fd, PySem.W.nsIn K mainGlobals x = some (some (.ref C)) ∧ Fun K "__init__" q st fI fd ∧ Cl K C fI tl nw fs
theorem cin_mk {K : PySem.W.Frag} {x q : Str} {st : Stmt} {C fI : Addr} {tl : List Value} {nw : String} {fs : List Str} {oc : Value} {od an : Option Addr} {osl : Array (Option Value)} {kV doc pm cdv ct : Value}
    (a : PySem.W.nsIn K mainGlobals x = some (some (.ref C))) (b : PySem.W.findIn K (.ref C) "__init__" = some (some (.ref fI)))
    (l : K.lookup fI = some ⟨oc, od, .func (PySem.W.fnOf "__init__" q (defArgs st) (defBody st) (defScope st) .none kV doc pm an cdv ct), osl⟩) (c : PySem.W.codeIn K cdv q = true) (k : PySem.W.keepIn K (.ref fI) = true)
    (g1 : PySem.W.specialIn K (.builtin "object.__class__") "__get__" = some (some (.builtin "getset_descriptor.__get__"))) (g2 : PySem.W.takesIn K (.builtin "object.__class__") = some true)
    (t : (PySem.W.excInitIn K C tl nw, PySem.W.excOver K C tl, PySem.W.hasDictIn K C, PySem.W.isFn K (.ref fI), PySem.W.keepIn K (.ref C)) = (true, true, true, true, true))
    (u : (PySem.W.findIn K (.ref C) "__setattr__", PySem.W.findIn K (.ref C) "__getattribute__", PySem.W.findIn K (.ref C) "__getattr__", PySem.W.findIn K (.ref C) "__class__") =
      (some (some (.builtin "object.__setattr__")), some (some (.builtin "BaseException.__getattribute__")), some none, some (some (.builtin "object.__class__"))))
    (v : (PySem.W.subIn K (.ref C) (.type "BaseException"), PySem.W.mroIn K C (.type "object"), (PySem.W.clsIn K C).map (·.mro), PySem.W.typeIn K (.ref C)) = (some true, some true, some (.ref C :: tl), some (.type "type")))
    (f : fs.map (fun f => PySem.W.findIn K (.ref C) f) = fs.map fun _ => some none) : CIn K x q st C tl nw fs := ⟨fI, _, a, fun_mk l c k, cl_of g1 g2 b t u v f⟩
theorem has_mk {K : PySem.W.Frag} {h : Heap} {mg : Str → Option Value} {x : Str} {st : Stmt} {ps : List Str} {f : Addr} {oc : Value} {od an : Option Addr} {osl : Array (Option Value)} {kV doc pm cdv ct : Value} (X : K.In h) (G : h.Ns mainGlobals mg)
    (b : ∀ (kV doc pm : Value) (an : Option Addr) (cdv ct : Value) (us : List Value), us.length = ps.length → bindArgs (PySem.W.fnOf x x (defArgs st) (defBody st) (defScope st) .none kV doc pm an cdv ct) ⟨us, []⟩ = pure (ps.zip us))
    (a : PySem.W.nsIn K mainGlobals x = some (some (.ref f))) (l : K.lookup f = some ⟨oc, od, .func (PySem.W.fnOf x x (defArgs st) (defBody st) (defScope st) .none kV doc pm an cdv ct), osl⟩) (c : PySem.W.codeIn K cdv x = true) (k : PySem.W.keepIn K (.ref f) = true) : Has K mg x st ps :=
  ⟨f, _, PySem.W.mg_of X G a, (fun_mk (st := st) l c k).binds (ps := ps) b, fun_mk (st := st) l c k⟩
theorem over_mk {K : PySem.W.Frag} {C f : Addr} {nm q : Str} {st : Stmt} {ps : List Str} {oc : Value} {od an : Option Addr} {osl : Array (Option Value)} {kV doc pm cdv ct : Value}
    (b : ∀ (kV doc pm : Value) (an : Option Addr) (cdv ct : Value) (us : List Value), us.length = ps.length → bindArgs (PySem.W.fnOf nm q (defArgs st) (defBody st) (defScope st) .none kV doc pm an cdv ct) ⟨us, []⟩ = pure (ps.zip us))
    (a : PySem.W.findIn K (.ref C) nm = some (some (.ref f))) (l : K.lookup f = some ⟨oc, od, .func (PySem.W.fnOf nm q (defArgs st) (defBody st) (defScope st) .none kV doc pm an cdv ct), osl⟩) (c : PySem.W.codeIn K cdv q = true) (k : PySem.W.keepIn K (.ref f) = true) (i : PySem.W.isFn K (.ref f) = true) :
    ∃ f fd, Meth K C nm f ∧ Fun K nm q st f fd ∧ Binds K fd ps [] :=
  ⟨f, _, ⟨a, i, k⟩, fun_mk (st := st) l c k, (fun_mk (st := st) l c k).binds (ps := ps) b⟩
/-! ### own operators: x op y by a method of the class of x (or of y) -/
/-! ### an int to the left, an own instance to the right -/
/-! ### != by the text's own ==: object.__ne__ asks it and turns the answer round -/
section
variable {X : Cx} {CX : CXT} {k : Nat} {f C : Addr} {fd : FuncData} {ps : List Str} {sp : Sp} {E : XK}
/-- a promise kept one builtin further in -/
theorem run_in1 {pins : List (Addr × Obj)} {σ : St} {H : Hp} {s : Shared} {Q : VK} {us : List Value} {vs : List V} (F : FnOk X.prog X.w X.K X.mg X.base CX k f fd ps sp) (hr : Room (k + 1) X.A) (hb : Binds X.K fd ps []) (hx : Passes CX X E)
    (I : Inv X pins σ H s) (r : Vals vs us) (h : sp vs H Q E) : wpAny (model X.prog X.w) X.A.in1 (call (.ref f) us) (EP X pins σ Q) X.xe s := by
  have hl : (us ++ []).length = ps.length := by
    rw [List.append_nil, ← F.len _ _ _ _ h]
    exact r.length.symm
  refine wpAny_call (codeAny_mono (F.run X.A.in1 X.stack s H ⟨us, []⟩ us vs Q E hr.in1 I.env0.in1 (by simpa using hb s us I.kIn hl) r h) fun r s' hq => ?_)
  cases r with
  | error er => exact hx pins σ H s er s' I hq
  | ok fl =>
    cases fl with
    | ret u => exact I.after hq
    | next => exact False.elim hq
    | brk => exact False.elim hq
    | cont => exact False.elim hq
/-! ### a tuple or a list to the right -/
end
section
variable {X : Cx} {CX : CXT} {k : Nat} {f C : Addr} {fd : FuncData} {ps : List Str} {sp : Sp} {E : XK} {a b : Expr} {ta tb : TE} {pos : Pos}
/-- a[b], a an instance of an own class with __getitem__ -/
def rIxOwn (C : Addr) (sp : Sp) (E : XK) : R2 := fun x y H Q => ∃ a dx fs, x = .ref a ∧ H a = some (.ins C dx fs) ∧ sp [.ref a, y] H Q E
theorem pe_ixOwn (ha : PE X a ta) (hb : PE X b tb) (F : FnOk X.prog X.w X.K X.mg X.base CX k f fd ps sp) (hr : Room (k + 1) X.A) (hbi : Binds X.K fd ps []) (hx : Passes CX X E)
    (hs : PySem.W.findIn X.K (.ref C) "__getitem__" = some (some (.ref f))) (hf : PySem.W.fnIn X.K f = true) (hfn : PySem.W.isFn X.K (.ref f) = true)
    (hsl : ∀ v u : Value, subscripted b true v u = runValue (.builtin "lifetime.subscript" ⟨[v, u], []⟩) := by intro _ _; with_unfolding_all rfl) : PE X (.Subscript a b pos) (tOp (rIxOwn C sp E) ta tb) := by
  refine ⟨fun pins s σ H Q I h => ?_⟩
  refine PyProof.Rows.Subscript_ (binT ha hb I h fun v u s2 x y H2 I2 rx ry q => ?_)
  obtain ⟨z, dx, fs, rfl, hz, hq⟩ := q
  cases rx
  obtain ⟨mA, J, _⟩ := ins_get I2.hok hz
  obtain ⟨od, J, _⟩ := J.look
  obtain ⟨m, hF⟩ := I2.fr
  exact PySem.W.sub_K hF I2.ok.mod.kin J hs hf hfn (run_in1 (vs := [.ref z, y]) F hr hbi hx I2 (.cons rfl (.cons ry .nil)) hq) (hsl _ _)
end
/-! ### own classes: a method, a property, a class of errors as the top leaves them (gathered from k12) -/
section
variable {P : Program} {w : World} {K : PySem.W.Frag} {mg : Str → Option Value} {base : Heap} {C : Addr}
/-- a property of an own class -/
def OwnP (P : Program) (w : World) (K : PySem.W.Frag) (mg : Str → Option Value) (base : Heap) (C : Addr) (k : Nat) (nm : Str) (sp : Sp) : Prop :=
  ∃ p g fd, PropOf K C nm p g ∧ Binds K fd ["self"] [] ∧ FnOk P w K mg base (L2.CX P w) k g fd ["self"] sp
theorem pe_propO {X : Cx} {k : Nat} {sp : Sp} {E : XK} {f : Str} {e : Expr} {pos : Pos} {ta : TE} (he : PE X e ta) (c : Cls X.K C) (m : OwnP X.prog X.w X.K X.mg X.base C k f sp) (hr : Room (k + 1) X.A) (hx : Passes (L2.CX X.prog X.w) X.nox E) (hab : attributeBase e f X.env (eval e X.env) = eval e X.env := by rfl) : PE X (.Attribute e f pos) (tProp C sp [] E ta) := by
  obtain ⟨p, g, fd, hp, hb, F⟩ := m
  exact pe_prop he c hp F hr hb .nil hx hab
/-- a method called by its name -/
def OwnMeth (P : Program) (w : World) (K : PySem.W.Frag) (mg : Str → Option Value) (base : Heap) (C : Addr) (k : Nat) (nm : Str) (ps : List Str) (sp : Sp) : Prop :=
  ∃ f fd, Meth K C nm f ∧ Binds K fd ps [] ∧ FnOk P w K mg base (L2.CX P w) k f fd ps sp
theorem pe_methO {X : Cx} {C : Addr} {k : Nat} {m : Str} {ps : List Str} {sp : Sp} {E : XK} {o e : Expr} {es : List Expr} {apos pos : Pos} {pl : Sem Bool} {ta : TE} {t : TA} (he : PE X o ta) (c : Cls X.K C) (mm : OwnMeth X.prog X.w X.K X.mg X.base C k m ps sp) (hr : Room k X.A) (hx : Passes (L2.CX X.prog X.w) X E) (ha : PA X (e :: es) t)
    (hst : starEach (e :: es) X.env = (false, eval e X.env) :: starEach es X.env := by rfl) (hpl : (backTo pos (starEach es X.env)).any (·.1) = false := by rfl)
    (ht : eval (.Call (.Attribute o m apos) (e :: es) [] pos) X.env = (do
      let ov ← eval o X.env
      standAt apos.atName
      let (f, first) ← holding [ov] (getMethod ov m pl)
      callWith pos f first (backTo pos (starEach (e :: es) X.env)) (backToKw pos (keywordEach [] X.env))) := by rfl) : PE X (.Call (.Attribute o m apos) (e :: es) [] pos) (tMeth C m sp [] E ta t) := by
  obtain ⟨f, fd, hm, hb, F⟩ := mm
  exact pe_meth (pl := pl) he c hm F hr hb .nil hx ha hst hpl ht
/-- a def of the text, its errors told -/
def OkX (P : Program) (w : World) (K : PySem.W.Frag) (mg : Str → Option Value) (base : Heap) (k : Nat) (x : Str) (ps : List Str) (sp : Sp) : Prop :=
  ∃ f fd, mg x = some (.ref f) ∧ PySem.W.keepIn K (.ref f) = true ∧ Binds K fd ps [] ∧ FnOk P w K mg base (L2.CX P w) k f fd ps sp
theorem pe_cX {X : Cx} {k : Nat} {x : Str} {ps : List Str} {sp : Sp} {p pos : Pos} {e : Expr} {es : List Expr} {t : TA} {E : XK} (o : OkX X.prog X.w X.K X.mg X.base k x ps sp) (hr : Room k X.A) (hx : Passes (L2.CX X.prog X.w) X E) (hg : Gl X x)
    (ha : PA X (e :: es) t) (hdb : (x == ("__debug__" : Str)) = false := by decide) (he : starEach (e :: es) X.env = (false, eval e X.env) :: starEach es X.env := by rfl) (hpl : (backTo pos (starEach es X.env)).any (·.1) = false := by rfl) :
    PE X (.Call (.Name x p) (e :: es) [] pos) (tCall sp [] E t) := by
  obtain ⟨f, fd, g, kp, b, G⟩ := o
  exact pe_call G hr hg g kp b .nil hx ha hdb he hpl
def PFun (K : PySem.W.Frag) (C : Addr) (nm qual : Str) (st : Stmt) : Prop := ∃ p g fd, PropOf K C nm p g ∧ Fun K nm qual st g fd ∧ Binds K fd ["self"] []
theorem new_same {H : Hp} {x dx : Addr} {o : HO} (hx : H x = none) (hd : H dx = none) : Same H (upd (upd H dx (.own x)) x o) := fun b u e => by
  rw [upd_ne (ne_of_none e hx), upd_ne (ne_of_none e hd)]
  exact e
theorem PE.imp {X : Cx} {e : Expr} {t t' : TE} (h : PE X e t) (k : ∀ σ H Q, t' σ H Q → t σ H Q) : PE X e t' := ⟨fun pins s σ H Q I w => h.run pins s σ H Q I (k _ _ _ w)⟩
theorem PSs.len {X : Cx} {st : List Stmt} {t : TS} (h : PSs X st t) : PSs X st (fun D τ H => τ.length = X.N.length → t D τ H) := ⟨fun pins s σ H D I w => h.run pins s σ H D I (w I.len)⟩
theorem PSs.imp {X : Cx} {st : List Stmt} {t t' : TS} (h : PSs X st t) (k : ∀ D τ H, t' D τ H → t D τ H) : PSs X st t' := ⟨fun pins s σ H D I w => h.run pins s σ H D I (k _ _ _ w)⟩
end
/-! ### defs that raise nothing, called while an exception is handled -/
structure RoomM (k : Nat) (A : Around) : Prop where
  dp : A.depth + 3 * k + 5 < recursionLimit
  un : A.units + 16 * k + 200 < cLine
theorem Room.m {k : Nat} {A : Around} (r : Room k A) (h : Option Value) : RoomM k (A.mark h) := ⟨r.dp, r.un⟩
theorem RoomM.cold {k : Nat} {A : Around} (r : RoomM k A) : Room k { A with handled := none } := ⟨rfl, r.dp, r.un⟩
theorem RoomM.deeper {k : Nat} {A : Around} (r : RoomM (k + 1) A) (env : Env) : RoomM k (A.deeper env) := ⟨(r.cold.deeper env).dp, (r.cold.deeper env).un⟩
/-! ### an expression is asked; where it raises, the error is noted and what R does of it is told -/
/-! ### with of an own block around one return; the block's exit also where an error leaves it -/
/-! ### lambdas as values: their function objects are told -/
section
open LamX
variable {X : Cx} {pins : List (Addr × Obj)} {σ : St} {H : Hp} {s : Shared}
/-- at f: the lambda of this text, its names captured from the cells clo, its code object at c' -/
def LamO (f : Addr) (q : Str) (params : Arguments) (body : Expr) (scope : Scope) (clo : List (Str × Addr)) (c' : Addr) : HO :=
  .ext fun h => ∃ pm ctv : Value, h.get? f = some (PySem.W.kla_obj "<lambda>" q params body scope clo pm c' ctv)
end
section
open LamX
variable {X : Cx} {pins : List (Addr × Obj)} {σ : St} {H : Hp} {s : Shared}
abbrev LamF (X : Cx) (f : Addr) (params : Arguments) (body : Expr) (scope : Scope) (c' : Addr) (G : Hp) : Prop :=
  G f = some (LamO f (X.env.qual ++ "<lambda>") params body scope (cloFrom X.env.cells scope.names []) c') ∧ G c' = some (CodeO c' (X.env.qual ++ "<lambda>"))
/-- a lambda takes no arguments -/
abbrev Bare (X : Cx) (params : Arguments) (body : Expr) (scope : Scope) : Prop :=
  ∀ (pm cv ctv : Value), bindArgs (PySem.W.kla_fn "<lambda>" (X.env.qual ++ "<lambda>") params body scope (cloFrom X.env.cells scope.names []) pm cv ctv) ⟨[], []⟩ = pure []
end
/-! ### a comprehension whose element looks back at the def that holds it -/
/-! ### a def that is handed a lambda and calls it -/
section
open LamX
/-- a lambda of the def X: its text, and what it does -/
structure LamD (X : Cx) (k : Nat) where
  params : Arguments
  body : Expr
  scope : Scope
  t : XK → TE
  L : LamS X.env.scope scope
  bare : Bare X params body scope
  bod : ∀ (A : Around) (outer : List Env) (s : Shared) (H : Hp) (E : XK) (f c' : Addr), Room k (A.deeper (lamEnv X scope s.heap.objs.size f c')) → PE (lamCx X A outer s H E scope f c') body (t E)
abbrev LamD.at {X : Cx} {k : Nat} (d : LamD X k) (f c' : Addr) (G : Hp) : Prop := LamF X f d.params d.body d.scope c' G
end
/-! ### the law's own call, with a table of code objects that its lambdas fill -/
section
open LamX
/-- the abstract heap H tells of the script at a, of the empty table at Pt, and of nothing else -/
structure SoleT (P : Program) (w : World) (K : PySem.W.Frag) (H : Hp) (h : Heap) (a Pt : Addr) (ns : List Int) : Prop where
  only : ∀ b, H b = none ∨ b = Pt ∨ ∃ o xs, H b = some (.frz o (.lst xs))
  seq : SqL K H a (ns.map V.int)
  ok : HOk P w H h
  known : ∀ b, H b ≠ none → b = a ∨ b = Pt
  notK : H a ≠ none → K.lookup a = none
  tab : H Pt = some (.tbl #[])
/-- the empty table of a code object -/
abbrev noTab : Obj := { cls := .none, data := .fields #[] }
theorem sole_runT {P : Program} {w : World} {K : PySem.W.Frag} {mg mb : Str → Option Value} {CX : CXT} {k : Nat} {fa a c Pt : Addr} {fd : FuncData} {x : Str} {sp : Sp} {s₁ : Shared} {vs : List Value} {ns : List Int} {H : Hp}
    (Z : SoleT P w K H s₁.heap a Pt ns) (KX : K.In s₁.heap) (gN : s₁.heap.Ns mainGlobals mg) (bN : s₁.heap.Ns builtinsNs mb) (bB : ∀ y : Str, y ≠ "__name__" → mb y = bootBuiltins y) (lim : s₁.heap.NoLimit) (gens0 : s₁.gens = #[])
    (obj : s₁.heap.get? a = some { cls := .type "list", data := .seq vs.toArray }) (tabO : s₁.heap.get? Pt = some noTab) (tabK : K.lookup Pt = none) (hd : PySem.W.CodeHd s₁.heap c Pt)
    (main : ∃ (bm : Addr) (ob : Obj), mg "__builtins__" = some (.ref bm) ∧ bm ≠ builtinsNs ∧ s₁.heap.get? bm = some ob ∧ ob.cls = .type "module" ∧ ob.dict = some builtinsNs ∧ ob.data = .plain)
    (room : Room k callerA) (F : ∀ base : Heap, K.In base → base.Ns mainGlobals mg → TabB base mg c Pt → FnG P w K mg base CX k fa fd [x] sp)
    (bind : ∀ (s : Shared) (u : Value), BindsTo s fd ⟨[u], []⟩ [(x, u)]) (want : ∀ H : Hp, H Pt = some (.tbl #[]) → SqL K H a (ns.map V.int) → sp [.ref a] H (fun v _ => v = .bl true) fun _ _ _ => False)
    (noX : ∀ H e s', CX [] H s₁ (fun _ _ _ => False) e s' → False) : codeAny (model P w) callerA (.call (.ref fa) ⟨[.ref a], []⟩) (Wanted s₁) s₁ := by
  -- what H tells of an address is the script's list or the table
  have told : ∀ {b : Addr} {o : Obj}, s₁.heap.get? b = some o → H b ≠ none → o.data = .seq vs.toArray ∨ o.data = .fields #[] := fun {b o} g n => by
    rcases Z.known b n with e | e
    · rw [e, obj] at g
      rw [← Option.some.inj g]
      exact .inl rfl
    · rw [e, tabO] at g
      rw [← Option.some.inj g]
      exact .inr rfl
  have hid : ∀ {b : Addr} {o : Obj}, s₁.heap.get? b = some o → ¬ H b ≠ none → (hidT s₁.heap H).get? b = some o := fun g n => hidT_get g (Classical.byContradiction n)
  have names : ∀ {b : Addr} {m : Str → Option Value}, s₁.heap.Ns b m → (hidT s₁.heap H).Ns b m := by
    rintro b m ⟨o, es, ep, g, d, r⟩
    refine ⟨o, es, ep, hid g fun n => ?_, d, r⟩
    rcases told g n with e | e
    · rw [e] at d
      exact Data.noConfusion d
    · rw [e] at d
      exact Data.noConfusion d
  have part : K.In (hidT s₁.heap H) := fun b o g => hid (KX b o g) fun n => by
    rcases Z.known b n with e | e
    · subst e
      rw [Z.notK n] at g
      cases g
    · subst e
      rw [tabK] at g
      cases g
  obtain ⟨mc, c1, c2⟩ := lim
  have md : Mod K mg (hidT s₁.heap H) := ⟨part, names gN, ⟨mb, names bN, bB⟩, ⟨mc, names c1, c2⟩⟩
  have apart : ∀ {bm : Addr} {o : Obj}, s₁.heap.get? bm = some o → o.data = .plain → bm ≠ Pt ∧ ¬ H bm ≠ none := fun {bm o} g d => by
    refine ⟨fun m => ?_, fun n => ?_⟩
    · rw [m, tabO] at g
      rw [← Option.some.inj g] at d
      exact Data.noConfusion d
    · rcases told g n with e | e
      · rw [d] at e
        exact Data.noConfusion e
      · rw [d] at e
        exact Data.noConfusion e
  have TB : TabB (hidT s₁.heap H) mg c Pt := by
    refine ⟨?_, ?_, fun m => ?_⟩
    · obtain ⟨o, us, file, tf, flags, tg, inF, text, tt, q1, q2, q3, q⟩ := id hd
      refine ⟨o, us, file, tf, flags, tg, inF, text, tt, hid q1 fun n => ?_, q2, q3, q⟩
      rcases told q1 n with e | e
      · rw [q3] at e
        exact Data.noConfusion e
      · rw [q3] at e
        obtain ⟨q4, _⟩ := q
        injection e with e
        rw [e] at q4
        simp at q4
    · obtain ⟨bm, ob, b1, b2, b3, b4, b5, b6⟩ := main
      obtain ⟨n1, n2⟩ := apart b3 b6
      refine ⟨bm, ob, b1, b2, fun m => ?_, n1, hid b3 n2, b4, b5, b6⟩
      obtain ⟨o, es, ep, g, d, _⟩ := gN
      rw [m, g] at b3
      rw [← Option.some.inj b3, d] at b6
      exact Data.noConfusion b6
    · obtain ⟨o, es, ep, g, d, _⟩ := gN
      rw [m, tabO] at g
      rw [← Option.some.inj g] at d
      exact Data.noConfusion d
  have e0 : Env0 P w K mg (hidT s₁.heap H) callerA [] s₁ H := ⟨rfl, md, fun _ _ g => of_hidT g, Nat.le_of_eq (hidT_size _ _), trivial, fun b m => absurd m (List.not_mem_nil (a := b)), Z.ok, PyProof.Rows.AllBare.of_eq gens0⟩
  refine codeAny_mono ((F _ part (names gN) TB).goes callerA [] s₁ H ⟨[.ref a], []⟩ [.ref a] [.ref a] _ _ rfl room e0 (bind s₁ (.ref a)) (.cons rfl .nil) (want H Z.tab Z.seq)) ?_
  rintro (er | _ | _ | _ | u) s' q
  · exact (noX H er s' q).elim
  · exact q.elim
  · exact q.elim
  · exact q.elim
  · obtain ⟨v, H', os, bare, un, ok', rv, rfl⟩ := q
    obtain rfl : u = Value.bool true := rv
    have stay : ∀ b o, b ≠ Pt → s₁.heap.get? b = some o → s'.heap.get? b = some o := fun b o nb g => by
      rcases Z.only b with n | n | ⟨ob, xs, n⟩
      · exact un.keep b o g n (fun m => by cases m) (fun m => by cases m)
      · exact absurd n nb
      · have g1 := (Z.ok b _ n).1
        have g2 := (ok' b _ (un.frzs b ob _ n)).1
        rw [g] at g1
        rw [g2, Option.some.inj g1]
    obtain ⟨more, gm⟩ := un.tbls Pt #[] Z.tab
    have grown : s'.heap.get? Pt = some { cls := .none, data := .fields more } := by
      have z : s'.heap.get? Pt = some { cls := .none, data := .fields (#[] ++ more) } := ok' Pt _ gm
      rw [Array.empty_append] at z
      exact z
    refine ⟨rfl, ⟨fun b o g => ?_, fun b o g => ?_⟩, os, bare⟩
    · by_cases m : b = Pt
      · subst m
        rw [tabO] at g
        cases g
        exact .inr (.inl ⟨(hd.tab tabO).isCodeTable, rfl, #[], more, rfl, by first | exact grown | (rw [Array.empty_append]; exact grown)⟩)
      · exact .inl (stay b o m g)
    · by_cases m : b = Pt
      · subst m
        exact ⟨_, grown⟩
      · exact ⟨o, stay b o m g⟩
theorem law_callGT {P : Program} {w : World} {K : PySem.W.Frag} {mg mb : Str → Option Value} {CX : CXT} {k : Nat} {fa a c Pt : Addr} {fd : FuncData} {x : Str} {sp : Sp} {s₁ : Shared} {vs : List Value} {ns : List Int} (KX : K.In s₁.heap) (gN : s₁.heap.Ns mainGlobals mg)
    (bN : s₁.heap.Ns builtinsNs mb) (bB : ∀ y : Str, y ≠ "__name__" → mb y = bootBuiltins y) (lim : s₁.heap.NoLimit) (gens0 : s₁.gens = #[]) (obj : s₁.heap.get? a = some { cls := .type "list", data := .seq vs.toArray }) (hints : PyProof.Rows.IntsAre vs ns) (few : ns.length ≤ sizeLine)
    (tabO : s₁.heap.get? Pt = some noTab) (tabK : K.lookup Pt = none) (hd : PySem.W.CodeHd s₁.heap c Pt)
    (main : ∃ (bm : Addr) (ob : Obj), mg "__builtins__" = some (.ref bm) ∧ bm ≠ builtinsNs ∧ s₁.heap.get? bm = some ob ∧ ob.cls = .type "module" ∧ ob.dict = some builtinsNs ∧ ob.data = .plain)
    (room : Room k callerA) (F : ∀ base : Heap, K.In base → base.Ns mainGlobals mg → TabB base mg c Pt → FnG P w K mg base CX k fa fd [x] sp) (bind : ∀ (s : Shared) (u : Value), BindsTo s fd ⟨[u], []⟩ [(x, u)])
    (want : ∀ H : Hp, H Pt = some (.tbl #[]) → SqL K H a (ns.map V.int) → sp [.ref a] H (fun v _ => v = .bl true) fun _ _ _ => False) (noX : ∀ H e s', CX [] H s₁ (fun _ _ _ => False) e s' → False) :
    codeAny (model P w) callerA (.call (.ref fa) ⟨[.ref a], []⟩) (Wanted s₁) s₁ := by
  have rv := vals_ints hints
  have many := hints.length
  have ne : a ≠ Pt := fun m => by
    rw [m, tabO] at obj
    cases obj
  by_cases hk : K.lookup a = none
  · -- the script is the caller's own: told as a locked list
    generalize eH : (fun b : Addr => if b = a then some (HO.frz { cls := .type "list", data := .seq vs.toArray } (.lst (ns.map V.int))) else if b = Pt then some (.tbl #[]) else none) = H
    have at_a : H a = some (HO.frz { cls := .type "list", data := .seq vs.toArray } (.lst (ns.map V.int))) := by
      rw [← eH]
      exact if_pos rfl
    have at_t : H Pt = some (.tbl #[]) := by
      rw [← eH]
      exact (if_neg (Ne.symm ne)).trans (if_pos rfl)
    have else_ : ∀ b, b ≠ a → b ≠ Pt → H b = none := fun b n1 n2 => by
      rw [← eH]
      exact (if_neg n1).trans (if_neg n2)
    refine sole_runT (H := H) ⟨fun b => ?_, .inl (.inr ⟨_, at_a⟩), fun b u z => ?_, fun b n => ?_, fun _ => hk, at_t⟩ KX gN bN bB lim gens0 obj tabO tabK hd main room F bind want noX
    · by_cases e1 : b = a
      · exact .inr (.inr ⟨_, _, by rw [e1]; exact at_a⟩)
      · by_cases e2 : b = Pt
        · exact .inr (.inl e2)
        · exact .inl (else_ b e1 e2)
    · by_cases e1 : b = a
      · subst e1
        obtain rfl := Option.some.inj (at_a.symm.trans z)
        exact ⟨obj, by rw [List.length_map]; exact few, vs, _, rv, obj⟩
      · by_cases e2 : b = Pt
        · subst e2
          obtain rfl := Option.some.inj (at_t.symm.trans z)
          exact tabO
        · rw [else_ b e1 e2] at z
          cases z
    · by_cases e1 : b = a
      · exact .inl e1
      · by_cases e2 : b = Pt
        · exact .inr e2
        · exact absurd (else_ b e1 e2) n
  · -- the script is one of the module's objects
    obtain ⟨o, ho⟩ := Option.ne_none_iff_exists'.mp hk
    have eo := Option.some.inj (obj.symm.trans (KX a o ho))
    generalize eH : (fun b : Addr => if b = Pt then some (HO.tbl #[]) else none) = H
    have at_t : H Pt = some (.tbl #[]) := by
      rw [← eH]
      exact if_pos rfl
    have else_ : ∀ b, b ≠ Pt → H b = none := fun b n => by
      rw [← eH]
      exact if_neg n
    refine sole_runT (H := H) ⟨fun b => ?_, .inr ⟨o, vs.toArray, 0, ho, by rw [← eo], by rw [← eo], by rw [← eo], by rw [List.size_toArray, many]; exact few, by simpa using rv⟩, fun b u z => ?_, fun b n => ?_, fun n => absurd (else_ a ne) n, at_t⟩ KX gN bN bB lim gens0 obj tabO tabK hd main room F bind want noX
    · by_cases e2 : b = Pt
      · exact .inr (.inl e2)
      · exact .inl (else_ b e2)
    · by_cases e2 : b = Pt
      · subst e2
        obtain rfl := Option.some.inj (at_t.symm.trans z)
        exact tabO
      · rw [else_ b e2] at z
        cases z
    · by_cases e2 : b = Pt
      · exact .inr e2
      · exact absurd (else_ b e2) n
/-- the goal behind the head, by such a promise -/
theorem walk_ofGT {l : PySem.W.OpenLaw} {n k : Nat} {q : Program} {loose : List Str} {XP : (Str → Option Value) → Heap → Prop} {YP : World → Heap → Prop} {d : DefRec} {K : Params → PySem.W.Frag} {CX : World → CXT} {sp : World → Addr → Sp} {x : Str}
    (hn : l.most = some n) (few : n ≤ sizeLine) (hdf : d.params.defaults = []) (room : Room k callerA) (hY : ∀ (w : World) (h : Heap), YP w h → (K w.params).In h)
    (F : ∀ (w : World) (mg : Str → Option Value) (fa : Addr) (h : Heap), YP w h → (K w.params).In h → h.Ns mainGlobals mg → mg d.name = some (.ref fa) → ∃ (fd : FuncData) (c Pt : Addr), (∀ (s : Shared) (u : Value), BindsTo s fd ⟨[u], []⟩ [(x, u)]) ∧
      h.get? Pt = some noTab ∧ (K w.params).lookup Pt = none ∧ PySem.W.CodeHd h c Pt ∧
      (∀ base : Heap, (K w.params).In base → base.Ns mainGlobals mg → TabB base mg c Pt → FnG l.prog w (K w.params) mg base (CX w) k fa fd [x] (sp w Pt)))
    (want : ∀ (w : World) (Pt : Addr) (H : Hp) (a : Addr) (ns : List Int), ns.length ≤ n → H Pt = some (.tbl #[]) → SqL (K w.params) H a (ns.map V.int) → sp w Pt [.ref a] H (fun v _ => v = .bl true) fun _ _ _ => False)
    (noX : ∀ (w : World) (H : Hp) (s : Shared) (e : Value) (s' : Shared), CX w [] H s (fun _ _ _ => False) e s' → False) : PySem.W.WalkO q loose XP YP l.row.toRowW d [] (fun f vs => PySem.call f vs) :=
  Att.attach_call hn hdf fun w s₀ s₁ mg mb fa o pm cd doc a vs ns G Y ho hd hcd hmg hobj hints hlen hg => by
    have KX := hY w _ Y
    obtain ⟨fd, c, Pt, hb, t1, t2, t3, hF⟩ := F w mg fa _ Y KX G.T.g hmg
    exact law_callGT KX G.T.g G.T.b G.T.builtins G.T.nolimit hg hobj hints (Nat.le_trans hlen few) t1 t2 t3 G.T.bmain room hF hb (fun H z1 z2 => want w Pt H a ns hlen z1 z2) fun H e s' => noX w H s₁ e s'
end
/-! ### own operators with an int on either side (gathered from k12) -/
/-! ### a method that is handed a lambda: its call by what runs -/
/-! ### calls in a try's body: what is raised is wished for at the slots -/
/-! ### dicts whose keys are tuples of ints, texts and None: told by an own description -/
section
def lV : Leaf → V
  | .none => .non
  | .num i => .int i
  | .text x => .str x
/-- the entries: keys, where their tuples stand, values -/
abbrev Ents : Type := List (List Leaf × Addr × V)
def dRow3 (p : List Leaf × Addr × V) (q : List Leaf × Addr × Value) : Prop := p.1 = q.1 ∧ p.2.1 = q.2.1 ∧ RelV p.2.2 q.2.2
def dObj (P : Program) (w : World) (a : Addr) (kbs : Ents) : HO := .ext fun h => ∃ xs : List (List Leaf × Addr × Value), Paired dRow3 kbs xs ∧
  (∃ o es ep, h.get? a = some o ∧ o.ExactDict ∧ o.data = .dict es ep ∧ es.toList = xs.map (entryOfKey (tupleKind (leafKind P w)))) ∧ (xs.map (·.1)).Nodup ∧ (a == sysModules) = false ∧ kbs.length ≤ sizeLine
/-- such a dict stands at a, and its keys' tuples where they are said to -/
def Tab (P : Program) (w : World) (H : Hp) (a : Addr) (kbs : Ents) : Prop := H a = some (dObj P w a kbs) ∧ ∀ x ∈ kbs, H x.2.1 = some (.tup (x.1.map lV))
def valT (kbs : Ents) (k : List Leaf) : Option V := (kbs.find? fun x => decide (x.1 = k)).map (·.2.2)
variable {P : Program} {w : World} {H H' : Hp} {h : Heap} {a b : Addr} {kbs : Ents} {k : List Leaf}
theorem leaf_is {l : Leaf} {u : Value} (r : RelV (lV l) u) : (leafKind P w).is l u = true := by
  cases l with
  | none =>
    obtain rfl : u = Value.none := r
    rfl
  | num i =>
    obtain ⟨t, rfl⟩ := r
    exact decide_eq_true rfl
  | text x =>
    obtain ⟨t, rfl⟩ := r
    show Value.isStrOf x (.str x t) = true
    simp [Value.isStrOf]
theorem leaves_are : ∀ {ls : List Leaf} {us : List Value}, Vals (ls.map lV) us → ItemsAre (leafKind P w) ls us
  | [], _, r => by
    cases r
    exact .nil
  | l :: ls, _, r => by
    cases r with
    | cons r t => exact .cons (leaf_is r) (leaves_are t)
theorem leafKey (ok : HOk P w H h) (e : H b = some (.tup (k.map lV))) : (tupleKind (leafKind P w)).is h k b := by
  obtain ⟨_, us, r, ob, at_b, isT, m, dat⟩ := (show ObjOk P w H h b (.tup (k.map lV)) from ok b _ e)
  exact ⟨ob, us.toArray, m, at_b, isT, dat, by simpa using leaves_are r⟩
theorem dRow3.keys {xs : List (List Leaf × Addr × Value)} (r : Paired dRow3 kbs xs) : kbs.map (·.1) = xs.map (·.1) := by
  induction r with
  | nil => rfl
  | cons h _ ih => rw [List.map_cons, List.map_cons, ih, h.1]
theorem dRow3.val {xs : List (List Leaf × Addr × Value)} (r : Paired dRow3 kbs xs) (k : List Leaf) : RelO (valT kbs k) ((atKey xs k).map (·.2)) := by
  induction r with
  | nil => exact True.intro
  | @cons p q ps qs h _ ih =>
    unfold valT atKey at ih ⊢
    rw [List.find?_cons, List.find?_cons, ← h.1]
    by_cases e : p.1 = k
    · rw [decide_eq_true e]
      exact h.2.2
    · rw [decide_eq_false e]
      exact ih
theorem dRow3.snoc {xs : List (List Leaf × Addr × Value)} {p : List Leaf × Addr × V} {q : List Leaf × Addr × Value} (r : Paired dRow3 kbs xs) (z : dRow3 p q) : Paired dRow3 (kbs ++ [p]) (xs ++ [q]) := by
  induction r with
  | nil => exact .cons z .nil
  | cons h _ ih => exact .cons h ih
theorem Tab.dict (t : Tab P w H a kbs) (ok : HOk P w H h) : ∃ xs, Paired dRow3 kbs xs ∧ h.DictOfH (tupleKind (leafKind P w)) a xs ∧ (a == sysModules) = false ∧ kbs.length ≤ sizeLine := by
  obtain ⟨⟨xs, r, ⟨o, es, ep, h1, h2, h3, h4⟩, nd, low, few⟩, _, _⟩ := (show ObjOk P w H h a (dObj P w a kbs) from ok a _ t.1)
  refine ⟨xs, r, ⟨o, es, ep, h1, h2, h3, h4, ?_, nd⟩, low, few⟩
  have all : ∀ {l : Ents} {m : List (List Leaf × Addr × Value)}, Paired dRow3 l m → (∀ x ∈ l, H x.2.1 = some (.tup (x.1.map lV))) → ∀ x ∈ m, (tupleKind (leafKind P w)).is h x.1 x.2.1 := by
    intro l m r
    induction r with
    | nil => exact fun _ x hx => nomatch hx
    | @cons p q ps qs hq _ ih =>
      intro hl x hx
      rcases List.mem_cons.mp hx with e | hx
      · rw [e, ← hq.1, ← hq.2.1]
        exact leafKey ok (hl p List.mem_cons_self)
      · exact ih (fun y hy => hl y (List.mem_cons_of_mem _ hy)) x hx
  exact all r t.2
theorem dObj_ok {xs : List (List Leaf × Addr × Value)} (r : Paired dRow3 kbs xs) (d : h.DictOfH (tupleKind (leafKind P w)) a xs) (low : (a == sysModules) = false) (few : kbs.length ≤ sizeLine) : ObjOk P w H h a (dObj P w a kbs) := by
  obtain ⟨o, es, ep, h1, h2, h3, h4, _, nd⟩ := d
  refine ⟨⟨xs, r, ⟨o, es, ep, h1, h2, h3, h4⟩, nd, low, few⟩, ⟨o, h1⟩, fun g1 g2 z k => ?_⟩
  obtain ⟨ys, r', ⟨o', es', ep', q1, q2, q3, q4⟩, nd', low', few'⟩ := z
  exact ⟨ys, r', ⟨o', es', ep', k _ q1, q2, q3, q4⟩, nd', low', few'⟩
theorem Tab.same (t : Tab P w H a kbs) (s : Same H H') : Tab P w H' a kbs := ⟨s _ _ t.1, fun x hx => s _ _ (t.2 x hx)⟩
variable {X : Cx}
def rInTab (X : Cx) : R2 := fun x y H Q => ∃ b a k kbs, x = .ref b ∧ y = .ref a ∧ H b = some (.tup (k.map lV)) ∧ Tab X.prog X.w H a kbs ∧ Q (.bl (valT kbs k).isSome) H
theorem relO_isS {x : Option V} {y : Option Value} (r : RelO x y) : y.isSome = x.isSome := by
  cases x <;> cases y <;> first | rfl | exact r.elim
theorem op_inTab (un : X.A.units + 64 < cLine) : OpR X (compareOp .In) (rInTab X) := by
  intro pins s σ H x y v u Q I rx ry h
  obtain ⟨b, a, k, kbs, rfl, rfl, eb, t, q⟩ := h
  cases rx
  cases ry
  obtain ⟨xs, r, d, low, few⟩ := t.dict I.hok
  refine wpAny_in_heap (tupleKind_room_in1 (by omega)) (leafKey I.hok eb) low d ?_
  have e := relO_isS (dRow3.val r k)
  rw [Option.isSome_map] at e
  rw [e]
  exact ⟨.bl _, H, I.tok _, rfl, q⟩
def rIxTab (X : Cx) : R2 := fun x y H Q => ∃ b a k kbs v, x = .ref a ∧ y = .ref b ∧ H b = some (.tup (k.map lV)) ∧ Tab X.prog X.w H a kbs ∧ valT kbs k = some v ∧ Q v H
theorem ixTab (un : X.A.units + 64 < cLine) : IxR X (rIxTab X) := by
  intro value slice pins s σ H x y v u Q I rx ry h hs
  obtain ⟨b, a, k, kbs, z, rfl, rfl, eb, t, ev, q⟩ := h
  cases rx
  cases ry
  obtain ⟨xs, r, d, low, few⟩ := t.dict I.hok
  have e := dRow3.val r k
  rw [ev] at e
  obtain ⟨u', hu, ru⟩ := RelO.some_of e
  obtain ⟨p, hp, rfl⟩ := Option.map_eq_some_iff.mp hu
  exact PyProof.Rows.tail_any d.typeIs PySem.F.slot_dict_getitem.lookup (wpAny_getItem_heap (tupleKind_room_in1 (by omega)) (leafKey I.hok eb) d hp ⟨z, H, I.tok _, ru, q⟩) hs
/-- a store of a new key -/
def PutTab (X : Cx) (H : Hp) (D : Addr) (y z : V) (H' : Hp) : Prop := ∃ kbs k b, y = .ref b ∧ H b = some (.tup (k.map lV)) ∧ Tab X.prog X.w H D kbs ∧ k ∉ kbs.map (·.1) ∧ kbs.length < sizeLine ∧ H' = upd H D (dObj X.prog X.w D (kbs ++ [(k, b, z)]))
theorem atKey_none {xs : List (List Leaf × Addr × Value)} {k : List Leaf} (n : k ∉ xs.map (·.1)) : atKey xs k = none := by
  unfold atKey
  rw [Option.map_eq_none_iff, List.find?_eq_none]
  intro x hx e
  exact n (List.mem_map.mpr ⟨x, hx, of_decide_eq_true e⟩)
theorem putTab_set {pins : List (Addr × Obj)} {σ : St} {H H' : Hp} {s : Shared} {E : Value → Shared → Prop} {D : Addr} {y z : V} {u r : Value} {Q : Unit → Shared → Prop} (un : X.A.units < cLine) (I : Inv X pins σ H s) (p : PutTab X H D y z H') (ry : RelV y u) (rz : RelV z r)
    (w : ∀ s', Inv X pins σ H' s' → Q () s') : wpAny (model X.prog X.w) X.A (dictSet D u r) Q E s := by
  obtain ⟨kbs, k, b, rfl, eb, t, new, few, rfl⟩ := p
  cases ry
  obtain ⟨xs, rr, d, low, _⟩ := t.dict I.hok
  have nw : atKey xs k = none := atKey_none (by rw [← dRow3.keys rr]; exact new)
  have len : xs.length = kbs.length := by rw [← List.length_map (f := (·.1)), ← dRow3.keys rr, List.length_map]
  refine wpAny_dictSet_heap (knd := tupleKind (leafKind X.prog X.w)) un (leafKey I.hok eb) d (fun h' d' but => w _ ?_) (by omega)
  rw [storedH_new nw] at d'
  obtain ⟨o, es, ep, q1, _⟩ := id d'
  refine I.write (x := D) (e := D) (by rw [t.1]; exact True.intro) (.inl rfl) (fun c o' nc g => (but.2 c nc).trans g) ⟨o, q1⟩ (dObj_ok (dRow3.snoc rr ⟨rfl, rfl, rz⟩) d' low ?_)
  rw [List.length_append]
  exact few
end
/-! ### {key: value for ..}, its keys tuples of ints, texts and None, each once -/
section
open PyProof.Rows hiding St
variable {X : Cx}
def tDcT (X : Cx) (wi : TI) (g : TG) (tk tv : TE) (vs : List Nat) : TE := fun σ H Q => wi σ H fun J H1 => ∀ D, H1 D = none → ∃ W : Nat → Nat → Hp → Prop, (∃ m, W 0 m (upd H1 D (dObj X.prog X.w D []))) ∧ ∀ i m H, W i m H →
  (J.stop i H ∧ Q (.ref D) H) ∨ (J.go i H ∧ ∃ Nx : Hp → Prop, (∀ H', Nx H' → ∃ m', m' < m ∧ W (i + 1) m' H') ∧ ∀ x H', J.yld i H x H' → g x (wipe σ vs) H' fun σ2 H2 => wipe σ2 vs = wipe σ vs ∧ tk σ2 H2 fun y H4 => tv σ2 H4 fun z H5 => ∃ H6, PutTab X H5 D y z H6 ∧ Nx H6)
theorem pe_dcT {kx vx tg iter : Expr} {scope : Scope} {own : List (Str × Nat)} {pos : Pos} {wi : TI} {g : TG} {tk tv : TE} (un : X.A.units < cLine) (calm : X.calm = true) (nd : X.N.Nodup) (wk : PI X tg iter wi) (bk : BlkOk X.N X.env.scope scope own)
    (gg : ∀ (s : Shared) (H : Hp) (C : Addr) (cl : List (Str × Addr)) (fp : List Addr), PG (X.blk s H scope (compEnvC scope cl C X.env) fp) tg g)
    (kk : ∀ (s : Shared) (H : Hp) (C : Addr) (cl : List (Str × Addr)) (fp : List Addr), PE (X.blk s H scope (compEnvC scope cl C X.env) fp) kx tk) (vv : ∀ (s : Shared) (H : Hp) (C : Addr) (cl : List (Str × Addr)) (fp : List Addr), PE (X.blk s H scope (compEnvC scope cl C X.env) fp) vx tv)
    (same : ∀ x, foldedSetIterable iter X.env x = pure x := by intro _; rfl) : PE X (.DictComp kx vx [⟨tg, iter, [], 0⟩] scope pos) (tDcT X wi g tk tv (own.map (·.2))) := by
  refine ⟨fun pins s σ H Q I w => ?_⟩
  rw [arm_eval_DictComp]
  have caught : ∀ y ∈ scope.names, y.2 = .free → ∃ c, X.env.cells.lookup y.1 = some c := fun y hy e => (bk.free y hy e).elim (fun k => I.ok.has _ (.inl k)) fun k => I.ok.has _ (.inr k)
  refine wpAny_comprehension_free (use := none) rfl same (closure_ok caught) bk.kind (fun y hy e => by rw [bk.uniq y hy, e]) (thn (wk.run pins s σ H _ I w) fun v1 s1 h1 => thn h1 fun v2 s2 h2 => ?_)
  obtain ⟨it, fp, turn_at, J, H2, rfl, I2, T, st2, frees, w⟩ := h2
  refine wpAny_newObj_type (newEnv_comp ?_)
  have newD : H2 s2.heap.objs.size = none := I2.hok.fresh (Nat.le_refl _)
  obtain ⟨W, ⟨m0, w0⟩, turn⟩ := w s2.heap.objs.size newD
  generalize eD : s2.heap.objs.size = D at newD w0 turn
  -- the dict that is filled
  have stay3 : ∀ b o, s2.heap.get? b = some o → (s2.heap.push { cls := .type "dict", data := .dict #[] }).get? b = some o := fun b o e => Heap.get?_push_of_some _ e
  have low : (D == sysModules) = false := by
    rw [← eD]
    exact beq_eq_false_iff_ne.mpr (Nat.ne_of_gt I2.big)
  have I3 : Inv X pins σ (upd H2 D (dObj X.prog X.w D [])) { s2 with heap := s2.heap.push { cls := .type "dict", data := .dict #[] } } :=
    I2.laid (t' := s2.toks) stay3 (Nat.le_of_eq eD) (by rw [← eD] at low ⊢; exact dObj_ok .nil (Heap.DictOfH.new s2.heap) low (Nat.zero_le _))
  have size3 : (s2.heap.push { cls := .type "dict", data := .dict #[] }).objs.size = s2.heap.objs.size + 1 := Heap.size_push _ _
  generalize eH : upd H2 D (dObj X.prog X.w D []) = H3 at I3 w0
  have frees3 : ∀ b ∈ fp, FpOk X pins H3 b ∧ b < (s2.heap.push { cls := .type "dict", data := .dict #[] }).objs.size := fun b hb => by
    obtain ⟨o, e, _⟩ := T.obj _ _ st2 b hb
    have lt := Heap.lt_size e
    refine ⟨⟨?_, (frees b hb).2⟩, by rw [size3]; exact Nat.lt_succ_of_lt lt⟩
    rw [← eH, upd_ne (by rw [← eD]; exact Nat.ne_of_lt lt)]
    exact (frees b hb).1
  have st3 : turn_at 0 (s2.heap.push { cls := .type "dict", data := .dict #[] }) := T.keep _ _ _ st2 fun b _ o e => stay3 b o e
  generalize e3 : ({ s2 with heap := s2.heap.push { cls := .type "dict", data := .dict #[] } } : Shared) = s3 at I3
  have h3 : s3.heap = s2.heap.push { cls := .type "dict", data := .dict #[] } := by rw [← e3]
  rw [← h3] at frees3 st3
  have I4 := block_start I3 bk nd frees3
  have pg := gg s3 H3 s3.heap.objs.size (cellsFrom (s3.heap.objs.size + 1) scope.names (cloFrom X.env.cells scope.names [])) fp
  have pk := kk s3 H3 s3.heap.objs.size (cellsFrom (s3.heap.objs.size + 1) scope.names (cloFrom X.env.cells scope.names [])) fp
  have pv := vv s3 H3 s3.heap.objs.size (cellsFrom (s3.heap.objs.size + 1) scope.names (cloFrom X.env.cells scope.names [])) fp
  show codeAny _ _ (.compStart (.DictComp kx vx [⟨tg, iter, [], 0⟩] scope pos) 0 (.ref it) (.ref D) (compEnvC scope (cellsFrom (s3.heap.objs.size + 1) scope.names (cloFrom X.env.cells scope.names [])) s3.heap.objs.size X.env))
    (compPost (model X.prog X.w) X.A X.xe none (EP X pins σ Q) (.ref D) s3.heap.objs.size) { s3 with heap := pushCells (s3.heap.push { cls := .type "dict", data := .dict #[] }) scope.names }
  have free3 : ∀ b ∈ fp, H3 b = none := fun b hb => (frees3 b hb).1.1
  generalize eC : compEnvC scope (cellsFrom (s3.heap.objs.size + 1) scope.names (cloFrom X.env.cells scope.names [])) s3.heap.objs.size X.env = ce at I4 pg pk pv ⊢
  have locals : ce.locals = s3.heap.objs.size := by rw [← eC]; rfl
  generalize e4 : ({ s3 with heap := pushCells (s3.heap.push { cls := .type "dict", data := .dict #[] }) scope.names } : Shared) = s4 at I4 ⊢
  have st4 : turn_at 0 s4.heap := T.keep _ _ _ st3 fun b _ o e => by
    rw [← e4]
    exact pushCells_keeps _ _ _ _ (Heap.get?_push_of_some _ e)
  have walked : ∀ {τ : St} {G : Hp} {z : Shared}, Inv (X.blk s3 H3 scope ce fp) [] τ G z → (∀ b ∈ fp, G b = none) → ∀ b ∈ fp, FpOk (X.blk s3 H3 scope ce fp) [] G b := fun {τ G z} V n b hb =>
    ⟨n b hb, (V.ok.exf b hb).1, V.ok.exfs b hb, .inl hb, fun x c e => (V.ok.exf b hb).2 x c e, fun p hp => absurd (show p ∈ ([] : List (Addr × Obj)) ++ [] from hp) (by simp)⟩
  have loop : codeAny (model X.prog X.w) X.A (.compLoop (.DictComp kx vx [⟨tg, iter, [], 0⟩] scope pos) 0 (.ref it) (.ref D) ce) (compPost (model X.prog X.w) X.A X.xe none (EP X pins σ Q) (.ref D) s3.heap.objs.size) s4 := by
    refine compLoop_anyD (fun n z => ∃ i G, Inv (X.blk s3 H3 scope ce fp) [] (wipe σ (own.map (·.2))) G z ∧ turn_at i z.heap ∧ (∀ b ∈ fp, G b = none) ∧ W i n G) ?_ m0 ⟨0, H3, I4, st4, free3, w0⟩
    rintro n z5 ⟨i, G5, V5, st5, n5, w5⟩
    rcases turn i n G5 w5 with ⟨stop, done⟩ | ⟨go, Nx, next, step⟩
    · refine thnF (T.done (X.blk s3 H3 scope ce fp) rfl rfl rfl calm i [] z5 _ G5 (fun _ _ => False) V5 (walked V5 n5) st5 stop) fun r z6 hz => ?_
      obtain ⟨rfl, V6⟩ := hz
      have I7 : Inv X pins σ G5 z6 := I3.call' (ch := fp) V6.os V6.base V6.hok V6.bare fun b hb => by
        obtain ⟨⟨_, y1, _, y3, y4, y5⟩, _⟩ := frees3 b hb
        exact ⟨y3, y1, y4, y5⟩
      obtain ⟨m, ns, _⟩ := V6.loc
      have ns2 : z6.heap.Ns s3.heap.objs.size m := locals ▸ (show z6.heap.Ns ce.locals m from ns)
      have nC : G5 s3.heap.objs.size = none := locals ▸ (show G5 ce.locals = none from V6.free)
      obtain ⟨f0, f1, f2, f3, f4, f5⟩ := I3.fpOk (Nat.le_refl _) nC
      exact ⟨m, ns2, fun h'' but => ⟨.ref D, G5, I7.turned (t' := z6.toks) (fun b o hb e => (but.2 b hb).trans e) f0 f1 f3 f4 f5, rfl, done⟩⟩
    · refine thnF (T.item (X.blk s3 H3 scope ce fp) rfl rfl rfl calm i [] z5 _ G5 (fun _ _ => False) V5 (walked V5 n5) st5 go) fun r z6 hz => ?_
      obtain ⟨u, rfl, hz⟩ := hz
      refine thnF hz fun _ z7 hz => ?_
      obtain ⟨x, G7, V7, r7, y7, st7, n7⟩ := hz
      have V7' := V7.pinned (walked V7 n7) (T.obj _ _ st7)
      refine thnF (pg.run _ z7 _ G7 x u _ V7' r7 (step x G7 y7)) fun _ z8 hz => ?_
      obtain ⟨τ8, G8, V8, wiped, yes⟩ := hz
      refine thnF (((pts_nil : PTs (X.blk s3 H3 scope ce fp) [] tYes)).run _ z8 τ8 G8 (fun b G => b = true ∧ tk τ8 G fun y H4 => tv τ8 H4 fun z H5 => ∃ H6, PutTab X H5 D y z H6 ∧ Nx H6) V8 ⟨rfl, yes⟩) fun b z9 hz => ?_
      obtain ⟨G9, V9, rfl, q9⟩ := hz
      simp only [if_true]
      refine thnF (pk.run _ z9 τ8 G9 _ V9 q9) fun y z10 hz => ?_
      obtain ⟨yv, G10, V10, r10, q10⟩ := hz
      refine thnF (pv.run _ z10 τ8 G10 _ V10 q10) fun y2 z11 hz => ?_
      obtain ⟨zv, G11, V11, r11, G12, put, nx⟩ := hz
      refine putTab_set (X := X.blk s3 H3 scope ce fp) un V11 put r10 r11 fun z12 V12 => ?_
      obtain ⟨m', less, w'⟩ := next _ nx
      have pinned : ∀ b ∈ fp, ∀ o, z7.heap.get? b = some o → z12.heap.get? b = some o ∧ G12 b = none := fun b hb o e =>
        let y := V12.pin (b, o) (List.mem_append_right _ (List.mem_append_right _ (mem_pinsAt hb e)))
        ⟨y.1, y.2.1⟩
      refine ⟨m', less, i + 1, _, (V12.unpinned (pins := [])).weak (by rw [← wiped, wipe_length]) (fun j v e => ?_), T.keep _ _ _ st7 fun b hb o e => (pinned b hb o e).1, fun b hb => ?_, w'⟩
      · rw [← wiped] at e
        exact (wipe_some e).1
      · obtain ⟨o, e, _⟩ := T.obj _ _ st7 b hb
        exact (pinned b hb o e).2
  exact codeAny_compStart_dict loop (T.self X.A 0 _ _ _ st4 loop)
end
section
variable {X : Cx} {J : It} {n : Nat} {G : Hp → Prop} {Y : Nat → Hp → V → Hp → Prop}
theorem dc_it (wk : Walk J n G Y) {g : TG} {tk tv : TE} {vs : List Nat} {σ : St} {H1 : Hp} {D : Addr} {Qd : Hp → Prop} (I : Nat → Hp → Prop) (i0 : I 0 (upd H1 D (dObj X.prog X.w D []))) (hG : ∀ i H, I i H → G H)
    (hs : ∀ i x H H', i < n → I i H → Y i H x H' → g x (wipe σ vs) H' fun σ2 H2 => wipe σ2 vs = wipe σ vs ∧ tk σ2 H2 fun y H4 => tv σ2 H4 fun z H5 => ∃ H6, PutTab X H5 D y z H6 ∧ I (i + 1) H6) (hd : ∀ H, I n H → Qd H) :
    ∃ W : Nat → Nat → Hp → Prop, (∃ m, W 0 m (upd H1 D (dObj X.prog X.w D []))) ∧ ∀ i m H, W i m H →
      (J.stop i H ∧ Qd H) ∨ (J.go i H ∧ ∃ Nx : Hp → Prop, (∀ H', Nx H' → ∃ m', m' < m ∧ W (i + 1) m' H') ∧ ∀ x H', J.yld i H x H' → g x (wipe σ vs) H' fun σ2 H2 => wipe σ2 vs = wipe σ vs ∧ tk σ2 H2 fun y H4 => tv σ2 H4 fun z H5 => ∃ H6, PutTab X H5 D y z H6 ∧ Nx H6) := by
  refine ⟨fun i m H => m = n - i ∧ i ≤ n ∧ I i H, ⟨n, rfl, Nat.zero_le _, i0⟩, ?_⟩
  rintro i m H ⟨rfl, le, iH⟩
  by_cases lt : i < n
  · exact .inr ⟨wk.goes i H lt (hG i H iH), I (i + 1), fun H' z => ⟨n - (i + 1), by omega, rfl, lt, z⟩, fun x H' y => hs i x H H' lt iH (wk.yields i H x H' lt (hG i H iH) y)⟩
  · obtain rfl : i = n := by omega
    exact .inl ⟨wk.stops H (hG _ H iH), hd H iH⟩
end
section
variable {J : It} {n : Nat} {G : Hp → Prop} {Y : Nat → Hp → V → Hp → Prop}
/-- the same for keys that are ints or texts (tDc), by what holds at each turn -/
theorem dcK_it (wk : Walk J n G Y) {g : TG} {tt : TT} {tk tv : TE} {vs : List Nat} {σ : St} {H1 : Hp} {D : Addr} {Qd : Hp → Prop} (I : Nat → Hp → Prop) (i0 : I 0 (upd H1 D (.dK []))) (hG : ∀ i H, I i H → G H)
    (hs : ∀ i x H H', i < n → I i H → Y i H x H' → g x (wipe σ vs) H' fun σ2 H2 => wipe σ2 vs = wipe σ vs ∧ tt σ2 H2 fun b H3 => if b = true then tk σ2 H3 fun y H4 => tv σ2 H4 fun z H5 => ∃ kvs k, y = kV k ∧ H5 D = some (.dK kvs) ∧ kvs.length < sizeLine ∧ I (i + 1) (upd H5 D (.dK (putK kvs k z))) else I (i + 1) H3)
    (hd : ∀ H, I n H → Qd H) : ∃ W : Nat → Nat → Hp → Prop, (∃ m, W 0 m (upd H1 D (.dK []))) ∧ ∀ i m H, W i m H → (J.stop i H ∧ Qd H) ∨ (J.go i H ∧ ∃ Nx : Hp → Prop, (∀ H', Nx H' → ∃ m', m' < m ∧ W (i + 1) m' H') ∧ ∀ x H', J.yld i H x H' → g x (wipe σ vs) H' fun σ2 H2 => wipe σ2 vs = wipe σ vs ∧ tt σ2 H2 fun b H3 =>
      if b = true then tk σ2 H3 fun y H4 => tv σ2 H4 fun z H5 => ∃ kvs k, y = kV k ∧ H5 D = some (.dK kvs) ∧ kvs.length < sizeLine ∧ Nx (upd H5 D (.dK (putK kvs k z))) else Nx H3) := by
  refine ⟨fun i m H => m = n - i ∧ i ≤ n ∧ I i H, ⟨n, rfl, Nat.zero_le _, i0⟩, ?_⟩
  rintro i m H ⟨rfl, le, iH⟩
  by_cases lt : i < n
  · exact .inr ⟨wk.goes i H lt (hG i H iH), I (i + 1), fun H' z => ⟨n - (i + 1), by omega, rfl, lt, z⟩, fun x H' y => hs i x H H' lt iH (wk.yields i H x H' lt (hG i H iH) y)⟩
  · obtain rfl : i = n := by omega
    exact .inl ⟨wk.stops H (hG _ H iH), hd H iH⟩
theorem putK_new {κ : Type} [DecidableEq κ] {kvs : List (κ × V)} {k : κ} {v : V} (n : k ∉ kvs.map (·.1)) : putK kvs k v = kvs ++ [(k, v)] := by
  unfold putK
  rw [if_neg]
  rw [List.any_eq_true]
  rintro ⟨x, hx, e⟩
  exact n (List.mem_map.mpr ⟨x, hx, of_decide_eq_true e⟩)
end
/-! ### tests that tell one truth, whatever grows meanwhile -/
section
def PureT (t : TT) (σ : St) (H : Hp) (b : Bool) : Prop := ∀ Q : Bool → Hp → Prop, (∀ H', Same H H' → Q b H') → t σ H Q
variable {t u : TT} {σ : St} {H : Hp} {x y : Bool}
theorem PureT.or (a : PureT t σ H x) (b : ∀ H', Same H H' → PureT u σ H' y) : PureT (tOr t u) σ H (x || y) := fun Q q => a _ fun H1 s1 => by
  cases x with
  | true => exact iteT (q _ s1)
  | false => exact iteF (b H1 s1 _ fun H2 s2 => q _ (s1.trans s2))
theorem PureT.and (a : PureT t σ H x) (b : x = true → ∀ H', Same H H' → PureT u σ H' y) : PureT (tAnd t u) σ H (x && y) := fun Q q => a _ fun H1 s1 => by
  cases x with
  | false => exact iteF (q _ s1)
  | true => exact iteT (b rfl H1 s1 _ fun H2 s2 => q _ (s1.trans s2))
theorem PureT.no (a : PureT t σ H x) : PureT (tNot t) σ H (!x) := fun Q q => a _ fun H1 s1 => q _ s1
theorem PureT.cast (a : PureT t σ H x) (e : x = y) : PureT t σ H y := e ▸ a
theorem PureT.ifs {c d : TS} {D : Ends} (a : PureT t σ H x) (b : x = true → ∀ H', Same H H' → c D σ H') (e : x = false → ∀ H', Same H H' → d D σ H') : tIfS t c d D σ H := a _ fun H1 s1 => by
  cases x with
  | true => exact iteT (b rfl _ s1)
  | false => exact iteF (e rfl _ s1)
end
theorem no_tt {b : Bool} (h : (!b) = true) : b = false := by cases b <;> first | rfl | cases h
theorem no_ff {b : Bool} (h : (!b) = false) : b = true := by cases b <;> first | rfl | cases h
theorem dec_len {n m : Nat} : decide (V.int n = V.int m) = decide (n = m) := decide_eq_decide.mpr ⟨fun h => by injection h with h; omega, fun h => by rw [h]⟩
theorem PureT.sqn {t : TT} {σ : St} {H : Hp} {x : Bool} {c u : TS} {D : Ends} (a : PureT t σ H x) (b : x = true → ∀ H', Same H H' → c { D with nx := u D } σ H') (e : x = false → ∀ H', Same H H' → u D σ H') : tSeq (tIfS t c tNext) u D σ H := PureT.ifs a b e
theorem PureT.orc {t u : TT} {σ : St} {H : Hp} {x y : Bool} (a : PureT t σ H x) (b : x = false → ∀ H', Same H H' → PureT u σ H' y) : PureT (tOr t u) σ H (x || y) := fun Q q => a _ fun H1 s1 => by
  cases x with
  | true => exact iteT (q _ s1)
  | false => exact iteF (b rfl H1 s1 _ fun H2 s2 => q _ (s1.trans s2))
/-! ### enumerate of a tuple, in a for loop's head -/
section
open PyProof.Rows hiding St
abbrev tupIt (t : Addr) : Obj := { cls := .type "tuple_iterator", data := .fields #[.ref t, .int 0 0] }
abbrev enumOf (n : Addr) : Obj := { cls := .type "enumerate", data := .fields #[.none, .bool false, .ref n, rawInt 0, .none, .none] }
theorem meets_enumT (t : Addr) (items : Array Value) : Meets (Builtin.«enumerate.__new__» ⟨[.type "enumerate", .ref t], []⟩)
    (fun _ R s => s.heap.IsTuple t items ∧ R (.ok (.ret (.ref (s.heap.push (tupIt t)).objs.size))) { s with heap := (s.heap.push (tupIt t)).push (enumOf s.heap.objs.size) }) := .of_wp fun prog w A R s z => by
  obtain ⟨at_t, z⟩ := z
  obtain ⟨hp, gs, dr, tk1, os1⟩ := s
  have sub := sub_enumerate
  obtain ⟨o, ho, _⟩ := id at_t
  wp_walk using wpAny_loadPart' ho
  refine wpAny_stack_any fun _ => (wpAny_pure ?_)
  split
  · rename_i c _ _ _ _ _
    cases (c == Value.type "enumerate") <;> (wp_walk using wpAny_loadPart' ho, wpAny_pyIter_tuple at_t; exact ⟨_, rfl, z⟩)
  · wp_walk using wpAny_loadPart' ho, wpAny_pyIter_tuple at_t
    exact ⟨_, rfl, z⟩
theorem call_enumT {prog : Program} {w : World} {A : Around} {E : Value → Shared → Prop} {s : Shared} {t : Addr} {items : Array Value} {Q : Value → Shared → Prop} (at_t : s.heap.IsTuple t items)
    (z : ∀ h', IsEnum h' (s.heap.objs.size + 1) s.heap.objs.size 0 .none → h'.IsTupleIter s.heap.objs.size t 0 → (∀ b o, s.heap.get? b = some o → h'.get? b = some o) → Q (.ref (s.heap.objs.size + 1)) { s with heap := h' }) :
    wpAny (model prog w) A (call (.type "enumerate") [.ref t]) Q E s := by
  refine callType_new PySem.F.called_enumerate (by decide) (PySem.F.typeCall_enumerate_1 _) (PySem.F.newCall_enumerate_1 _) (fun obj => PySem.F.args_object_init_2 obj _) PySem.F.entry_enumerate_new (meets_enumT t items) ⟨at_t, ?_⟩
  have size1 : (s.heap.push (tupIt t)).objs.size = s.heap.objs.size + 1 := Heap.size_push ..
  show _ ∧ _
  rw [size1]
  have en : IsEnum ((s.heap.push (tupIt t)).push (enumOf s.heap.objs.size)) (s.heap.objs.size + 1) s.heap.objs.size 0 .none := by
    have y := Heap.get?_push_size (s.heap.push (tupIt t)) (o := enumOf s.heap.objs.size) rfl
    rw [size1] at y
    exact y
  exact ⟨⟨_, en, rfl⟩, z _ en ⟨_, Heap.get?_push_of_some _ (Heap.get?_push_size _ rfl), rfl, rfl⟩ fun b o x => Heap.get?_push_of_some _ (Heap.get?_push_of_some _ x)⟩
end
section
open PyProof.Rows hiding St
def Itet (a : Addr) (xs : List V) : It := ⟨fun i H => i < xs.length ∧ H a = some (.tup xs), fun i H v H' => ∃ T x, v = .ref T ∧ H T = none ∧ H' = upd H T (.tup [.int (i : Nat), x]) ∧ xs[i]? = some x, fun i H => i = xs.length ∧ H a = some (.tup xs)⟩
theorem walk_enumTup {a : Addr} {xs : List V} : Walk (Itet a xs) xs.length (fun H => H a = some (.tup xs)) (YPair (fun i => some (.int (i : Nat))) (fun i => xs[i]?)) :=
  ⟨fun _ _ hi h => ⟨hi, h⟩, fun _ h => ⟨rfl, h⟩, fun i H v H' _ _ ⟨T, x, h1, h2, h3, h4⟩ => ⟨T, .int (i : Nat), x, h1, h2, h3, rfl, h4⟩⟩
theorem turn_enumTup {P : Program} {w : World} {K : PySem.W.Frag} {elts : List Expr} {kk : Nat} {tpos : Pos} {a e it : Addr} {xs : List V} :
    Turn P w K (.Tuple elts kk tpos) (Itet a xs) [e, it] e (fun i h => (∃ old, IsEnum h e it ((i : Nat) : Int) old) ∧ h.IsTupleIter it a i ∧ e ≠ it) where
  mem := List.mem_cons_self
  obj := fun i h st b hb => by
    obtain ⟨⟨old, en⟩, ⟨o, ho, _, dat⟩, _⟩ := st
    rcases List.mem_cons.mp hb with z | z
    · exact ⟨_, z ▸ en, fun v q => by cases q⟩
    · obtain rfl := List.mem_singleton.mp z
      exact ⟨o, ho, fun v q => by rw [dat] at q; cases q⟩
  keep := fun i h h' st k => by
    obtain ⟨⟨old, en⟩, ti, ne⟩ := st
    exact ⟨⟨old, k e List.mem_cons_self _ en⟩, ti.at fun o q => k it (List.mem_cons_of_mem _ List.mem_cons_self) o q, ne⟩
  item := by
    intro X hP hw hK calm i pins s σ H E I fp st go
    subst hP hw hK
    obtain ⟨⟨old, en⟩, ti, ne⟩ := st
    obtain ⟨lt, at_a⟩ := go
    obtain ⟨its, rv, p, _⟩ := I.tuple (SqT.of (K := X.K) at_a)
    have p : s.heap.IsTuple a its.toArray := p
    have len := rv.length
    have lte : e < s.heap.objs.size := Heap.lt_size en
    have lti : it < s.heap.objs.size := by
      obtain ⟨_, q, _⟩ := ti
      exact Heap.lt_size q
    have nea : a ≠ e := ne_of_none at_a (fp e List.mem_cons_self).1
    have nia : a ≠ it := ne_of_none at_a (fp it (List.mem_cons_of_mem _ List.mem_cons_self)).1
    have ef : e ∉ [it, a] := fun m => by
      rcases List.mem_cons.mp m with z | z
      · exact ne z
      · exact nea (List.mem_singleton.mp z).symm
    refine wpAny_pyNext_enum_itemD (Draws.tuple (A := X.A.in1) (I.ok.hd calm) it a nia its.toArray) en ⟨ti, p⟩ (by simpa [← len] using lt) ne ef fun x h' tk px out st' atT sz kk => ?_
    refine ⟨_, rfl, wpAny_letOwnedTupleGo_enum (s := { s with heap := h', toks := tk + 1 }) out fun h2 en2 but => ?_⟩
    have atT2 : h2.get? s.heap.objs.size = some { cls := .type "tuple", data := .seq #[.int i tk, x] } := (but.2 _ (Nat.ne_of_gt lte)).trans atT
    obtain ⟨y, ey⟩ : ∃ y, xs[i]? = some y := ⟨xs[i], List.getElem?_eq_getElem lt⟩
    obtain ⟨u, hu, ru⟩ := rv.get ey
    have eux : x = u := by
      have q : its.toArray[i]? = some x := px
      rw [List.getElem?_toArray, hu] at q
      exact (Option.some.inj q).symm
    subst eux
    have new : ObjOk X.prog X.w (upd H s.heap.objs.size (.tup [.int (i : Nat), y])) h2 s.heap.objs.size (.tup [.int (i : Nat), y]) := ⟨by show 2 ≤ sizeLine; decide, [.int i tk, x], .cons ⟨_, rfl⟩ (.cons ru .nil), ⟨_, atT2, rfl, _, rfl⟩⟩
    have apart : ∀ b, b ∉ [e, it] → b ≠ e ∧ b ≠ it := fun b hb => ⟨fun z => hb (by simp [z]), fun z => hb (by simp [z])⟩
    have I1 : Inv X pins σ (upd H s.heap.objs.size (.tup [.int (i : Nat), y])) { s with heap := h2, toks := tk + 1 } :=
      I.turnedNew (ch := [e, it]) (fun b ob hb q => (but.2 b (apart b hb).1).trans (kk b ob (apart b hb).1 (apart b hb).2 q)) fp (Nat.le_refl _) new
    have e1 : ((i + 1 : Nat) : Int) = (i : Int) + 1 := by omega
    refine ⟨.ref s.heap.objs.size, _, I1, rfl, ⟨_, y, rfl, I.hok.fresh (Nat.le_refl _), rfl, ey⟩, ⟨⟨x, by rw [e1]; exact en2⟩, st'.1.at fun o q => (but.2 it (Ne.symm ne)).trans q, ne⟩, fun b hb => ?_⟩
    rw [upd_ne (Nat.ne_of_lt (by
      rcases List.mem_cons.mp hb with z | z
      · rw [z]; exact lte
      · rw [List.mem_singleton.mp z]; exact lti))]
    exact (fp b hb).1
  done := by
    intro X hP hw hK calm i pins s σ H E I fp st stop
    subst hP hw hK
    obtain ⟨⟨old, en⟩, ti, ne⟩ := st
    obtain ⟨rfl, at_a⟩ := stop
    obtain ⟨its, rv, p, _⟩ := I.tuple (SqT.of (K := X.K) at_a)
    have p : s.heap.IsTuple a its.toArray := p
    have len := rv.length
    have nia : a ≠ it := ne_of_none at_a (fp it (List.mem_cons_of_mem _ List.mem_cons_self)).1
    obtain ⟨f0, f1, f2, f3, f4, f5⟩ := fp it (List.mem_cons_of_mem _ List.mem_cons_self)
    exact wpAny_pyNext_enum_endD (Draws.tuple (A := X.A.in1) (I.ok.hd calm) it a nia its.toArray) en (by
      refine ⟨?_, p⟩
      rw [List.size_toArray, ← len]
      exact ti) fun h' eb => ⟨rfl, I.turned (t' := s.toks) (fun b o hb q => eb b o hb q) f0 f1 f3 f4 f5⟩
  self := fun A i s Q E st h => by
    obtain ⟨⟨_, en⟩, _⟩ := st
    exact wpAny_pyIter_enum en h
variable {X : Cx}
/-- enumerate of a tracked list or tuple -/
def iEnumS (ta : TA) : TI := fun σ H R => ta σ H fun vs H1 => ∃ (a : Addr) (xs : List V) (o : HO), vs = [.ref a] ∧ (o = .lst xs ∨ o = .tup xs) ∧ H1 a = some o ∧
  ∀ J, Walk J xs.length (fun H => H a = some o) (YPair (fun i => some (.int (i : Nat))) (fun i => xs[i]?)) → R J H1
theorem pi_enumS {e : Expr} {ta : TA} {p pos tpos : Pos} {elts : List Expr} {kk : Nat} (hg : Gl X "enumerate") (hm : X.mg "enumerate" = none) (ha : PA X [e] ta) (hs : starEach [e] X.env = [(false, eval e X.env)] := by rfl) :
    PI X (.Tuple elts kk tpos) (.Call (.Name "enumerate" p) [e] [] pos) (iEnumS ta) := by
  refine ⟨fun pins s σ H R I w => Call_ (ld_blt I hg hm boot_enumerate (PyProof.Rows.callWith_type1 (thn (ha.run pos pins s σ H _ I w) fun us s1 hz => ?_) hs rfl))⟩
  obtain ⟨vs, H1, I1, r1, a, xs, o, rfl, ho, at_a, q⟩ := hz
  obtain ⟨u, rfl, ru⟩ := vals1 r1
  obtain rfl : u = Value.ref a := ru
  have fresh : ∀ b, b ∈ [s1.heap.objs.size + 1, s1.heap.objs.size] → FpOk X pins H1 b := fun b hb => by
    have le : s1.heap.objs.size ≤ b := by
      rcases List.mem_cons.mp hb with z | z
      · rw [z]; exact Nat.le_succ _
      · rw [List.mem_singleton.mp z]; exact Nat.le_refl _
    exact I1.fpOk le (I1.hok.fresh le)
  rcases ho with rfl | rfl
  · obtain ⟨its, rv, p', _⟩ := I1.list (SqL.of (K := X.K) at_a)
    exact call_enumerate_list p'.isList fun h' en ti _ k => wpAny_pyIter_enum en ⟨s1.heap.objs.size + 1, [s1.heap.objs.size + 1, s1.heap.objs.size], _, _, H1, rfl, I1.kept (t' := s1.toks) k, turn_enum a _ _, ⟨⟨.none, en⟩, ti, Nat.succ_ne_self _⟩, fresh, q _ (walk_enum.mono (fun H z => SqL.of z) fun _ _ _ _ _ _ y => y)⟩
  · obtain ⟨its, rv, p', _⟩ := I1.tuple (SqT.of (K := X.K) at_a)
    have p' : s1.heap.IsTuple a its.toArray := p'
    exact call_enumT p' fun h' en ti k => wpAny_pyIter_enum en ⟨s1.heap.objs.size + 1, [s1.heap.objs.size + 1, s1.heap.objs.size], _, _, H1, rfl, I1.kept (t' := s1.toks) k, turn_enumTup (a := a) (xs := xs), ⟨⟨.none, en⟩, ti, Nat.succ_ne_self _⟩, fresh, q _ walk_enumTup⟩
end
/-! ### loops whose ends are out of sight in the body -/
section
theorem hideN {Wm : L2.St → Hp → Prop} {tb : TS} {D : Ends} {σ : L2.St} {H : Hp} (h : ∀ D' : Ends, (∀ σ' H', Wm σ' H' → D'.nx σ' H') → (∀ v H', D.rt v H' → D'.rt v H') → tb D' σ H) :
    ∃ N : L2.St → Hp → Prop, (∀ σ' H', N σ' H' → Wm σ' H') ∧ tb { nx := N, rt := D.rt, bk := D.nx, ct := N } σ H := ⟨Wm, fun _ _ h => h, h _ (fun _ _ h => h) (fun _ _ h => h)⟩
theorem for_rangeD {lo : Int} {n : Nat} {g : TG} {tb : TS} {D : Ends} {σ : L2.St} {H : Hp} (Pv : Nat → L2.St → Hp → Prop) (h0 : Pv 0 σ H)
    (body : ∀ (i : Nat) (σ : L2.St) (H : Hp), i < n → Pv i σ H → ∀ D' : Ends, (∀ σ' H', Pv (i + 1) σ' H' → D'.nx σ' H') → (∀ v H', D.rt v H' → D'.rt v H') → g (.int (lo + (i : Int))) σ H fun σ2 H2 => tb D' σ2 H2)
    (fin : ∀ (σ : L2.St) (H : Hp), Pv n σ H → D.nx σ H) :
    ∃ W : Nat → Nat → L2.St → Hp → Prop, (∃ m, W 0 m σ H) ∧ ∀ (i m : Nat) (σ : L2.St) (H : Hp), W i m σ H → (Itr lo n).stop i H ∧ D.nx σ H ∨ (Itr lo n).go i H ∧ ∃ N : L2.St → Hp → Prop, (∀ (σ' : L2.St) (H' : Hp), N σ' H' → ∃ m', m' < m ∧ W (i + 1) m' σ' H') ∧
      ∀ (x : V) (H' : Hp), (Itr lo n).yld i H x H' → g x σ H' fun σ2 H2 => tb { nx := N, rt := D.rt, bk := D.nx, ct := N } σ2 H2 :=
  for_range Pv h0 (fun i σ H hi p => body i σ H hi p _ (fun _ _ h => h) (fun _ _ h => h)) fin
theorem for_itD {J : It} {n : Nat} {G : Hp → Prop} {Y : Nat → Hp → V → Hp → Prop} (wk : Walk J n G Y) {g : TG} {tb : TS} {D : Ends} {σ : L2.St} {H : Hp} (Pv : Nat → L2.St → Hp → Prop) (h0 : Pv 0 σ H) (gd : ∀ (i : Nat) (σ : L2.St) (H : Hp), i ≤ n → Pv i σ H → G H)
    (body : ∀ (i : Nat) (x : V) (σ : L2.St) (H H' : Hp), i < n → Pv i σ H → Y i H x H' → ∀ D' : Ends, (∀ σ' H', Pv (i + 1) σ' H' → D'.nx σ' H') → (∀ v H', D.rt v H' → D'.rt v H') → g x σ H' fun σ2 H2 => tb D' σ2 H2)
    (fin : ∀ (σ : L2.St) (H : Hp), Pv n σ H → D.nx σ H) :
    ∃ W : Nat → Nat → L2.St → Hp → Prop, (∃ m, W 0 m σ H) ∧ ∀ (i m : Nat) (σ : L2.St) (H : Hp), W i m σ H → J.stop i H ∧ D.nx σ H ∨ J.go i H ∧ ∃ N : L2.St → Hp → Prop, (∀ (σ' : L2.St) (H' : Hp), N σ' H' → ∃ m', m' < m ∧ W (i + 1) m' σ' H') ∧
      ∀ (x : V) (H' : Hp), J.yld i H x H' → g x σ H' fun σ2 H2 => tb { nx := N, rt := D.rt, bk := D.nx, ct := N } σ2 H2 :=
  for_it wk Pv h0 gd (fun i x σ H H' hi p y => body i x σ H H' hi p y _ (fun _ _ h => h) (fun _ _ h => h)) fin
end
structure TxtL (mg : Str → Option Value) : Prop where
  isinstance : mg "isinstance" = none
  int : mg "int" = none
  bool : mg "bool" = none
  str : mg "str" = none
  abs : mg "abs" = none
  len : mg "len" = none
  list : mg "list" = none
  tuple : mg "tuple" = none
  range : mg "range" = none
  enumerate : mg "enumerate" = none
  all : mg "all" = none
  max : mg "max" = none
  min : mg "min" = none
  sum : mg "sum" = none
  zip : mg "zip" = none
  dict : mg "dict" = none
  iter : mg "iter" = none
  repr : mg "repr" = none
abbrev Txt (K : PySem.W.Frag) (mg : Str → Option Value) (aR : Addr) : Prop := TxtL mg
section
variable {P : Program} {w : World} {K : PySem.W.Frag} {mg : Str → Option Value} {base : Heap} {aR : Addr}
abbrev s__law_pool : Stmt := top 60
theorem sc__law_pool : FnScope ["_law_script", "_law_k", "_law_cell", "_law_seed"] ["_law_script", "_law_k"] (defScope s__law_pool) := ⟨rfl, rfl, rfl, by decide +kernel, rfl, by decide +kernel, by decide +kernel⟩
def spPool (K : PySem.W.Frag) : Sp := fun vs H Q _ => ∃ (a : Addr) (ns : List Int) (k : Nat), vs = [.ref a, .int k] ∧ SqL K H a (ns.map V.int) ∧ k < 64 ∧ ∀ pp H', Same H H' → H pp = none → PoolAt H' pp → Q (.ref pp) H'
theorem seed_ok (c : Int) (k : Nat) (hk : k < 64) : Sm (7919 * (k : Int)) ∧ (c.fmod 2147483629 + 7919 * (k : Int) * (k : Int) + 31).natAbs < 2 ^ 64 := by
  have h1 := Int.fmod_nonneg_of_pos c (show (0 : Int) < 2147483629 by decide)
  have h2 := Int.fmod_lt_of_pos c (show (0 : Int) < 2147483629 by decide)
  have h3 : 0 ≤ 7919 * (k : Int) * (k : Int) := Int.mul_nonneg (by omega) (by omega)
  have h4 : 7919 * (k : Int) * (k : Int) ≤ 7919 * (k : Int) * 64 := Int.mul_le_mul_of_nonneg_left (by omega) (by omega)
  exact ⟨⟨by omega, by omega⟩, by omega⟩
theorem ok__law_pool (h : Has K mg "_law_pool" s__law_pool ["_law_script", "_law_k"]) (T : Txt K mg aR) : Ok P w K mg base 1 "_law_pool" ["_law_script", "_law_k"] (spPool K) := by
  obtain ⟨f, fd, g, b, F⟩ := h
  refine ⟨f, fd, g, F.kp, b, F.ok sc__law_pool (fun vs H Q E h => ?_) (fun cdv A outer s H vs Q E hr h => ?_)⟩
  · obtain ⟨a, ns, k, rfl, _⟩ := h
    rfl
  · obtain ⟨a, ns, k, rfl, hS, hk, q⟩ := h
    have z0 : ∀ c : Int, 0 ≤ ((c.fmod 2147483629 + 7919 * (k : Int) * (k : Int) + 31) ^ (3 : Int).toNat).fmod 2147483647 := fun c => Int.fmod_nonneg_of_pos _ (by decide)
    have z1 : ∀ c : Int, ((c.fmod 2147483629 + 7919 * (k : Int) * (k : Int) + 31) ^ (3 : Int).toNat).fmod 2147483647 < 2147483647 := fun c => Int.fmod_lt_of_pos _ (by decide)
    refine ⟨_, (pss_cons (ps_set (i := 2) sc__law_pool.nd rfl (Or.inl rfl) pe_int)
    (pss_cons (ps_if (pt_cmpR op_lt (pv 1) (pe_callB call_len_seq (by rfl) T.len (by decide +kernel) (pa_cons (pv 0) pa_nil)) (nomark _))
      (pss_one (ps_set (i := 2) sc__law_pool.nd rfl (Or.inl rfl) (pe_ix ix_list (pv 0) (pv 1) (fun _ _ => rfl))))
      pss_nil)
    (pss_cons (ps_set (i := 3) sc__law_pool.nd rfl (Or.inl rfl) (pe_op op_modN (pe_op op_pow (pe_op op_add (pe_op op_add (pe_op op_modN (pe_callTy call_int1 (by rfl) T.int (by decide +kernel) (pa_cons (pv 2) pa_nil)) pe_int) (pe_op op_mulS (pe_op op_mulS pe_int (pv 1)) (pv 1))) pe_int) pe_int) pe_int))
    (pss_cons (ps_if (pt_cmpR op_lt (pv 2) (pe_op op_pow pe_int pe_int) (nomark _))
      (pss_one (ps_set (i := 2) sc__law_pool.nd rfl (Or.inl rfl) pe_int))
      pss_nil)
    (pss_one (ps_ret (pe_lst (pa_cons (pv 2) (pa_cons (pv 3) pa_nil))))))))), ?_⟩
    refine ⟨_, rfl, _, rfl, _, _, rfl, .inl hS, _, _, rfl, rfl, _, rfl, ?_⟩
    refine ite2 (fun c1 => ?_) (fun c1 => ?_)
    · have hlt : k < ns.length := by
        have := of_decide_eq_true c1
        rw [List.length_map] at this
        omega
      refine ⟨_, rfl, _, rfl, a, _, _, .int ns[k], rfl, rfl, hS, atI_nat (by rw [List.getElem?_map, List.getElem?_eq_getElem hlt]; rfl), ?_⟩
      obtain ⟨k1, k2⟩ := seed_ok ns[k] k hk
      refine ⟨_, rfl, .inl ⟨_, rfl, _, _, rfl, rfl, n29, _, rfl, _, _, rfl, rfl, ⟨⟨by decide, by decide⟩, ⟨by omega, by omega⟩⟩, _, rfl, _, _, rfl, rfl, ⟨k1, ⟨by omega, by omega⟩⟩, _, _, rfl, rfl, _, _, rfl, rfl, _, _, rfl, rfl, ⟨by decide, by decide, k2⟩, _, _, rfl, rfl, n47, ?_⟩⟩
      refine ⟨_, rfl, _, _, rfl, rfl, ⟨by decide, by decide, by decide⟩, _, _, rfl, rfl, _, rfl, ?_⟩
      refine ite2 (fun c2 => ?_) (fun c2 => ?_)
      · refine ⟨_, rfl, _, rfl, (by show 2 ≤ sizeLine; decide), fun p hp => ?_⟩
        exact q p _ (Same.new hp) hp ⟨_, _, z0 ns[k], z1 ns[k], upd_same⟩
      · refine ⟨_, rfl, _, rfl, (by show 2 ≤ sizeLine; decide), fun p hp => ?_⟩
        exact q p _ (Same.new hp) hp ⟨_, _, z0 ns[k], z1 ns[k], upd_same⟩
    · obtain ⟨k1, k2⟩ := seed_ok 0 k hk
      refine ⟨_, rfl, .inl ⟨_, rfl, _, _, rfl, rfl, n29, _, rfl, _, _, rfl, rfl, ⟨⟨by decide, by decide⟩, ⟨by omega, by omega⟩⟩, _, rfl, _, _, rfl, rfl, ⟨k1, ⟨by omega, by omega⟩⟩, _, _, rfl, rfl, _, _, rfl, rfl, _, _, rfl, rfl, ⟨by decide, by decide, k2⟩, _, _, rfl, rfl, n47, ?_⟩⟩
      refine ⟨_, rfl, _, _, rfl, rfl, ⟨by decide, by decide, by decide⟩, _, _, rfl, rfl, _, rfl, ?_⟩
      refine ite2 (fun c2 => ?_) (fun c2 => ?_)
      · refine ⟨_, rfl, _, rfl, (by show 2 ≤ sizeLine; decide), fun p hp => ?_⟩
        exact q p _ (Same.new hp) hp ⟨_, _, z0 0, z1 0, upd_same⟩
      · refine ⟨_, rfl, _, rfl, (by show 2 ≤ sizeLine; decide), fun p hp => ?_⟩
        exact q p _ (Same.new hp) hp ⟨_, _, z0 0, z1 0, upd_same⟩
abbrev s__law_draw : Stmt := top 61
theorem sc__law_draw : FnScope ["_law_pool_here", "_law_many", "_law_digit"] ["_law_pool_here", "_law_many"] (defScope s__law_draw) := ⟨rfl, rfl, rfl, by decide +kernel, rfl, by decide +kernel, by decide +kernel⟩
def spDraw : Sp := fun vs H Q _ => ∃ (pp : Addr) (n : Int), vs = [.ref pp, .int n] ∧ 0 < n ∧ Sm n ∧ PoolAt H pp ∧ ∀ d H', 0 ≤ d → d < n → PoolAt H' pp → Keep pp H H' → Q (.int d) H'
theorem ok__law_draw (h : Has K mg "_law_draw" s__law_draw ["_law_pool_here", "_law_many"]) (T : Txt K mg aR) : Ok P w K mg base 1 "_law_draw" ["_law_pool_here", "_law_many"] spDraw := by
  obtain ⟨f, fd, g, b, F⟩ := h
  refine ⟨f, fd, g, F.kp, b, F.ok sc__law_draw (fun vs H Q E h => ?_) (fun cdv A outer s H vs Q E hr h => ?_)⟩
  · obtain ⟨pp, n, rfl, _⟩ := h
    rfl
  · obtain ⟨pp, n, rfl, hn, sn, ⟨c, z, z0, z1, hp⟩, q⟩ := h
    have hn0 : n ≠ 0 := by omega
    refine ⟨_, (pss_cons (ps_if (pt_cmpR op_gt (pe_ix ix_list (pv 0) pe_int (fun _ _ => rfl)) pe_int (nomark _))
      (pss_cons (ps_set (i := 2) sc__law_draw.nd rfl (Or.inl rfl) (pe_op op_modN (pe_callTy call_int1 (by rfl) T.int (by decide +kernel) (pa_cons (pe_ix ix_list (pv 0) pe_int (fun _ _ => rfl)) pa_nil)) (pv 1)))
      (pss_cons (ps_asg (pe_op op_divS (pe_ix ix_list (pv 0) pe_int (fun _ _ => rfl)) (pv 1)) (pg_sub (pv 0) pe_int set_list))
      (pss_one (ps_ret (pv 2)))))
      pss_nil)
    (pss_cons (ps_asg (pe_op op_modN (pe_callTy call_int1 (by rfl) T.int (by decide +kernel) (pa_cons (pe_op op_add (pe_op op_mulS (pe_ix ix_list (pv 0) pe_int (fun _ _ => rfl)) pe_int) pe_int) pa_nil)) pe_int) (pg_sub (pv 0) pe_int set_list))
    (pss_one (ps_ret (pe_op op_modN (pe_op op_divS (pe_op op_modN (pe_callTy call_int1 (by rfl) T.int (by decide +kernel) (pa_cons (pe_op op_mulS (pe_ix ix_list (pv 0) pe_int (fun _ _ => rfl)) (pe_ix ix_list (pv 0) pe_int (fun _ _ => rfl))) pa_nil)) pe_int) pe_int) (pv 1)))))), ?_⟩
    refine ⟨_, rfl, pp, _, _, _, rfl, rfl, SqL.of hp, atI0, _, _, rfl, rfl, _, rfl, ?_⟩
    refine ite2 (fun c1 => ?_) (fun c1 => ?_)
    · refine ⟨_, rfl, pp, _, _, _, rfl, rfl, SqL.of hp, atI0, .inl ⟨_, rfl, _, rfl, _, _, rfl, rfl, hn0, ?_⟩⟩
      refine ⟨_, rfl, pp, _, _, _, rfl, rfl, SqL.of hp, atI0, _, rfl, _, _, rfl, rfl, ⟨hn0, sn⟩, _, rfl, pp, _, _, 0, rfl, rfl, hp, rfl, ?_⟩
      refine ⟨_, rfl, ?_⟩
      exact q _ _ (Int.fmod_nonneg_of_pos _ hn) (Int.fmod_lt_of_pos _ hn) ⟨_, z, z0, z1, upd_same⟩ fun b o e nb => by
        rw [upd_ne nb]
        exact e
    · have s0 : 0 ≤ (z * 48271 + 11).fmod 2147483647 := Int.fmod_nonneg_of_pos _ (by decide)
      have s1 : (z * 48271 + 11).fmod 2147483647 < 2147483647 := Int.fmod_lt_of_pos _ (by decide)
      refine ⟨_, rfl, pp, _, _, _, rfl, rfl, SqL.of hp, atI1, _, _, rfl, rfl, ⟨⟨by omega, by omega⟩, ⟨by decide, by decide⟩⟩, _, _, rfl, rfl, .inl ⟨_, rfl, _, _, rfl, rfl, n47, _, rfl, pp, _, _, 1, rfl, rfl, hp, rfl, ?_⟩⟩
      have e2 : (upd H pp (.lst ([V.int c, V.int z].set 1 (.int ((z * 48271 + 11).fmod 2147483647))))) pp = some (.lst [V.int c, V.int ((z * 48271 + 11).fmod 2147483647)]) := upd_same
      refine ⟨_, rfl, pp, _, _, _, rfl, rfl, SqL.of e2, atI1, _, rfl, pp, _, _, _, rfl, rfl, SqL.of e2, atI1, _, _, rfl, rfl, ⟨⟨by omega, by omega⟩, ⟨by omega, by omega⟩⟩, .inl ⟨_, rfl, _, _, rfl, rfl, n29, _, _, rfl, rfl, ⟨by decide, ⟨by decide, by decide⟩⟩, _, rfl, _, _, rfl, rfl, hn0, ?_⟩⟩
      exact q _ _ (Int.fmod_nonneg_of_pos _ hn) (Int.fmod_lt_of_pos _ hn) ⟨_, _, s0, s1, e2⟩ fun b o e nb => by
        rw [upd_ne nb]
        exact e
abbrev s__law_choose : Stmt := top 62
theorem sc__law_choose : FnScope ["_law_pool_here", "_law_items"] ["_law_pool_here", "_law_items"] (defScope s__law_choose) := ⟨rfl, rfl, rfl, by decide +kernel, rfl, by decide +kernel, by decide +kernel⟩
def spChoose (K : PySem.W.Frag) : Sp := fun vs H Q _ => ∃ (pp l : Addr) (xs : List V), vs = [.ref pp, .ref l] ∧ SqL K H l xs ∧ l ≠ pp ∧ 0 < xs.length ∧ xs.length < 1000000 ∧ PoolAt H pp ∧ ∀ v H', v ∈ xs → PoolAt H' pp → Keep pp H H' → Q v H'
theorem ok__law_choose (h : Has K mg "_law_choose" s__law_choose ["_law_pool_here", "_law_items"]) (T : Txt K mg aR) (O__law_draw : Ok P w K mg base 1 "_law_draw" ["_law_pool_here", "_law_many"] spDraw) : Ok P w K mg base 2 "_law_choose" ["_law_pool_here", "_law_items"] (spChoose K) := by
  obtain ⟨f, fd, g, b, F⟩ := h
  refine ⟨f, fd, g, F.kp, b, F.ok sc__law_choose (fun vs H Q E h => ?_) (fun cdv A outer s H vs Q E hr h => ?_)⟩
  · obtain ⟨pp, l, xs, rfl, _⟩ := h
    rfl
  · obtain ⟨pp, l, xs, rfl, hS, hne, hl0, hl1, hP, q⟩ := h
    refine ⟨_, (pss_one (ps_ret (pe_ix ix_list (pv 1) (pe_cO O__law_draw (hr.mono (by decide)) pass0 rfl (pa_cons (pv 0) (pa_cons (pe_callB call_len_seq (by rfl) T.len (by decide +kernel) (pa_cons (pv 1) pa_nil)) pa_nil))) (fun _ _ => rfl)))), ?_⟩
    refine ⟨_, rfl, _, rfl, _, rfl, l, xs, rfl, .inl hS, pp, _, rfl, by omega, ⟨by omega, by omega⟩, hP, fun d H' d0 d1 P' k' => ?_⟩
    have hj : d.toNat < xs.length := by omega
    refine ⟨l, xs, d, xs[d.toNat], rfl, rfl, k'.seq hne hS, ?_, q _ H' (List.getElem_mem hj) P' k'⟩
    exact at_of (j := d.toNat) (by omega) (List.getElem?_eq_getElem hj)
end
/-! ### the checks of programs: what they answer of any data -/
def five : List Str := ["down", "up", "zero", "positive", "near"]
def abc : Str := "abcdefghijklmnopqrstuvwxyz"
/-- what the text's top has of the checks' constants -/
structure PTx (K : PySem.W.Frag) (mg : Str → Option Value) (aR : Addr) : Prop where
  T : TxtL mg
  gRULES : mg "RULES" = some (.ref aR)
  tRULES : ∀ H, SqT K H aR (five.map V.str)
  large : ∃ t, mg "LARGEST" = some (.int 1000000 t)
  letters : ∃ t, mg "LETTERS" = some (.str abc t)
/-- data of bounded size, n deep -/
def Sz : Nat → PyData → Prop
  | 0, d => (itemsD d).length ≤ 1000 ∧ ∀ s, d = .str s → s.length ≤ 1000
  | n + 1, d => (itemsD d).length ≤ 1000 ∧ (∀ s, d = .str s → s.length ≤ 1000) ∧ ∀ x ∈ itemsD d, Sz n x
def betw (d : PyData) (lo hi : Int) : Bool := match d with | .int i => decide (lo ≤ i) && decide (i ≤ hi) | _ => false
def ruleD (d : PyData) : Bool := match d with | .str s => inV (.str s) (five.map V.str) | _ => false
def baseD (d : PyData) : Bool := match d with | .int i => betw d (-10) 10 && decide (2 ≤ i.natAbs) | _ => false
def remD (d : PyData) (n : Int) : Bool := betw d (1 - n) (n - 1)
def inAbc (c : Nat) : Bool := !(Builtin.Str.occurrences abc ⟨#[c]⟩ 0 abc.length 1).isEmpty
def nameD (d : PyData) : Bool := match d with | .str s => decide (1 ≤ s.length) && (decide (s.length ≤ 8) && s.cps.toList.all inAbc) | _ => false
def isTup (d : PyData) : Bool := tyD d == "tuple"
def listD (d : PyData) (lo hi : Int) : Bool := isSeq d && (decide (lo ≤ ((itemsD d).length : Int)) && decide (((itemsD d).length : Int) ≤ hi))
def factD (d : PyData) (n : Int) : Bool := isTup d && (decide (((itemsD d).length : Int) = n) && (itemsD d).all fun x => betw x (-1000000) 1000000)
section
variable {P : Program} {w : World} {K : PySem.W.Frag} {mg : Str → Option Value} {base : Heap} {aR : Addr}
def spIsInt : Sp := fun vs H Q _ => ∃ v d, vs = [v] ∧ Dt Z0 H v d ∧ Q (.bl (isInt d)) H
abbrev s_is_integer : Stmt := top 19
abbrev N_is_integer : List Str := ["value"]
theorem sc_is_integer : FnScope N_is_integer ["value"] (defScope s_is_integer) := ⟨rfl, rfl, rfl, by decide +kernel, rfl, by decide +kernel, by decide +kernel⟩
theorem ok_is_integer (h : Has K mg "is_integer" s_is_integer ["value"]) (PT : PTx K mg aR) : Ok P w K mg base 1 "is_integer" ["value"] spIsInt := by
  obtain ⟨f, fd, g, b, F⟩ := h
  have T := PT.T
  refine ⟨f, fd, g, F.kp, b, F.ok sc_is_integer (fun vs H Q E h => ?_) (fun cdv A outer s H vs Q E hr h => ?_)⟩
  · obtain ⟨v, d, rfl, _⟩ := h
    rfl
  · obtain ⟨v, d, rfl, h1, q⟩ := h
    refine ⟨_, (pss_one (ps_ret (pe_and (pe_callB call_isi (by rfl) T.isinstance bb_isinstance (pa_cons (pv 0) (pa_cons (pe_bltn (v := .ty "int") (by rfl) T.int bb_int rfl) pa_nil))) (pe_one (pe_not (pe_callB call_isi (by rfl) T.isinstance bb_isinstance (pa_cons (pv 0) (pa_cons (pe_bltn (v := .ty "bool") (by rfl) T.bool bb_bool rfl) pa_nil)))))))), ?_⟩
    refine ⟨_, rfl, _, _, _, _, _, rfl, .ty _, h1.ty, h1.kInt, _, rfl, ?_⟩
    cases e : isInt d || (tyD d == "bool") with
    | false =>
      refine iteF ?_
      rw [show isInt d = false from (Bool.or_eq_false_iff.mp e).1] at q
      exact q
    | true =>
      refine iteT ?_
      refine ⟨_, rfl, _, _, _, _, _, rfl, .ty _, h1.ty, h1.kBool, _, rfl, ?_⟩
      rw [show (!(tyD d == "bool")) = isInt d by cases h1 <;> first | rfl | (simp [tyD, isInt] at e; done)]
      exact q
def spBetw : Sp := fun vs H Q _ => ∃ v d lo hi, vs = [v, .int lo, .int hi] ∧ Dt Z0 H v d ∧ Q (.bl (betw d lo hi)) H
abbrev s_is_between : Stmt := top 20
abbrev N_is_between : List Str := ["value", "low", "high"]
theorem sc_is_between : FnScope N_is_between ["value", "low", "high"] (defScope s_is_between) := ⟨rfl, rfl, rfl, by decide +kernel, rfl, by decide +kernel, by decide +kernel⟩
theorem ok_is_between (h : Has K mg "is_between" s_is_between ["value", "low", "high"]) (O_is_integer : Ok P w K mg base 1 "is_integer" ["value"] spIsInt) : Ok P w K mg base 2 "is_between" ["value", "low", "high"] spBetw := by
  obtain ⟨f, fd, g, b, F⟩ := h
  refine ⟨f, fd, g, F.kp, b, F.ok sc_is_between (fun vs H Q E h => ?_) (fun cdv A outer s H vs Q E hr h => ?_)⟩
  · obtain ⟨v, d, lo, hi, rfl, _⟩ := h
    rfl
  · obtain ⟨v, d, lo, hi, rfl, h1, q⟩ := h
    refine ⟨_, (pss_one (ps_ret (pe_and (pe_cO O_is_integer (hr.mono (by decide)) pass0 rfl (pa_cons (pv 0) pa_nil)) (pe_one (pe_chain op_le op_le (pv 1) (pv 0) (pv 2)))))), ?_⟩
    refine ⟨_, rfl, v, d, rfl, h1, _, rfl, ?_⟩
    cases h1 with
    | int i =>
      refine iteT ?_
      refine ⟨_, rfl, _, rfl, _, _, rfl, rfl, _, rfl, ?_⟩
      by_cases e : lo ≤ i
      · refine iteP (decide_eq_true e) ?_
        refine ⟨_, rfl, _, _, rfl, rfl, ?_⟩
        rw [show betw (.int i) lo hi = decide (i ≤ hi) by show (decide _ && decide _) = _; rw [decide_eq_true e, Bool.true_and]] at q
        exact q
      · refine iteN (by rw [decide_eq_false e]; decide) ?_
        rw [show betw (.int i) lo hi = false by show (decide _ && decide _) = _; rw [decide_eq_false e, Bool.false_and]] at q
        exact q
    | _ => exact iteF q
def spRuleD : Sp := fun vs H Q _ => ∃ v d, vs = [v] ∧ Dt Z0 H v d ∧ Q (.bl (ruleD d)) H
abbrev s_is_rule : Stmt := top 21
abbrev N_is_rule : List Str := ["value"]
theorem sc_is_rule : FnScope N_is_rule ["value"] (defScope s_is_rule) := ⟨rfl, rfl, rfl, by decide +kernel, rfl, by decide +kernel, by decide +kernel⟩
theorem ok_is_rule (h : Has K mg "is_rule" s_is_rule ["value"]) (PT : PTx K mg aR) : Ok P w K mg base 1 "is_rule" ["value"] spRuleD := by
  obtain ⟨f, fd, g, b, F⟩ := h
  have T := PT.T
  refine ⟨f, fd, g, F.kp, b, F.ok sc_is_rule (fun vs H Q E h => ?_) (fun cdv A outer s H vs Q E hr h => ?_)⟩
  · obtain ⟨v, d, rfl, _⟩ := h
    rfl
  · obtain ⟨v, d, rfl, h1, q⟩ := h
    refine ⟨_, (pss_one (ps_ret (pe_and (pe_callB call_isi (by rfl) T.isinstance bb_isinstance (pa_cons (pv 0) (pa_cons (pe_bltn (v := .ty "str") (by rfl) T.str bb_str rfl) pa_nil))) (pe_one (pe_cmpR op_in_seq (pv 0) (pe_glob (v := .ref aR) (by rfl) PT.gRULES rfl) (by rfl)))))), ?_⟩
    refine ⟨_, rfl, _, _, _, _, _, rfl, .ty _, h1.ty, h1.kStr, _, rfl, ?_⟩
    cases h1 with
    | str x =>
      refine iteT ?_
      exact ⟨_, rfl, _, _, rfl, .inr (PT.tRULES _), rfl, rfl, q⟩
    | _ => exact iteF q
def spBaseD : Sp := fun vs H Q _ => ∃ v d, vs = [v] ∧ Dt Z0 H v d ∧ Q (.bl (baseD d)) H
abbrev s_is_base : Stmt := top 23
abbrev N_is_base : List Str := ["value"]
theorem sc_is_base : FnScope N_is_base ["value"] (defScope s_is_base) := ⟨rfl, rfl, rfl, by decide +kernel, rfl, by decide +kernel, by decide +kernel⟩
theorem ok_is_base (h : Has K mg "is_base" s_is_base ["value"]) (PT : PTx K mg aR) (O_is_between : Ok P w K mg base 2 "is_between" ["value", "low", "high"] spBetw) : Ok P w K mg base 3 "is_base" ["value"] spBaseD := by
  obtain ⟨f, fd, g, b, F⟩ := h
  have T := PT.T
  refine ⟨f, fd, g, F.kp, b, F.ok sc_is_base (fun vs H Q E h => ?_) (fun cdv A outer s H vs Q E hr h => ?_)⟩
  · obtain ⟨v, d, rfl, _⟩ := h
    rfl
  · obtain ⟨v, d, rfl, h1, q⟩ := h
    refine ⟨_, (pss_one (ps_ret (pe_and (pe_cO O_is_between (hr.mono (by decide)) pass0 rfl (pa_cons (pv 0) (pa_cons (pe_un un_neg pe_int) (pa_cons pe_int pa_nil)))) (pe_one (pe_cmpR op_ge (pe_callB call_abs (by rfl) T.abs bb_abs (pa_cons (pv 0) pa_nil)) pe_int (nomark _)))))), ?_⟩
    refine ⟨_, rfl, _, rfl, v, d, _, _, rfl, h1, _, rfl, ?_⟩
    cases e : betw d (-10) 10 with
    | false =>
      refine iteF ?_
      rw [show baseD d = false by cases d <;> first | rfl | (show (betw _ _ _ && _) = false; rw [e]; rfl)] at q
      exact q
    | true =>
      refine iteT ?_
      cases h1 with
      | int i =>
        refine ⟨_, rfl, _, rfl, _, _, rfl, rfl, ?_⟩
        rw [show baseD (.int i) = decide ((2 : Int) ≤ (if i < 0 then -i else i)) by
          show (betw _ _ _ && decide (2 ≤ i.natAbs)) = _
          rw [e, Bool.true_and]
          exact decide_eq_decide.mpr (by split <;> omega)] at q
        exact q
      | _ => cases e
def spRemD : Sp := fun vs H Q _ => ∃ v d n, vs = [v, .int n] ∧ Dt Z0 H v d ∧ Q (.bl (remD d n)) H
abbrev s_is_remainder : Stmt := top 24
abbrev N_is_remainder : List Str := ["value", "size"]
theorem sc_is_remainder : FnScope N_is_remainder ["value", "size"] (defScope s_is_remainder) := ⟨rfl, rfl, rfl, by decide +kernel, rfl, by decide +kernel, by decide +kernel⟩
theorem ok_is_remainder (h : Has K mg "is_remainder" s_is_remainder ["value", "size"]) (O_is_between : Ok P w K mg base 2 "is_between" ["value", "low", "high"] spBetw) : Ok P w K mg base 3 "is_remainder" ["value", "size"] spRemD := by
  obtain ⟨f, fd, g, b, F⟩ := h
  refine ⟨f, fd, g, F.kp, b, F.ok sc_is_remainder (fun vs H Q E h => ?_) (fun cdv A outer s H vs Q E hr h => ?_)⟩
  · obtain ⟨v, d, n, rfl, _⟩ := h
    rfl
  · obtain ⟨v, d, n, rfl, h1, q⟩ := h
    refine ⟨_, (pss_one (ps_ret (pe_cO O_is_between (hr.mono (by decide)) pass0 rfl (pa_cons (pv 0) (pa_cons (pe_op op_sub pe_int (pv 1)) (pa_cons (pe_op op_sub (pv 1) pe_int) pa_nil)))))), ?_⟩
    exact ⟨_, rfl, _, rfl, _, _, rfl, rfl, _, rfl, _, _, rfl, rfl, v, d, _, _, rfl, h1, q⟩
def spNameD : Sp := fun vs H Q _ => ∃ v d, vs = [v] ∧ Dt Z0 H v d ∧ Sz 0 d ∧ ∀ H', Same H H' → Q (.bl (nameD d)) H'
abbrev s_is_name : Stmt := top 25
abbrev N_is_name : List Str := ["value", "letter"]
theorem sc_is_name : FnScope N_is_name ["value"] (defScope s_is_name) := ⟨rfl, rfl, rfl, by decide +kernel, rfl, by decide +kernel, by decide +kernel⟩
theorem ok_is_name (h : Has K mg "is_name" s_is_name ["value"]) (PT : PTx K mg aR) : Ok P w K mg base 1 "is_name" ["value"] spNameD := by
  obtain ⟨f, fd, g, b, F⟩ := h
  have T := PT.T
  obtain ⟨tL, gL⟩ := PT.letters
  refine ⟨f, fd, g, F.kp, b, F.ok sc_is_name (fun vs H Q E h => ?_) (fun cdv A outer s H vs Q E hr h => ?_)⟩
  · obtain ⟨v, d, rfl, _⟩ := h
    rfl
  · obtain ⟨v, d, rfl, h1, sz, q⟩ := h
    refine ⟨_, (pss_cons (ps_if (pt_not (pt_val (pe_callB call_isi (by rfl) T.isinstance bb_isinstance (pa_cons (pv 0) (pa_cons (pe_bltn (v := .ty "str") (by rfl) T.str bb_str rfl) pa_nil)))))
        (pss_one (ps_ret pe_bl))
        pss_nil)
      (pss_one (ps_ret (pe_and (pe_chain op_le op_le pe_int (pe_callB call_len_str (by rfl) T.len bb_len (pa_cons (pv 0) pa_nil)) pe_int) (pe_one (pe_callB (allT rfl) (by rfl) T.all bb_all (pa_cons (pe_lc (own := [("letter", 1)]) (g := (gName 1)) (tt := tYes) rfl sc_is_name.nd (pi_str (pv 0)) (blkOk_by (N := N_is_name) (sc := defScope s_is_name) (by decide +kernel)) (fun _ _ _ _ _ => (pg_name (i := 1) sc_is_name.nd rfl (by first | exact Or.inl rfl | exact Or.inr rfl))) (fun _ _ _ _ _ => pts_nil) (fun _ _ _ _ _ => (pe_cmpR op_in_str (pv 1) (pe_glob (v := .str abc) (by rfl) gL ⟨tL, rfl⟩) (by rfl)))) pa_nil))))))), ?_⟩
    refine ⟨_, rfl, _, _, _, _, _, rfl, .ty _, h1.ty, h1.kStr, _, rfl, ?_⟩
    cases h1 with
    | str x =>
      have few := sz.2 x rfl
      refine iteN (fun h => nomatch h) ?_
      refine ⟨_, rfl, x, rfl, Nat.le_trans few (by decide), _, _, rfl, rfl, _, rfl, ?_⟩
      have e : nameD (.str x) = (decide (1 ≤ x.length) && (decide (x.length ≤ 8) && x.cps.toList.all inAbc)) := rfl
      rw [e] at q
      by_cases c1 : 1 ≤ x.length
      · rw [decide_eq_true c1, Bool.true_and] at q
        refine iteP (decide_eq_true (by omega)) ?_
        by_cases c2 : x.length ≤ 8
        · rw [decide_eq_true c2, Bool.true_and] at q
          refine ⟨_, _, rfl, rfl, _, rfl, iteP (decide_eq_true (by omega)) ?_⟩
          refine ⟨_, rfl, x, rfl, fun D hD => ?_⟩
          refine lc_vals walk_str Z0 (fun _ => True) (x.cps.toList.map fun c => V.bl (inAbc c)) (by simp) hD id True.intro (fun _ _ _ _ => True.intro) (Nat.lt_of_le_of_lt (show x.cps.size ≤ 8 from c2) (by decide)) (fun _ _ => True.intro) ?_ ?_
          · intro i y k H2 H3 Qk ek f _ _ yl z
            obtain ⟨rfl, c, hc, rfl⟩ := yl
            rw [List.getElem?_map, Array.getElem?_toList, hc] at ek
            cases ek
            exact ⟨rfl, _, rfl, _, _, rfl, rfl, z _ Fm.refl True.intro⟩
          · intro H4 f _ hD4
            refine ⟨D, x.cps.toList.map inAbc, rfl, by rw [hD4, List.map_map]; rfl, ?_⟩
            rw [List.all_map]
            exact q H4 f.same
        · rw [decide_eq_false c2, Bool.false_and] at q
          refine ⟨_, _, rfl, rfl, _, rfl, iteN (by rw [decide_eq_false (show ¬ (x.length : Int) ≤ 8 by omega)]; decide) ?_⟩
          exact q _ (Same.refl _)
      · rw [decide_eq_false c1, Bool.false_and] at q
        refine iteN (by rw [decide_eq_false (show ¬ (1 : Int) ≤ (x.length : Int) by omega)]; decide) ?_
        exact ⟨_, rfl, iteF (q _ (Same.refl _))⟩
    | _ => exact iteP rfl (q _ (Same.refl _))
def spListD : Sp := fun vs H Q _ => ∃ v d lo hi, vs = [v, .int lo, .int hi] ∧ Dt Z0 H v d ∧ ∀ H', Same H H' → Q (.bl (listD d lo hi)) H'
abbrev s_is_listing : Stmt := top 26
abbrev N_is_listing : List Str := ["value", "least", "most"]
theorem sc_is_listing : FnScope N_is_listing ["value", "least", "most"] (defScope s_is_listing) := ⟨rfl, rfl, rfl, by decide +kernel, rfl, by decide +kernel, by decide +kernel⟩
theorem ok_is_listing (h : Has K mg "is_listing" s_is_listing ["value", "least", "most"]) (PT : PTx K mg aR) : Ok P w K mg base 1 "is_listing" ["value", "least", "most"] spListD := by
  obtain ⟨f, fd, g, b, F⟩ := h
  have T := PT.T
  refine ⟨f, fd, g, F.kp, b, F.ok sc_is_listing (fun vs H Q E h => ?_) (fun cdv A outer s H vs Q E hr h => ?_)⟩
  · obtain ⟨v, d, lo, hi, rfl, _⟩ := h
    rfl
  · obtain ⟨v, d, lo, hi, rfl, hd, q⟩ := h
    refine ⟨_, (pss_one (ps_ret (pe_and (pe_callB call_isiT (by rfl) T.isinstance bb_isinstance (pa_cons (pv 0) (pa_cons (pe_tup (pa_cons (pe_bltn (v := .ty "list") (by rfl) T.list bb_list rfl) (pa_cons (pe_bltn (v := .ty "tuple") (by rfl) T.tuple bb_tuple rfl) pa_nil))) pa_nil))) (pe_one (pe_chain op_le op_le (pv 1) (pe_callB lenT (by rfl) T.len bb_len (pa_cons (pv 0) pa_nil)) (pv 2)))))), ?_⟩
    refine ⟨_, rfl, (by show 2 ≤ sizeLine; decide), fun t ht => ?_⟩
    have s1 : Same H (upd H t (.tup [.ty "list", .ty "tuple"])) := Same.new ht
    have d1 := hd.fr (Fm.of s1)
    refine ⟨_, _, _, _, _, _, rfl, upd_same, pairedLT, d1.ty, d1.kSeq, _, rfl, ?_⟩
    generalize upd H t (.tup [.ty "list", .ty "tuple"]) = H1 at s1 d1 ⊢
    have q := q H1 s1
    unfold listD at q
    cases e : isSeq d with
    | false =>
      refine iteF ?_
      rw [e] at q
      exact q
    | true =>
      refine iteT ?_
      obtain ⟨a, xs, rfl, dx, ha, _⟩ := d1.seq e
      have hl := dx.len
      rw [e, Bool.true_and] at q
      refine ⟨_, rfl, _, rfl, a, xs, rfl, ha, _, _, rfl, rfl, _, rfl, ?_⟩
      rw [hl]
      by_cases c1 : lo ≤ ((itemsD d).length : Int)
      · refine iteP (decide_eq_true c1) ?_
        rw [decide_eq_true c1, Bool.true_and] at q
        exact ⟨_, rfl, _, _, rfl, rfl, q⟩
      · refine iteN (by rw [decide_eq_false c1]; decide) ?_
        rw [decide_eq_false c1, Bool.false_and] at q
        exact q
def spFactD : Sp := fun vs H Q _ => ∃ v d n, vs = [v, .int n] ∧ Dt Z0 H v d ∧ (itemsD d).length ≤ 1000 ∧ ∀ H', Same H H' → Q (.bl (factD d n)) H'
abbrev s_is_factors : Stmt := top 27
abbrev N_is_factors : List Str := ["value", "many", "factor"]
theorem sc_is_factors : FnScope N_is_factors ["value", "many"] (defScope s_is_factors) := ⟨rfl, rfl, rfl, by decide +kernel, rfl, by decide +kernel, by decide +kernel⟩
theorem Dt.tupOf {v : V} {d : PyData} {Z : Addr → Prop} {H : Hp} (h : Dt Z H v d) (s : isTup d = true) : ∃ a xs, v = .ref a ∧ DtAll Z H xs (itemsD d) ∧ H a = some (.tup xs) ∧ ¬ Z a ∧ d = .tuple (itemsD d) := by
  cases h <;> first | (simp [isTup, tyD] at s; done) | exact ⟨_, _, rfl, by assumption, by assumption, by assumption, rfl⟩
theorem ok_is_factors (h : Has K mg "is_factors" s_is_factors ["value", "many"]) (PT : PTx K mg aR) (O_is_between : Ok P w K mg base 2 "is_between" ["value", "low", "high"] spBetw) : Ok P w K mg base 3 "is_factors" ["value", "many"] spFactD := by
  obtain ⟨f, fd, g, b, F⟩ := h
  have T := PT.T
  obtain ⟨tL, gL⟩ := PT.large
  refine ⟨f, fd, g, F.kp, b, F.ok sc_is_factors (fun vs H Q E h => ?_) (fun cdv A outer s H vs Q E hr h => ?_)⟩
  · obtain ⟨v, d, n, rfl, _⟩ := h
    rfl
  · obtain ⟨v, d, n, rfl, hd, few, q⟩ := h
    refine ⟨_, (pss_cons (ps_if (pt_not (PW.pt (pw_and (pt_val (pe_callB call_isi (by rfl) T.isinstance bb_isinstance (pa_cons (pv 0) (pa_cons (pe_bltn (v := .ty "tuple") (by rfl) T.tuple bb_tuple rfl) pa_nil)))) (pw_and1 (pt_cmpR op_eq (pe_callB lenT (by rfl) T.len bb_len (pa_cons (pv 0) pa_nil)) (pv 1) (nomark _))))))
        (pss_one (ps_ret pe_bl))
        pss_nil)
      (pss_one (ps_ret (pe_callB (allT rfl) (by rfl) T.all bb_all (pa_cons (pe_lc (own := [("factor", 2)]) (g := (gName 2)) (tt := tYes) rfl sc_is_factors.nd (pi_seq (pv 0)) (blkOk_by (N := N_is_factors) (sc := defScope s_is_factors) (by decide +kernel)) (fun _ _ _ _ _ => (pg_name (i := 2) sc_is_factors.nd rfl (by first | exact Or.inl rfl | exact Or.inr rfl))) (fun _ _ _ _ _ => pts_nil) (fun _ _ _ _ _ => (pe_cO O_is_between (hr.mono (by decide)) pass0 rfl (pa_cons (pv 2) (pa_cons (pe_un un_neg (pe_glob (v := .int 1000000) (by rfl) gL ⟨tL, rfl⟩)) (pa_cons (pe_glob (v := .int 1000000) (by rfl) gL ⟨tL, rfl⟩) pa_nil)))))) pa_nil))))), ?_⟩
    refine ⟨_, rfl, _, _, _, _, _, rfl, .ty _, hd.ty, hd.kTup, _, rfl, ?_⟩
    unfold factD at q
    cases e : isTup d with
    | false =>
      rw [e] at q
      have e2 : (tyD d == "tuple") = false := e
      rw [e2]
      exact iteF (iteP rfl (q _ (Same.refl _)))
    | true =>
      rw [e, Bool.true_and] at q
      have e2 : (tyD d == "tuple") = true := e
      rw [e2]
      refine iteT ?_
      obtain ⟨a, xs, rfl, dx, ha, _, _⟩ := hd.tupOf e
      have hl := dx.len
      refine ⟨_, rfl, a, xs, rfl, .inr ha, _, rfl, rfl, _, rfl, ?_⟩
      rw [hl]
      by_cases hn : ((itemsD d).length : Int) = n
      · rw [decide_eq_true hn, Bool.true_and] at q
        refine iteN (by rw [veq hn]; decide) ?_
        refine ⟨_, rfl, a, xs, .tup xs, rfl, .inr rfl, ha, fun J wk D hD => ?_⟩
        refine lc_vals wk Z0 (fun _ => True) ((itemsD d).map fun d => V.bl (betw d (-1000000) 1000000)) (by simp [hl]) hD id True.intro (fun _ _ _ _ => True.intro) (by rw [hl]; exact Nat.lt_of_le_of_lt few (by decide)) (fun H f => f _ _ ha id) ?_ ?_
        · intro i x k H2 H3 Qk ek f _ _ y z
          obtain ⟨rfl, ex⟩ := y
          rw [List.getElem?_map] at ek
          obtain ⟨di, e1, rfl⟩ := Option.map_eq_some_iff.mp ek
          obtain ⟨d', e2, dt⟩ := dx.get ex
          rw [e1] at e2
          cases e2
          exact ⟨rfl, _, rfl, _, rfl, _, _, _, _, rfl, dt.fr f, z _ Fm.refl True.intro⟩
        · intro H4 f _ hD4
          refine ⟨D, (itemsD d).map fun x => betw x (-1000000) 1000000, rfl, by rw [hD4, List.map_map]; rfl, ?_⟩
          rw [List.all_map]
          exact q H4 f.same
      · rw [decide_eq_false hn, Bool.false_and] at q
        refine iteP ?_ (q _ (Same.refl _))
        rw [Bool.eq_false_iff.mpr (vne hn)]
        rfl
def itD (d : PyData) (i : Nat) : PyData := (itemsD d).getD i .none
def regD (d : PyData) : Bool := isTup d && (decide ((itemsD d).length = 2) && (nameD (itD d 0) && factD (.tuple [itD d 1]) 1))
theorem two_dt {Z : Addr → Prop} {H : Hp} {xs : List V} {ds : List PyData} (h : DtAll Z H xs ds) (l : ds.length = 2) : ∃ x y d e, xs = [x, y] ∧ ds = [d, e] ∧ Dt Z H x d ∧ Dt Z H y e := by
  cases h with
  | nil => cases l
  | cons h1 t =>
    cases t with
    | nil => cases l
    | cons h2 t =>
      cases t with
      | nil => exact ⟨_, _, _, _, rfl, rfl, h1, h2⟩
      | cons h3 t => simp at l
theorem three_dt {Z : Addr → Prop} {H : Hp} {xs : List V} {ds : List PyData} (h : DtAll Z H xs ds) (l : ds.length = 3) : ∃ x y z d e f, xs = [x, y, z] ∧ ds = [d, e, f] ∧ Dt Z H x d ∧ Dt Z H y e ∧ Dt Z H z f := by
  cases h with
  | nil => cases l
  | cons h1 t =>
    obtain ⟨x, y, d, e, rfl, rfl, h2, h3⟩ := two_dt t (by simpa using l)
    exact ⟨_, _, _, _, _, _, rfl, rfl, h1, h2, h3⟩
theorem four_dt {Z : Addr → Prop} {H : Hp} {xs : List V} {ds : List PyData} (h : DtAll Z H xs ds) (l : ds.length = 4) : ∃ x y z u d e f g, xs = [x, y, z, u] ∧ ds = [d, e, f, g] ∧ Dt Z H x d ∧ Dt Z H y e ∧ Dt Z H z f ∧ Dt Z H u g := by
  cases h with
  | nil => cases l
  | cons h1 t =>
    obtain ⟨x, y, z, d, e, f, rfl, rfl, h2, h3, h4⟩ := three_dt t (by simpa using l)
    exact ⟨_, _, _, _, _, _, _, _, rfl, rfl, h1, h2, h3, h4⟩
def spRegD : Sp := fun vs H Q _ => ∃ v d, vs = [v] ∧ Dt Z0 H v d ∧ Sz 1 d ∧ ∀ H', Same H H' → Q (.bl (regD d)) H'
abbrev s_is_register : Stmt := top 28
abbrev N_is_register : List Str := ["value"]
theorem sc_is_register : FnScope N_is_register ["value"] (defScope s_is_register) := ⟨rfl, rfl, rfl, by decide +kernel, rfl, by decide +kernel, by decide +kernel⟩
theorem ok_is_register (h : Has K mg "is_register" s_is_register ["value"]) (PT : PTx K mg aR) (O_is_name : Ok P w K mg base 1 "is_name" ["value"] spNameD) (O_is_factors : Ok P w K mg base 3 "is_factors" ["value", "many"] spFactD) : Ok P w K mg base 4 "is_register" ["value"] spRegD := by
  obtain ⟨f, fd, g, b, F⟩ := h
  have T := PT.T
  refine ⟨f, fd, g, F.kp, b, F.ok sc_is_register (fun vs H Q E h => ?_) (fun cdv A outer s H vs Q E hr h => ?_)⟩
  · obtain ⟨v, d, rfl, _⟩ := h
    rfl
  · obtain ⟨v, d, rfl, hd, sz, q⟩ := h
    refine ⟨_, (pss_one (ps_ret (pe_and (pe_callB call_isi (by rfl) T.isinstance bb_isinstance (pa_cons (pv 0) (pa_cons (pe_bltn (v := .ty "tuple") (by rfl) T.tuple bb_tuple rfl) pa_nil))) (pe_and (pe_cmpR op_eq (pe_callB lenT (by rfl) T.len bb_len (pa_cons (pv 0) pa_nil)) pe_int (nomark _)) (pe_and (pe_cO O_is_name (hr.mono (by decide)) pass0 rfl (pa_cons (pe_ix ixt (pv 0) pe_int (fun _ _ => rfl)) pa_nil)) (pe_one (pe_cO O_is_factors (hr.mono (by decide)) pass0 rfl (pa_cons (pe_slice slt (pv 0) (po_some pe_int) po_none) (pa_cons pe_int pa_nil))))))))), ?_⟩
    refine ⟨_, rfl, _, _, _, _, _, rfl, .ty _, hd.ty, hd.kTup, _, rfl, ?_⟩
    unfold regD at q
    cases e : isTup d with
    | false =>
      rw [e] at q
      rw [show (tyD d == "tuple") = false from e]
      exact iteF (q _ (Same.refl _))
    | true =>
      rw [e, Bool.true_and] at q
      rw [show (tyD d == "tuple") = true from e]
      refine iteT ?_
      obtain ⟨a, xs, rfl, dx, ha, _, ed⟩ := hd.tupOf e
      have hl := dx.len
      refine ⟨_, rfl, a, xs, rfl, .inr ha, rfl, _, rfl, ?_⟩
      rw [hl]
      by_cases hn : (itemsD d).length = 2
      · rw [decide_eq_true hn, Bool.true_and] at q
        refine iteP (veq (by omega)) ?_
        obtain ⟨x, y, d0, d1, rfl, eds, h0, h1⟩ := two_dt dx hn
        have e0 : itD d 0 = d0 := by unfold itD; rw [eds]; rfl
        have e1 : itD d 1 = d1 := by unfold itD; rw [eds]; rfl
        rw [e0, e1] at q
        have z0 : Sz 0 d0 := sz.2.2 d0 (by rw [eds]; simp)
        refine ⟨_, rfl, a, _, 0, x, rfl, rfl, ha, atI0, x, d0, rfl, h0, z0, fun H1 s1 => ⟨_, rfl, ?_⟩⟩
        cases en : nameD d0 with
        | false =>
          rw [en] at q
          exact iteF (q _ s1)
        | true =>
          rw [en, Bool.true_and] at q
          refine iteT ?_
          have ha1 := s1 _ _ ha
          refine ⟨_, rfl, _, rfl, a, _, rfl, ha1, (fun h => absurd (show HT.sIx 2 0 (some 1) = 0 from h.1) (by decide)), fun p np => ?_⟩
          have s2 : Same H1 (upd H1 p (.tup (cutV [x, y] (some 1) none))) := Same.new np
          have dp : Dt Z0 (upd H1 p (.tup (cutV [x, y] (some 1) none))) (.ref p) (.tuple [d1]) := .tup upd_same id (.cons ((h1.fr (Fm.of s1)).fr (Fm.of s2)) .nil)
          exact ⟨_, _, _, rfl, dp, by simp [itemsD], fun H3 s3 => q _ ((s1.trans s2).trans s3)⟩
      · rw [decide_eq_false hn, Bool.false_and] at q
        exact iteN (vne (by omega)) (q _ (Same.refl _))
def modeD (d : PyData) : Bool := isTup d && (decide ((itemsD d).length = 3) && (nameD (itD d 0) && (ruleD (itD d 1) && isSeq (itD d 2))))
def spModeD : Sp := fun vs H Q _ => ∃ v d, vs = [v] ∧ Dt Z0 H v d ∧ Sz 1 d ∧ ∀ H', Same H H' → Q (.bl (modeD d)) H'
abbrev s_is_mode : Stmt := top 29
abbrev N_is_mode : List Str := ["value", "name", "rule", "rows"]
theorem sc_is_mode : FnScope N_is_mode ["value"] (defScope s_is_mode) := ⟨rfl, rfl, rfl, by decide +kernel, rfl, by decide +kernel, by decide +kernel⟩
theorem ok_is_mode (h : Has K mg "is_mode" s_is_mode ["value"]) (PT : PTx K mg aR) (O_is_name : Ok P w K mg base 1 "is_name" ["value"] spNameD) (O_is_rule : Ok P w K mg base 1 "is_rule" ["value"] spRuleD) : Ok P w K mg base 2 "is_mode" ["value"] spModeD := by
  obtain ⟨f, fd, g, b, F⟩ := h
  have T := PT.T
  refine ⟨f, fd, g, F.kp, b, F.ok sc_is_mode (fun vs H Q E h => ?_) (fun cdv A outer s H vs Q E hr h => ?_)⟩
  · obtain ⟨v, d, rfl, _⟩ := h
    rfl
  · obtain ⟨v, d, rfl, hd, sz, q⟩ := h
    refine ⟨_, (pss_cons (ps_if (pt_not (PW.pt (pw_and (pt_val (pe_callB call_isi (by rfl) T.isinstance bb_isinstance (pa_cons (pv 0) (pa_cons (pe_bltn (v := .ty "tuple") (by rfl) T.tuple bb_tuple rfl) pa_nil)))) (pw_and1 (pt_cmpR op_eq (pe_callB lenT (by rfl) T.len bb_len (pa_cons (pv 0) pa_nil)) pe_int (nomark _))))))
        (pss_one (ps_ret pe_bl))
        pss_nil)
      (pss_cons (ps_asg (pv 0) (pgT (n := 3) (by rfl) (pgs_cons (pg_name (i := 1) sc_is_mode.nd rfl (.inl rfl)) (pgs_cons (pg_name (i := 2) sc_is_mode.nd rfl (.inl rfl)) (pgs_cons (pg_name (i := 3) sc_is_mode.nd rfl (.inl rfl)) pgs_nil)))))
      (pss_one (ps_ret (pe_and (pe_cO O_is_name (hr.mono (by decide)) pass0 rfl (pa_cons (pv 1) pa_nil)) (pe_and (pe_cO O_is_rule (hr.mono (by decide)) pass0 rfl (pa_cons (pv 2) pa_nil)) (pe_one (pe_callB call_isiT (by rfl) T.isinstance bb_isinstance (pa_cons (pv 3) (pa_cons (pe_tup (pa_cons (pe_bltn (v := .ty "list") (by rfl) T.list bb_list rfl) (pa_cons (pe_bltn (v := .ty "tuple") (by rfl) T.tuple bb_tuple rfl) pa_nil))) pa_nil)))))))))), ?_⟩
    refine ⟨_, rfl, _, _, _, _, _, rfl, .ty _, hd.ty, hd.kTup, _, rfl, ?_⟩
    unfold modeD at q
    cases e : isTup d with
    | false =>
      rw [e] at q
      rw [show (tyD d == "tuple") = false from e]
      exact iteF (iteP rfl (q _ (Same.refl _)))
    | true =>
      rw [e, Bool.true_and] at q
      rw [show (tyD d == "tuple") = true from e]
      refine iteT ?_
      obtain ⟨a, xs, rfl, dx, ha, _, ed⟩ := hd.tupOf e
      have hl := dx.len
      refine ⟨_, rfl, a, xs, rfl, .inr ha, rfl, _, rfl, ?_⟩
      rw [hl]
      by_cases hn : (itemsD d).length = 3
      · rw [decide_eq_true hn, Bool.true_and] at q
        refine iteN (by rw [veq (show (((itemsD d).length : Nat) : Int) = 3 by omega)]; decide) ?_
        obtain ⟨x, y, z, d0, d1, d2, rfl, eds, h0, h1, h2⟩ := three_dt dx hn
        have e0 : itD d 0 = d0 := by unfold itD; rw [eds]; rfl
        have e1 : itD d 1 = d1 := by unfold itD; rw [eds]; rfl
        have e2 : itD d 2 = d2 := by unfold itD; rw [eds]; rfl
        rw [e0, e1, e2] at q
        have z0 : Sz 0 d0 := sz.2.2 d0 (by rw [eds]; simp)
        refine ⟨_, rfl, a, _, rfl, ha, rfl, _, _, rfl, _, _, rfl, _, _, rfl, rfl, ?_⟩
        refine ⟨_, rfl, x, d0, rfl, h0, z0, fun H1 s1 => ⟨_, rfl, ?_⟩⟩
        cases en : nameD d0 with
        | false =>
          rw [en] at q
          exact iteF (q _ s1)
        | true =>
          rw [en, Bool.true_and] at q
          refine iteT ?_
          refine ⟨_, rfl, y, d1, rfl, h1.fr (Fm.of s1), _, rfl, ?_⟩
          cases er : ruleD d1 with
          | false =>
            rw [er] at q
            exact iteF (q _ s1)
          | true =>
            rw [er, Bool.true_and] at q
            refine iteT ?_
            refine ⟨_, rfl, (by show 2 ≤ sizeLine; decide), fun t ht => ?_⟩
            have s2 : Same H1 (upd H1 t (.tup [.ty "list", .ty "tuple"])) := Same.new ht
            have d3 := (h2.fr (Fm.of s1)).fr (Fm.of s2)
            exact ⟨_, _, _, _, _, _, rfl, upd_same, pairedLT, d3.ty, d3.kSeq, q _ (s1.trans s2)⟩
      · rw [decide_eq_false hn, Bool.false_and] at q
        refine iteP ?_ (q _ (Same.refl _))
        rw [Bool.eq_false_iff.mpr (vne (show (((itemsD d).length : Nat) : Int) ≠ 3 by omega))]
        rfl
def optD (d : PyData) (b : Bool) : Bool := match d with | .none => true | _ => b
def thenD (d : PyData) (zs : List Str) : Bool := match d with | .none => true | .str s => inV (.str s) (zs.map V.str) | _ => false
def upsD (d : PyData) (many : Nat) : Bool := isTup d && (decide ((itemsD d).length = many) && (itemsD d).all fun x => factD x (many + 2))
def rowD (d : PyData) (size : Int) (many : Nat) (zs : List Str) : Bool :=
  isTup d && (decide ((itemsD d).length = 4) && ((optD (itD d 0) (betw (itD d 0) (-1) 1) && optD (itD d 1) (remD (itD d 1) size)) && (upsD (itD d 2) many && thenD (itD d 3) zs)))
def spRowD : Sp := fun vs H Q _ => ∃ v d size many nm zs, vs = [v, .int size, .int ((many : Nat) : Int), .ref nm] ∧ Dt Z0 H v d ∧ Sz 2 d ∧ H nm = some (.lst (zs.map V.str)) ∧ ∀ H', Same H H' → Q (.bl (rowD d size many zs)) H'
abbrev s_is_row : Stmt := top 30
abbrev N_is_row : List Str := ["value", "size", "many", "names", "sign", "remainder", "updates", "then", "update"]
theorem sc_is_row : FnScope N_is_row ["value", "size", "many", "names"] (defScope s_is_row) := ⟨rfl, rfl, rfl, by decide +kernel, rfl, by decide +kernel, by decide +kernel⟩
theorem isN_opt {Z : Addr → Prop} {H : Hp} {v : V} {d : PyData} (h : Dt Z H v d) : decide (v = .non) = (tyD d == "NoneType") := by
  cases h <;> first | rfl | (exact decide_eq_false (fun z => by cases z))
theorem optD_of {d : PyData} {b : Bool} : optD d b = ((tyD d == "NoneType") || b) := by
  cases d <;> rfl
theorem flat_strs (zs : List Str) : (zs.map V.str).all flatV = true := by
  rw [List.all_eq_true]
  intro v hv
  obtain ⟨s, _, rfl⟩ := List.mem_map.mp hv
  rfl
theorem ok_is_row (h : Has K mg "is_row" s_is_row ["value", "size", "many", "names"]) (PT : PTx K mg aR) (O_is_between : Ok P w K mg base 2 "is_between" ["value", "low", "high"] spBetw) (O_is_remainder : Ok P w K mg base 3 "is_remainder" ["value", "size"] spRemD)
    (O_is_factors : Ok P w K mg base 3 "is_factors" ["value", "many"] spFactD) : Ok P w K mg base 4 "is_row" ["value", "size", "many", "names"] spRowD := by
  obtain ⟨f, fd, g, b, F⟩ := h
  have T := PT.T
  refine ⟨f, fd, g, F.kp, b, F.ok sc_is_row (fun vs H Q E h => ?_) (fun cdv A outer s H vs Q E hr h => ?_)⟩
  · obtain ⟨v, d, size, many, nm, zs, rfl, _⟩ := h
    rfl
  · obtain ⟨v, d, size, many, nm, zs, rfl, hd, sz, hn, q⟩ := h
    refine ⟨_, (pss_cons (ps_if (pt_not (PW.pt (pw_and (pt_val (pe_callB call_isi (by rfl) T.isinstance bb_isinstance (pa_cons (pv 0) (pa_cons (pe_bltn (v := .ty "tuple") (by rfl) T.tuple bb_tuple rfl) pa_nil)))) (pw_and1 (pt_cmpR op_eq (pe_callB lenT (by rfl) T.len bb_len (pa_cons (pv 0) pa_nil)) pe_int (nomark _))))))
        (pss_one (ps_ret pe_bl))
        pss_nil)
      (pss_cons (ps_asg (pv 0) (pgT (n := 4) (by rfl) (pgs_cons (pg_name (i := 4) sc_is_row.nd rfl (.inl rfl)) (pgs_cons (pg_name (i := 5) sc_is_row.nd rfl (.inl rfl)) (pgs_cons (pg_name (i := 6) sc_is_row.nd rfl (.inl rfl)) (pgs_cons (pg_name (i := 7) sc_is_row.nd rfl (.inl rfl)) pgs_nil))))))
      (pss_cons (ps_if (pt_not (PW.pt (pw_and (PW.pt (pw_or (pt_cmpR op_isN (pv 4) pe_non (nomark _)) (pw_or1 (pt_val (pe_cO O_is_between (hr.mono (by decide)) pass0 rfl (pa_cons (pv 4) (pa_cons (pe_un un_neg pe_int) (pa_cons pe_int pa_nil)))))))) (pw_and1 (PW.pt (pw_or (pt_cmpR op_isN (pv 5) pe_non (nomark _)) (pw_or1 (pt_val (pe_cO O_is_remainder (hr.mono (by decide)) pass0 rfl (pa_cons (pv 5) (pa_cons (pv 1) pa_nil)))))))))))
        (pss_one (ps_ret pe_bl))
        pss_nil)
      (pss_cons (ps_if (pt_not (PW.pt (pw_and (pt_val (pe_callB call_isi (by rfl) T.isinstance bb_isinstance (pa_cons (pv 6) (pa_cons (pe_bltn (v := .ty "tuple") (by rfl) T.tuple bb_tuple rfl) pa_nil)))) (pw_and1 (pt_cmpR op_eq (pe_callB lenT (by rfl) T.len bb_len (pa_cons (pv 6) pa_nil)) (pv 2) (nomark _))))))
        (pss_one (ps_ret pe_bl))
        pss_nil)
      (pss_cons (ps_if (pt_not (pt_val (pe_callB (allT rfl) (by rfl) T.all bb_all (pa_cons (pe_lc (own := [("update", 8)]) (g := (gName 8)) (tt := tYes) rfl sc_is_row.nd (pi_seq (pv 6)) (blkOk_by (N := N_is_row) (sc := defScope s_is_row) (by decide +kernel)) (fun _ _ _ _ _ => (pg_name (i := 8) sc_is_row.nd rfl (by first | exact Or.inl rfl | exact Or.inr rfl))) (fun _ _ _ _ _ => pts_nil) (fun _ _ _ _ _ => (pe_cO O_is_factors (hr.mono (by decide)) pass0 rfl (pa_cons (pv 8) (pa_cons (pe_op op_add (pv 2) pe_int) pa_nil))))) pa_nil))))
        (pss_one (ps_ret pe_bl))
        pss_nil)
      (pss_one (ps_ret (pe_or (pe_cmpR op_isN (pv 7) pe_non (nomark _)) (pe_one (pe_and (pe_callB call_isi (by rfl) T.isinstance bb_isinstance (pa_cons (pv 7) (pa_cons (pe_bltn (v := .ty "str") (by rfl) T.str bb_str rfl) pa_nil))) (pe_one (pe_cmpR inT (pv 7) (pv 3) (by rfl))))))))))))), ?_⟩
    refine ⟨_, rfl, _, _, _, _, _, rfl, .ty _, hd.ty, hd.kTup, _, rfl, ?_⟩
    unfold rowD at q
    cases e : isTup d with
    | false =>
      rw [e] at q
      rw [show (tyD d == "tuple") = false from e]
      exact iteF (iteP rfl (q _ (Same.refl _)))
    | true =>
      rw [e, Bool.true_and] at q
      rw [show (tyD d == "tuple") = true from e]
      refine iteT ?_
      obtain ⟨a, xs, rfl, dx, ha, _, ed⟩ := hd.tupOf e
      have hl := dx.len
      refine ⟨_, rfl, a, xs, rfl, .inr ha, rfl, _, rfl, ?_⟩
      rw [hl]
      by_cases h4 : (itemsD d).length = 4
      · rw [decide_eq_true h4, Bool.true_and] at q
        refine iteN (by rw [veq (show (((itemsD d).length : Nat) : Int) = 4 by omega)]; decide) ?_
        obtain ⟨x, y, z, u, d0, d1, d2, d3, rfl, eds, h0, h1, h2, h3⟩ := four_dt dx h4
        have e0 : itD d 0 = d0 := by unfold itD; rw [eds]; rfl
        have e1 : itD d 1 = d1 := by unfold itD; rw [eds]; rfl
        have e2 : itD d 2 = d2 := by unfold itD; rw [eds]; rfl
        have e3 : itD d 3 = d3 := by unfold itD; rw [eds]; rfl
        rw [e0, e1, e2, e3] at q
        have z2 : Sz 1 d2 := sz.2.2 d2 (by rw [eds]; simp)
        refine ⟨_, rfl, a, _, rfl, ha, rfl, _, _, rfl, _, _, rfl, _, _, rfl, _, _, rfl, rfl, ?_⟩
        have t1 : ∀ {H' : Hp} {v : V} {d : PyData} {i : Nat} {τ : St}, Dt Z0 H' v d → τ[i]? = some (some v) → PureT (tTest (tOp (fun x y H Q => y = V.non ∧ Q (V.bl (decide (x = V.non))) H) (tVar i) (tC V.non))) τ H' (tyD d == "NoneType") := fun h e Q q =>
          ⟨_, e, rfl, _, rfl, by rw [isN_opt h]; exact q _ (Same.refl _)⟩
        dsimp only
        refine PureT.sqn (x := !(optD d0 (betw d0 (-1) 1) && optD d1 (remD d1 size))) (PureT.no (PureT.and ?c1 fun _ H1 s1 => ?c2)) (fun ff H1 s1 => ?no) (fun tt H1 s1 => ?yes)
        case c1 =>
          refine ((t1 h0 rfl).or fun H1 s1 => ?_).cast optD_of.symm
          exact fun Q q => ⟨_, rfl, _, rfl, x, d0, _, _, rfl, h0.fr (Fm.of s1), _, rfl, q _ (Same.refl _)⟩
        case c2 =>
          refine ((t1 (h1.fr (Fm.of s1)) rfl).or fun H2 s2 => ?_).cast optD_of.symm
          exact fun Q q => ⟨_, rfl, _, rfl, y, d1, _, rfl, (h1.fr (Fm.of s1)).fr (Fm.of s2), _, rfl, q _ (Same.refl _)⟩
        case no =>
          have q := q H1 s1
          rw [no_tt ff, Bool.false_and] at q
          exact q
        case yes =>
          rw [no_ff tt, Bool.true_and] at q
          have g2 := h2.fr (Fm.of s1)
          refine PureT.sqn (x := !(isTup d2 && decide ((itemsD d2).length = many))) (PureT.no (PureT.and (fun Q q => ⟨_, rfl, _, _, _, _, _, rfl, .ty _, g2.ty, g2.kTup, _, rfl, q _ (Same.refl _)⟩) fun it H2 s2 => ?d2)) (fun ff H2 s2 => ?no2) (fun tt H2 s2 => ?yes2)
          case d2 =>
            obtain ⟨a2, xs2, rfl, dx2, ha2, _, _⟩ := (g2.fr (Fm.of s2)).tupOf it
            exact fun Q q => ⟨_, rfl, a2, xs2, rfl, .inr ha2, _, rfl, rfl, _, rfl, by rw [dx2.len, dec_len]; exact q _ (Same.refl _)⟩
          case no2 =>
            have q := q H2 (s1.trans s2)
            unfold upsD at q
            rw [← Bool.and_assoc, no_tt ff, Bool.false_and, Bool.false_and] at q
            exact q
          case yes2 =>
            have both := Bool.and_eq_true_iff.mp (no_ff tt)
            obtain ⟨a2, xs2, rfl, dx2, ha2, _, _⟩ := (g2.fr (Fm.of s2)).tupOf both.1
            have ln : (itemsD d2).length = many := of_decide_eq_true both.2
            unfold upsD at q
            rw [← Bool.and_assoc, no_ff tt, Bool.true_and] at q
            have s12 := s1.trans s2
            refine PureT.sqn (x := !((itemsD d2).all fun x => factD x (many + 2))) (PureT.no ?al) (fun ff H3 s3 => ?no3) (fun tt H3 s3 => ?yes3)
            case al =>
              refine fun Q q => ⟨_, rfl, a2, xs2, .tup xs2, rfl, .inr rfl, ha2, fun J wk D hD => ?_⟩
              refine lc_vals wk Z0 (fun _ => True) ((itemsD d2).map fun d => V.bl (factD d (many + 2))) (by simp [dx2.len]) hD id True.intro (fun _ _ _ _ => True.intro) (by rw [dx2.len]; exact Nat.lt_of_le_of_lt z2.1 (by decide)) (fun H f => f _ _ ha2 id) ?_ ?_
              · intro i x k H4 H5 Qk ek f _ _ y z
                obtain ⟨rfl, ex⟩ := y
                rw [List.getElem?_map] at ek
                obtain ⟨di, e1, rfl⟩ := Option.map_eq_some_iff.mp ek
                obtain ⟨d', e2, dt⟩ := dx2.get ex
                rw [e1] at e2
                cases e2
                exact ⟨rfl, _, rfl, _, rfl, _, _, rfl, rfl, x, di, _, rfl, dt.fr f, (z2.2.2 di (List.mem_of_getElem? e1)).1, fun H6 s6 => z _ (Fm.of s6) True.intro⟩
              · intro H4 f _ hD4
                refine ⟨D, (itemsD d2).map fun x => factD x (many + 2), rfl, by rw [hD4, List.map_map]; rfl, ?_⟩
                refine ⟨_, rfl, ?_⟩
                rw [List.all_map]
                exact q H4 f.same
            case no3 =>
              have q := q H3 (s12.trans s3)
              rw [no_tt ff, Bool.false_and] at q
              exact q
            case yes3 =>
              have q := q H3 (s12.trans s3)
              rw [no_ff tt, Bool.true_and] at q
              have g3 := (h3.fr (Fm.of s12)).fr (Fm.of s3)
              refine ⟨_, rfl, rfl, _, rfl, ?_⟩
              rw [isN_opt g3]
              have hn3 := (s12.trans s3) _ _ hn
              cases g3 with
              | non => exact iteT q
              | str x => exact iteF ⟨_, rfl, _, _, _, _, _, rfl, .ty _, (Dt.str (Z := Z0) (H := H3) x).ty, (Dt.str (Z := Z0) (H := H3) x).kStr, _, rfl, iteT ⟨_, rfl, _, rfl, nm, _, rfl, .inl hn3, rfl, flat_strs zs, q⟩⟩
              | bl b => exact iteF ⟨_, rfl, _, _, _, _, _, rfl, .ty _, (Dt.bl (Z := Z0) (H := H3) b).ty, (Dt.bl (Z := Z0) (H := H3) b).kStr, _, rfl, iteF q⟩
              | int b => exact iteF ⟨_, rfl, _, _, _, _, _, rfl, .ty _, (Dt.int (Z := Z0) (H := H3) b).ty, (Dt.int (Z := Z0) (H := H3) b).kStr, _, rfl, iteF q⟩
              | lst e n t => exact iteF ⟨_, rfl, _, _, _, _, _, rfl, .ty _, (Dt.lst e n t).ty, (Dt.lst e n t).kStr, _, rfl, iteF q⟩
              | tup e n t => exact iteF ⟨_, rfl, _, _, _, _, _, rfl, .ty _, (Dt.tup e n t).ty, (Dt.tup e n t).kStr, _, rfl, iteF q⟩
      · rw [decide_eq_false h4, Bool.false_and] at q
        refine iteP ?_ (q _ (Same.refl _))
        rw [Bool.eq_false_iff.mpr (vne (show (((itemsD d).length : Nat) : Int) ≠ 4 by omega))]
        rfl
end
/-! ### the first part that does not fit -/
section
variable {P : Program} {w : World} {K : PySem.W.Frag} {mg : Str → Option Value} {base : Heap} {aR : Addr}
def nmOf (d : PyData) : Str := match d with | .tuple (.str s :: _) => s | _ => ""
def wrongAt (part : PyData → Bool) : List PyData → List Str → Nat → Option Nat
  | [], _, _ => none
  | d :: ds, ns, i => if (!part d || inV (.str (nmOf d)) (ns.map V.str)) = true then some i else wrongAt part ds (ns ++ [nmOf d]) (i + 1)
def atV : Option Nat → V
  | none => .non
  | some i => .int (i : Nat)
def spPart (part : PyData → Bool) : Sp := fun vs H Q _ => ∃ v d, vs = [v] ∧ Dt Z0 H v d ∧ Sz 1 d ∧ ∀ H', Same H H' → Q (.bl (part d)) H'
def spFirstD (f0 : Addr) (part : PyData → Bool) : Sp := fun vs H Q _ => ∃ v d, vs = [v, .ref f0] ∧ Dt Z0 H v d ∧ isSeq d = true ∧ (itemsD d).length ≤ 1000 ∧ (∀ x ∈ itemsD d, Sz 1 x) ∧ ∀ H', Same H H' → Q (atV (wrongAt part (itemsD d) [] 0)) H'
abbrev s_first_wrong : Stmt := top 31
abbrev N_first_wrong : List Str := ["parts", "is_part", "names", "at", "part"]
theorem sc_first_wrong : FnScope N_first_wrong ["parts", "is_part"] (defScope s_first_wrong) := ⟨rfl, rfl, rfl, by decide +kernel, rfl, by decide +kernel, by decide +kernel⟩
theorem ok_first_wrong {f0 : Addr} {fd0 : FuncData} {part : PyData → Bool} (h : Has K mg "first_wrong" s_first_wrong ["parts", "is_part"]) (PT : PTx K mg aR) (F0 : FnOk P w K mg base CX0 4 f0 fd0 ["value"] (spPart part)) (k0 : PySem.W.keepIn K (.ref f0) = true) (b0 : Binds K fd0 ["value"] [])
    (named : ∀ d, part d = true → ∃ s rest, d = .tuple (.str s :: rest)) : Ok P w K mg base 5 "first_wrong" ["parts", "is_part"] (spFirstD f0 part) := by
  obtain ⟨f, fd, g, b, F⟩ := h
  have T := PT.T
  refine ⟨f, fd, g, F.kp, b, F.ok sc_first_wrong (fun vs H Q E h => ?_) (fun cdv A outer s H vs Q E hr h => ?_)⟩
  · obtain ⟨v, d, rfl, _⟩ := h
    rfl
  · obtain ⟨v, d, rfl, hd, sq, few, sz, q⟩ := h
    obtain ⟨l, xs, rfl, dx, ha, _⟩ := hd.seq sq
    have hl := dx.len
    refine ⟨_, (pss_cons (ps_set (i := 2) sc_first_wrong.nd rfl (.inl rfl) (pe_lst pa_nil))
      (pss_cons (ps_for PassesOwn.never rfl (pi_enumS (by rfl) T.enumerate (pa_cons (pv 0) pa_nil)) (pgT (n := 2) (by rfl) (pgs_cons (pg_name (i := 3) sc_first_wrong.nd rfl (.inl rfl)) (pgs_cons (pg_name (i := 4) sc_first_wrong.nd rfl (.inl rfl)) pgs_nil)))
        (pss_cons (ps_if (PW.pt (pw_or (pt_not (pt_val (pe_callL (i := 1) (E := E0) F0 (hr.mono (by decide)) rfl (.inl rfl) k0 b0 .nil pass0 (pa_cons (pv 4) pa_nil)))) (pw_or1 (pt_cmpR inT (pe_ix ixt (pv 4) pe_int (fun _ _ => rfl)) (pv 2) (by rfl)))))
          (pss_one (ps_ret (pv 3)))
          pss_nil)
        (pss_one (ps_expr (pe_bm PySem.F.plainAttrs_list PySem.F.slot_list_append PySem.F.type_list_append mt_append (pv 2) (pa_cons (pe_ix ixt (pv 4) pe_int (fun _ _ => rfl)) pa_nil))))))
      (pss_one (ps_ret pe_non)))), ?_⟩
    refine ⟨by show 0 ≤ sizeLine; decide, fun D hD => ?_⟩
    obtain ⟨o, ho, at_l⟩ : ∃ o, (o = .lst xs ∨ o = .tup xs) ∧ H l = some o := ha.elim (fun h => ⟨_, .inl rfl, h⟩) fun h => ⟨_, .inr rfl, h⟩
    refine ⟨_, rfl, l, xs, o, rfl, ho, (Same.new hD) _ _ at_l, fun J wk => for_it wk (fun i σ H' => Same H H' ∧ ∃ ns : List Str, ns.length = i ∧ H' D = some (.lst (ns.map V.str)) ∧ wrongAt part (itemsD d) [] 0 = wrongAt part ((itemsD d).drop i) ns i ∧ ∃ v3 v4 : Option V, σ = [some (.ref l), some (.ref f0), some (.ref D), v3, v4])
      ⟨Same.new hD, [], rfl, upd_same, rfl, none, none, rfl⟩ (fun i σ H' _ z => z.1 _ _ at_l) ?_ ?_⟩
    · rintro i x σ H1 H2 hi ⟨s1, ns, ln, h1, ew, v3, v4, rfl⟩ ⟨T', x', y', rfl, hT, rfl, e1, e2⟩
      have e2 : xs[i]? = some y' := e2
      have e1 : some (V.int (i : Nat)) = some x' := e1
      obtain rfl := Option.some.inj e1
      obtain ⟨di, ei, dt⟩ := dx.get e2
      have s2 : Same H1 (upd H1 T' (.tup [.int (i : Nat), y'])) := Same.new hT
      have d2 : (upd H1 T' (.tup [.int (i : Nat), y'])) T' = some (.tup [.int (i : Nat), y']) := upd_same
      generalize upd H1 T' (.tup [.int (i : Nat), y']) = H2 at s2 d2 ⊢
      refine ⟨T', _, rfl, d2, rfl, _, _, rfl, _, _, rfl, rfl, ?_⟩
      have s12 := s1.trans s2
      have dt2 := dt.fr (Fm.of s12)
      have more : (itemsD d).drop i = di :: (itemsD d).drop (i + 1) := by
        obtain ⟨lt, e⟩ := List.getElem?_eq_some_iff.mp ei
        rw [List.drop_eq_getElem_cons lt, e]
      rw [more] at ew
      have z1 := sz di (List.mem_of_getElem? ei)
      dsimp only
      refine PureT.sqn (x := !part di || inV (.str (nmOf di)) (ns.map V.str)) (PureT.orc (PureT.no ?call) ?isin) (fun tt H3 s3 => ?ret) (fun ff H3 s3 => ?go)
      case call =>
        exact fun Q q => ⟨rfl, _, rfl, y', di, rfl, dt2, z1, fun H3 s3 => ⟨_, rfl, q _ s3⟩⟩
      case isin =>
        intro ok H3 s3
        obtain ⟨s, rest, rfl⟩ := named di (no_ff ok)
        obtain ⟨a2, xs2, rfl, dx2, ha2, _, _⟩ := (dt2.fr (Fm.of s3)).tupOf rfl
        cases dx2 with
        | cons q1 q2 =>
          cases q1
          exact fun Q q => ⟨_, rfl, a2, _, 0, _, rfl, rfl, ha2, atI0, _, rfl, D, _, rfl, .inl (s3 _ _ (s2 _ _ h1)), rfl, flat_strs ns, _, rfl, q _ (Same.refl _)⟩
      case ret =>
        have q := q H3 (s12.trans s3)
        rw [ew, wrongAt, if_pos tt] at q
        exact ⟨_, rfl, q⟩
      case go =>
        obtain ⟨s, rest, rfl⟩ := named di (no_ff (Bool.or_eq_false_iff.mp ff).1)
        obtain ⟨a2, xs2, rfl, dx2, ha2, _, _⟩ := (dt2.fr (Fm.of s3)).tupOf rfl
        have h3 := s3 _ _ (s2 _ _ h1)
        cases dx2 with
        | cons q1 q2 =>
          cases q1
          refine ⟨_, rfl, .inl ⟨rfl, _, SqL.of h3⟩, _, rfl, a2, _, 0, _, rfl, rfl, ha2, atI0, D, _, _, rfl, rfl, h3, ?_, ?_⟩
          · rw [List.length_map, ln]
            exact Nat.lt_of_lt_of_le (by omega : i < 1000) (by decide)
          · refine ⟨fun b o e => ?_, ns ++ [s], by rw [List.length_append, ln]; rfl, ?_, ?_, _, _, rfl⟩
            · rw [upd_ne (ne_of_none e hD)]
              exact s3 _ _ (s12 _ _ e)
            · rw [upd_same, List.map_append]
              rfl
            · rw [ew, wrongAt, if_neg (by rw [ff]; decide)]
              rfl
    · rintro σ H1 ⟨s1, ns, ln, h1, ew, v3, v4, rfl⟩
      have q := q H1 s1
      rw [ew, hl, List.drop_of_length_le (Nat.le_refl _)] at q
      exact q
end
/-! ### registers, modes -/
section
variable {P : Program} {w : World} {K : PySem.W.Frag} {mg : Str → Option Value} {base : Heap} {aR CG : Addr}
def EX1 (C : Addr) (f : Str) (v : V) (E : XK) (H : Hp) : Prop := ∀ H' dx, Same H H' → H' dx = none → E (.ref C) (some dx) (upd H' dx (.xd [(f, v)]))
theorem EX1.same {C : Addr} {f : Str} {v : V} {E : XK} {H H1 : Hp} (x : EX1 C f v E H) (s : Same H H1) : EX1 C f v E H1 := fun H' dx s' n => x H' dx (s.trans s') n
theorem EX1.now {C : Addr} {f : Str} {v : V} {E : XK} {H : Hp} (x : EX1 C f v E H) : ∀ dx, H dx = none → E (.ref C) (some dx) (upd H dx (.xd [(f, v)])) := fun dx n => x H dx (Same.refl _) n
def partsD (part : PyData → Bool) (hi : Int) (d : PyData) : Bool := listD d 1 hi && (wrongAt part (itemsD d) [] 0).isNone
def partsN (part : PyData → Bool) (hi : Int) (d : PyData) : V := if listD d 1 hi = true then atV (wrongAt part (itemsD d) [] 0) else .non
def spChkParts (part : PyData → Bool) (hi : Int) (CG : Addr) : Sp := fun vs H Q E => ∃ v d, vs = [v] ∧ Dt Z0 H v d ∧ Sz 2 d ∧ (partsD part hi d = true → ∀ H', Same H H' → Q .non H') ∧ (partsD part hi d = false → EX1 CG "number" (partsN part hi d) E H)
abbrev s_check_registers : Stmt := top 32
abbrev N_check_registers : List Str := ["registers", "wrong"]
theorem sc_check_registers : FnScope N_check_registers ["registers"] (defScope s_check_registers) := ⟨rfl, rfl, rfl, by decide +kernel, rfl, by decide +kernel, by decide +kernel⟩
theorem atV_none {o : Option Nat} : (!decide (atV o = .non)) = !o.isNone := by
  cases o with
  | none => rfl
  | some i => exact congrArg _ (decide_eq_false (fun z => by cases z))
theorem ok_check_registers {f0 : Addr} (h : Has K mg "check_registers" s_check_registers ["registers"]) (g0 : mg "is_register" = some (.ref f0)) (O_is_listing : Ok P w K mg base 1 "is_listing" ["value", "least", "most"] spListD) (O_first_wrong : Ok P w K mg base 5 "first_wrong" ["parts", "is_part"] (spFirstD f0 regD))
    (XG : XRz P w K mg base "InvalidRegisters" CG 1 (sp1n "number" CG)) : OkX P w K mg base 6 "check_registers" ["registers"] (spChkParts regD 3 CG) := by
  obtain ⟨f, fd, g, b, F⟩ := h
  refine ⟨f, fd, g, F.kp, b, F.okX sc_check_registers (fun vs H Q E h => ?_) (fun cdv A outer s H vs Q E hr h => ?_)⟩
  · obtain ⟨v, d, rfl, _⟩ := h
    rfl
  · obtain ⟨v, d, rfl, hd, sz, q, qe⟩ := h
    refine ⟨_, (pss_cons (ps_if (pt_not (pt_val (pe_cO O_is_listing (hr.mono (by decide)) pass0 rfl (pa_cons (pv 0) (pa_cons pe_int (pa_cons pe_int pa_nil))))))
        (pss_one (ps_raiseN XG (hr.mono (by decide)) rfl (takes_of rfl rfl rfl rfl) rfl (pa_cons pe_non pa_nil)))
        pss_nil)
      (pss_cons (ps_set (i := 1) sc_check_registers.nd rfl (.inl rfl) (pe_cO O_first_wrong (hr.mono (by decide)) pass0 rfl (pa_cons (pv 0) (pa_cons (pe_glob (v := .ref f0) rfl g0 rfl) pa_nil))))
      (pss_one (ps_if (pt_cmpR op_notN (pv 1) pe_non (nomark _))
        (pss_one (ps_raiseN XG (hr.mono (by decide)) rfl (takes_of rfl rfl rfl rfl) rfl (pa_cons (pv 1) pa_nil)))
        pss_nil)))), ?_⟩
    refine PureT.sqn (x := !listD d 1 3) (PureT.no fun Q q => ⟨_, rfl, v, d, _, _, rfl, hd, fun H1 s1 => ⟨_, rfl, q _ s1⟩⟩) (fun tt H1 s1 => ?_) (fun ff H1 s1 => ?_)
    · have no := no_tt tt
      refine ⟨rfl, by show 1 ≤ 1000; decide, flies1 ?_⟩
      have x := qe (by unfold partsD; rw [no]; rfl)
      unfold partsN at x
      rw [no, if_neg (by decide)] at x
      exact (x.same s1).now
    · have yes := no_ff ff
      have sq : isSeq d = true := (Bool.and_eq_true_iff.mp yes).1
      refine ⟨_, rfl, v, d, rfl, hd.fr (Fm.of s1), sq, sz.1, sz.2.2, fun H2 s2 => ?_⟩
      refine ⟨_, rfl, rfl, _, rfl, ?_⟩
      rw [atV_none]
      have s12 := s1.trans s2
      cases e : (wrongAt regD (itemsD d) [] 0).isNone with
      | true => exact iteN (by decide) (q (by unfold partsD; rw [yes, e]; rfl) _ s12)
      | false =>
        refine iteP rfl ⟨_, rfl, rfl, by show 1 ≤ 1000; decide, flies1 ?_⟩
        have x := qe (by unfold partsD; rw [yes, e]; rfl)
        unfold partsN at x
        rw [if_pos yes] at x
        exact (x.same s12).now
abbrev s_check_modes : Stmt := top 33
abbrev N_check_modes : List Str := ["modes", "wrong"]
theorem sc_check_modes : FnScope N_check_modes ["modes"] (defScope s_check_modes) := ⟨rfl, rfl, rfl, by decide +kernel, rfl, by decide +kernel, by decide +kernel⟩
theorem ok_check_modes {f0 : Addr} (h : Has K mg "check_modes" s_check_modes ["modes"]) (g0 : mg "is_mode" = some (.ref f0)) (O_is_listing : Ok P w K mg base 1 "is_listing" ["value", "least", "most"] spListD) (O_first_wrong : Ok P w K mg base 5 "first_wrong" ["parts", "is_part"] (spFirstD f0 modeD))
    (XG : XRz P w K mg base "InvalidModes" CG 1 (sp1n "number" CG)) : OkX P w K mg base 6 "check_modes" ["modes"] (spChkParts modeD 4 CG) := by
  obtain ⟨f, fd, g, b, F⟩ := h
  refine ⟨f, fd, g, F.kp, b, F.okX sc_check_modes (fun vs H Q E h => ?_) (fun cdv A outer s H vs Q E hr h => ?_)⟩
  · obtain ⟨v, d, rfl, _⟩ := h
    rfl
  · obtain ⟨v, d, rfl, hd, sz, q, qe⟩ := h
    refine ⟨_, (pss_cons (ps_if (pt_not (pt_val (pe_cO O_is_listing (hr.mono (by decide)) pass0 rfl (pa_cons (pv 0) (pa_cons pe_int (pa_cons pe_int pa_nil))))))
        (pss_one (ps_raiseN XG (hr.mono (by decide)) rfl (takes_of rfl rfl rfl rfl) rfl (pa_cons pe_non pa_nil)))
        pss_nil)
      (pss_cons (ps_set (i := 1) sc_check_modes.nd rfl (.inl rfl) (pe_cO O_first_wrong (hr.mono (by decide)) pass0 rfl (pa_cons (pv 0) (pa_cons (pe_glob (v := .ref f0) rfl g0 rfl) pa_nil))))
      (pss_one (ps_if (pt_cmpR op_notN (pv 1) pe_non (nomark _))
        (pss_one (ps_raiseN XG (hr.mono (by decide)) rfl (takes_of rfl rfl rfl rfl) rfl (pa_cons (pv 1) pa_nil)))
        pss_nil)))), ?_⟩
    refine PureT.sqn (x := !listD d 1 4) (PureT.no fun Q q => ⟨_, rfl, v, d, _, _, rfl, hd, fun H1 s1 => ⟨_, rfl, q _ s1⟩⟩) (fun tt H1 s1 => ?_) (fun ff H1 s1 => ?_)
    · have no := no_tt tt
      refine ⟨rfl, by show 1 ≤ 1000; decide, flies1 ?_⟩
      have x := qe (by unfold partsD; rw [no]; rfl)
      unfold partsN at x
      rw [no, if_neg (by decide)] at x
      exact (x.same s1).now
    · have yes := no_ff ff
      have sq : isSeq d = true := (Bool.and_eq_true_iff.mp yes).1
      refine ⟨_, rfl, v, d, rfl, hd.fr (Fm.of s1), sq, sz.1, sz.2.2, fun H2 s2 => ?_⟩
      refine ⟨_, rfl, rfl, _, rfl, ?_⟩
      rw [atV_none]
      have s12 := s1.trans s2
      cases e : (wrongAt modeD (itemsD d) [] 0).isNone with
      | true => exact iteN (by decide) (q (by unfold partsD; rw [yes, e]; rfl) _ s12)
      | false =>
        refine iteP rfl ⟨_, rfl, rfl, by show 1 ≤ 1000; decide, flies1 ?_⟩
        have x := qe (by unfold partsD; rw [yes, e]; rfl)
        unfold partsN at x
        rw [if_pos yes] at x
        exact (x.same s12).now
end
/-! ### rows -/
section
variable {P : Program} {w : World} {K : PySem.W.Frag} {mg : Str → Option Value} {base : Heap} {aR CI : Addr}
def EX2 (C : Addr) (f : Str) (v : V) (g : Str) (u : V) (E : XK) (H : Hp) : Prop := ∀ H' dx, Same H H' → H' dx = none → E (.ref C) (some dx) (upd H' dx (.xd [(g, u), (f, v)]))
theorem EX2.same {C : Addr} {f g : Str} {v u : V} {E : XK} {H H1 : Hp} (x : EX2 C f v g u E H) (s : Same H H1) : EX2 C f v g u E H1 := fun H' dx s' n => x H' dx (s.trans s') n
theorem EX2.now {C : Addr} {f g : Str} {v u : V} {E : XK} {H : Hp} (x : EX2 C f v g u E H) : ∀ dx, H dx = none → E (.ref C) (some dx) (upd H dx (.xd [(g, u), (f, v)])) := fun dx n => x H dx (Same.refl _) n
def keyD (d : PyData) : PyData := .tuple [itD d 0, itD d 1]
def keyIn (k : PyData) (ks : List PyData) : Bool := ks.any fun z => PyData.eqv z k
def wrongRow (size : Int) (many : Nat) (zs : List Str) : List PyData → List PyData → Nat → Option Nat
  | [], ks, i => if keyIn (.tuple [.none, .none]) ks = true then none else some i
  | d :: ds, ks, i => if (!rowD d size many zs || keyIn (keyD d) ks) = true then some i else wrongRow size many zs ds (ks ++ [keyD d]) (i + 1)
/-- a key's part -/
def NI (d : PyData) : Prop := d = .none ∨ ∃ i, d = .int i
theorem optD_NI {d : PyData} {lo hi : Int} (h : optD d (betw d lo hi) = true) : NI d := by
  cases d <;> first | exact .inl rfl | exact .inr ⟨_, rfl⟩ | cases h
theorem rowD_NI {d : PyData} {size : Int} {many : Nat} {zs : List Str} (h : rowD d size many zs = true) : isTup d = true ∧ (itemsD d).length = 4 ∧ NI (itD d 0) ∧ NI (itD d 1) := by
  unfold rowD at h
  simp only [Bool.and_eq_true] at h
  obtain ⟨h1, h2, ⟨h3, h4⟩, _⟩ := h
  exact ⟨h1, of_decide_eq_true h2, optD_NI h3, optD_NI h4⟩
theorem NI.dt {d : PyData} (n : NI d) {Z Z' : Addr → Prop} {H H' : Hp} {v : V} (h : Dt Z H v d) : Dt Z' H' v d := by
  rcases n with rfl | ⟨i, rfl⟩
  · cases h
    exact .non
  · cases h
    exact .int i
theorem NI.shp {d : PyData} (n : NI d) : Shp 0 d := by
  rcases n with rfl | ⟨i, rfl⟩
  · exact shp_none
  · exact shp_int
theorem DtAll.snoc {Z : Addr → Prop} {H : Hp} {x : V} {e : PyData} (h : Dt Z H x e) : ∀ {xs : List V} {ds : List PyData}, DtAll Z H xs ds → DtAll Z H (xs ++ [x]) (ds ++ [e])
  | [], _, .nil => .cons h .nil
  | _ :: _, _, .cons a t => .cons a (DtAll.snoc h t)
def spChkRows (CI : Addr) : Sp := fun vs H Q E => ∃ md v d size many nm zs, vs = [md, v, .int size, .int ((many : Nat) : Int), .ref nm] ∧ Dt Z0 H v d ∧ isSeq d = true ∧ (itemsD d).length ≤ 1000 ∧ (∀ x ∈ itemsD d, Sz 2 x) ∧ H nm = some (.lst (zs.map V.str)) ∧
  (wrongRow size many zs (itemsD d) [] 0 = none → ∀ H', Same H H' → Q .non H') ∧ ∀ i, wrongRow size many zs (itemsD d) [] 0 = some i → EX2 CI "mode" md "number" (.int (i : Nat)) E H
abbrev s_check_rows : Stmt := top 34
abbrev N_check_rows : List Str := ["mode", "rows", "size", "many", "names", "keys", "at", "row"]
theorem sc_check_rows : FnScope N_check_rows ["mode", "rows", "size", "many", "names"] (defScope s_check_rows) := ⟨rfl, rfl, rfl, by decide +kernel, rfl, by decide +kernel, by decide +kernel⟩
theorem ok_check_rows (h : Has K mg "check_rows" s_check_rows ["mode", "rows", "size", "many", "names"]) (PT : PTx K mg aR) (O_is_row : Ok P w K mg base 4 "is_row" ["value", "size", "many", "names"] spRowD) (XI : XRz P w K mg base "InvalidRow" CI 2 (sp2n "mode" "number" CI)) :
    OkX P w K mg base 5 "check_rows" ["mode", "rows", "size", "many", "names"] (spChkRows CI) := by
  obtain ⟨f, fd, g, b, F⟩ := h
  have T := PT.T
  refine ⟨f, fd, g, F.kp, b, F.okX sc_check_rows (fun vs H Q E h => ?_) (fun cdv A outer s H vs Q E hr h => ?_)⟩
  · obtain ⟨md, v, d, size, many, nm, zs, rfl, _⟩ := h
    rfl
  · obtain ⟨md, v, d, size, many, nm, zs, rfl, hd, sq, few, sz, hn, q, qe⟩ := h
    obtain ⟨l, xs, rfl, dx, ha, _⟩ := hd.seq sq
    have hl := dx.len
    have hu : (cxOf (L2.CX P w) P w K mg base N_check_rows "check_rows" (defScope s_check_rows) f cdv A outer s H E).A.units + 65 < cLine := by
      have h1 := (hr.mono (show 1 ≤ 4 by decide)).in1.units
      exact Nat.lt_of_le_of_lt (Nat.le_of_eq (Nat.add_assoc _ 1 64).symm) h1
    refine ⟨_, (pss_cons (ps_set (i := 5) sc_check_rows.nd rfl (.inl rfl) (pe_lst pa_nil))
      (pss_cons (ps_for (passes_of rfl) rfl (pi_enumS (by rfl) T.enumerate (pa_cons (pv 1) pa_nil)) (pgT (n := 2) (by rfl) (pgs_cons (pg_name (i := 6) sc_check_rows.nd rfl (.inl rfl)) (pgs_cons (pg_name (i := 7) sc_check_rows.nd rfl (.inl rfl)) pgs_nil)))
        (pss_cons (ps_if (PW.pt (pw_or (pt_not (pt_val (pe_cO O_is_row (hr.mono (by decide)) pass0 rfl (pa_cons (pv 7) (pa_cons (pv 2) (pa_cons (pv 3) (pa_cons (pv 4) pa_nil))))))) (pw_or1 (pt_cmpR (op_inD hu) (pe_slice slt (pv 7) po_none (po_some pe_int)) (pv 5) (by rfl)))))
          (pss_one (ps_raiseN XI (hr.mono (by decide)) rfl (takes_of rfl rfl rfl rfl) rfl (pa_cons (pv 0) (pa_cons (pv 6) pa_nil))))
          pss_nil)
        (pss_one (ps_expr (pe_bm PySem.F.plainAttrs_list PySem.F.slot_list_append PySem.F.type_list_append mt_append (pv 5) (pa_cons (pe_slice slt (pv 7) po_none (po_some pe_int)) pa_nil))))))
      (pss_one (ps_if (pt_cmpR (op_notInD hu) (pe_tup (pa_cons pe_non (pa_cons pe_non pa_nil))) (pv 5) (by rfl))
        (pss_one (ps_raiseN XI (hr.mono (by decide)) rfl (takes_of rfl rfl rfl rfl) rfl (pa_cons (pv 0) (pa_cons (pe_callB lenT (by rfl) T.len bb_len (pa_cons (pv 1) pa_nil)) pa_nil))))
        pss_nil)))), ?_⟩
    refine ⟨by show 0 ≤ sizeLine; decide, fun D hD => ?_⟩
    obtain ⟨o, ho, at_l⟩ : ∃ o, (o = .lst xs ∨ o = .tup xs) ∧ H l = some o := ha.elim (fun h => ⟨_, .inl rfl, h⟩) fun h => ⟨_, .inr rfl, h⟩
    refine ⟨_, rfl, l, xs, o, rfl, ho, (Same.new hD) _ _ at_l, fun J wk => for_it wk (fun i σ H' => Same H H' ∧ ∃ (ks : List V) (kd : List PyData), ks.length = i ∧ H' D = some (.lst ks) ∧ DtAll (Zp D) H' ks kd ∧ (∀ k ∈ kd, Shp 1 k) ∧ wrongRow size many zs (itemsD d) [] 0 = wrongRow size many zs ((itemsD d).drop i) kd i ∧ ∃ v6 v7 : Option V, σ = [some md, some (.ref l), some (.int size), some (.int ((many : Nat) : Int)), some (.ref nm), some (.ref D), v6, v7])
      ⟨Same.new hD, [], [], rfl, upd_same, .nil, (fun k hk => by cases hk), rfl, none, none, rfl⟩ (fun i σ H' _ z => z.1 _ _ at_l) ?_ ?_⟩
    · rintro i x σ H1 H2 hi ⟨s1, ks, kd, ln, h1, dk, shp, ew, v6, v7, rfl⟩ ⟨T', x', y', rfl, hT, rfl, e1, e2⟩
      have e2 : xs[i]? = some y' := e2
      have e1 : some (V.int (i : Nat)) = some x' := e1
      obtain rfl := Option.some.inj e1
      obtain ⟨di, ei, dt⟩ := dx.get e2
      have s2 : Same H1 (upd H1 T' (.tup [.int (i : Nat), y'])) := Same.new hT
      have d2 : (upd H1 T' (.tup [.int (i : Nat), y'])) T' = some (.tup [.int (i : Nat), y']) := upd_same
      generalize upd H1 T' (.tup [.int (i : Nat), y']) = H2 at s2 d2 ⊢
      refine ⟨T', _, rfl, d2, rfl, _, _, rfl, _, _, rfl, rfl, ?_⟩
      have s12 := s1.trans s2
      have dt2 := dt.fr (Fm.of s12)
      have more : (itemsD d).drop i = di :: (itemsD d).drop (i + 1) := by
        obtain ⟨lt, e⟩ := List.getElem?_eq_some_iff.mp ei
        rw [List.drop_eq_getElem_cons lt, e]
      rw [more] at ew
      have z1 := sz di (List.mem_of_getElem? ei)
      dsimp only
      refine PureT.sqn (x := !rowD di size many zs || keyIn (keyD di) kd) (PureT.orc (PureT.no ?call) ?isin) (fun tt H3 s3 => ?ret) (fun ff H3 s3 => ?go)
      case call =>
        exact fun Q q => ⟨_, rfl, _, rfl, _, rfl, _, rfl, y', di, size, many, nm, zs, rfl, dt2, z1, s12 _ _ hn, fun H3 s3 => ⟨_, rfl, q _ s3⟩⟩
      case isin =>
        intro ok H3 s3
        obtain ⟨tu, l4, n0, n1⟩ := rowD_NI (no_ff ok)
        obtain ⟨a2, xs2, rfl, dx2, ha2, _, _⟩ := (dt2.fr (Fm.of s3)).tupOf tu
        obtain ⟨x0, x1, x2, x3, d0, d1, d2', d3, rfl, eds, h0, h1', h2, h3⟩ := four_dt dx2 l4
        have e0 : itD di 0 = d0 := by unfold itD; rw [eds]; rfl
        have e1 : itD di 1 = d1 := by unfold itD; rw [eds]; rfl
        rw [e0] at n0
        rw [e1] at n1
        have ek : keyD di = .tuple [d0, d1] := by unfold keyD; rw [e0, e1]
        intro Q q
        refine ⟨_, rfl, 2, rfl, a2, _, rfl, ha2, (fun h => absurd (show HT.sIx 4 4 (some 2) = 4 from h.2) (by decide)), fun p hp => ?_⟩
        have s4 : Same H3 (upd H3 p (.tup [x0, x1])) := Same.new hp
        have d4 : (upd H3 p (.tup [x0, x1])) p = some (.tup [x0, x1]) := upd_same
        show tVar 5 _ (upd H3 p (.tup [x0, x1])) _
        generalize upd H3 p (.tup [x0, x1]) = H4 at s4 d4 ⊢
        have s24 := (s2.trans s3).trans s4
        have dk4 : DtAll (Zp D) H4 ks kd := dk.fr (Fm.of s24)
        refine ⟨_, rfl, .tuple [d0, d1], kd, .tup (SqT.of d4) (.cons (n0.dt (Z' := Z0) (H' := H4) h0).dp (.cons (n1.dt (Z' := Z0) (H' := H4) h1').dp .nil)), .lst (SqL.of (s24 _ _ h1)) dk4.dp', (shp_tup (n := 0) ?_).ok, (shp_list shp).ok, _, rfl, ?_⟩
        · intro z hz
          simp only [List.mem_cons, List.not_mem_nil, or_false] at hz
          rcases hz with rfl | rfl
          · exact n0.shp
          · exact n1.shp
        · rw [← ek]
          exact q _ s4
      case ret =>
        have x := qe i (by rw [ew, wrongRow, if_pos tt])
        exact ⟨_, rfl, _, rfl, rfl, by show 2 ≤ 1000; decide, flies2 (x.same (s12.trans s3)).now⟩
      case go =>
        obtain ⟨tu, l4, n0, n1⟩ := rowD_NI (no_ff (Bool.or_eq_false_iff.mp ff).1)
        obtain ⟨a2, xs2, rfl, dx2, ha2, _, _⟩ := (dt2.fr (Fm.of s3)).tupOf tu
        obtain ⟨x0, x1, x2, x3, d0, d1, d2', d3, rfl, eds, h0, h1', h2, h3⟩ := four_dt dx2 l4
        have e0 : itD di 0 = d0 := by unfold itD; rw [eds]; rfl
        have e1 : itD di 1 = d1 := by unfold itD; rw [eds]; rfl
        rw [e0] at n0
        rw [e1] at n1
        have ek : keyD di = .tuple [d0, d1] := by unfold keyD; rw [e0, e1]
        have hD3 := s3 _ _ (s2 _ _ h1)
        refine ⟨_, rfl, .inl ⟨rfl, _, SqL.of hD3⟩, _, rfl, 2, rfl, a2, _, rfl, ha2, (fun h => absurd (show HT.sIx 4 4 (some 2) = 4 from h.2) (by decide)), fun p hp => ?_⟩
        have s4 : Same H3 (upd H3 p (.tup [x0, x1])) := Same.new hp
        have d4 : (upd H3 p (.tup [x0, x1])) p = some (.tup [x0, x1]) := upd_same
        have s4 : Same H3 (upd H3 p (.tup (cutV [x0, x1, x2, x3] none (some 2)))) := s4
        have d4 : (upd H3 p (.tup (cutV [x0, x1, x2, x3] none (some 2)))) p = some (.tup [x0, x1]) := d4
        generalize upd H3 p (.tup (cutV [x0, x1, x2, x3] none (some 2))) = H4 at s4 d4 ⊢
        have s24 := (s2.trans s3).trans s4
        have hD4 := s24 _ _ h1
        have pD : p ≠ D := (ne_of_none hD3 hp).symm
        refine ⟨D, _, _, rfl, rfl, hD4, by rw [ln]; exact Nat.lt_of_lt_of_le (by omega : i < 1000) (by decide), ?_⟩
        have fr : Fm (Zp D) H4 (upd H4 D (.lst (ks ++ [.ref p]))) := fun b o e nb => by rw [upd_ne nb]; exact e
        refine ⟨fun b o e => ?_, ks ++ [.ref p], kd ++ [keyD di], by rw [List.length_append, ln]; rfl, upd_same, ?_, ?_, ?_, _, _, rfl⟩
        · rw [upd_ne (ne_of_none e hD)]
          exact s24 _ _ (s1 _ _ e)
        · rw [ek]
          exact DtAll.snoc (.tup (fr _ _ d4 pD) pD (.cons (n0.dt h0) (.cons (n1.dt h1') .nil))) ((dk.fr (Fm.of s24)).fr fr)
        · intro k hk
          rcases List.mem_append.mp hk with hk | hk
          · exact shp k hk
          · rw [List.mem_singleton.mp hk, ek]
            refine shp_tup (n := 0) fun z hz => ?_
            simp only [List.mem_cons, List.not_mem_nil, or_false] at hz
            rcases hz with rfl | rfl
            · exact n0.shp
            · exact n1.shp
        · rw [ew, wrongRow, if_neg (by rw [ff]; decide)]
    · rintro σ H1 ⟨s1, ks, kd, ln, h1, dk, shp, ew, v6, v7, rfl⟩
      rw [hl, List.drop_of_length_le (Nat.le_refl _), wrongRow] at ew
      refine ⟨by show 2 ≤ sizeLine; decide, fun p hp => ?_⟩
      have s2 : Same H1 (upd H1 p (.tup [.non, .non])) := Same.new hp
      have d2 : (upd H1 p (.tup [.non, .non])) p = some (.tup [.non, .non]) := upd_same
      generalize upd H1 p (.tup [.non, .non]) = H2 at s2 d2 ⊢
      have s12 := s1.trans s2
      refine ⟨_, rfl, .tuple [.none, .none], kd, .tup (SqT.of d2) (.cons .non (.cons .non .nil)), .lst (SqL.of (s2 _ _ h1)) (dk.fr (Fm.of s2)).dp', by decide +kernel, (shp_list shp).ok, _, rfl, ?_⟩
      show if (!keyIn (.tuple [.none, .none]) kd) = true then _ else _
      cases e : keyIn (.tuple [.none, .none]) kd with
      | true =>
        rw [e, if_pos rfl] at ew
        exact iteN (by decide) (q ew _ s12)
      | false =>
        rw [e, if_neg (by decide)] at ew
        have x := qe _ ew
        refine iteP rfl ⟨_, rfl, _, rfl, l, xs, rfl, ha.elim (fun h => .inl (s12 _ _ h)) (fun h => .inr (s12 _ _ h)), rfl, by show 2 ≤ 1000; decide, flies2 ?_⟩
        rw [hl]
        exact (x.same s12).now
end
/-! ### ends -/
section
variable {P : Program} {w : World} {K : PySem.W.Frag} {mg : Str → Option Value} {base : Heap} {aR CE : Addr}
def iOf (d : PyData) : Int := match d with | .int i => i | _ => 0
/-- from the i-th on, each more than the one before -/
def incAt (ds : List PyData) (i : Nat) : Bool := (List.range (ds.length - 1 - i)).all fun j => decide (iOf (ds.getD (i + j) .none) < iOf (ds.getD (i + j + 1) .none))
def endsD (d : PyData) (n : Int) : Bool := isSeq d && ((itemsD d).all (fun x => remD x n) && incAt (itemsD d) 0)
theorem rem_int {d : PyData} {n : Int} (h : remD d n = true) : d = .int (iOf d) := by
  cases d <;> first | rfl | cases h
def spChkEnds (CE : Addr) : Sp := fun vs H Q E => ∃ v d n, vs = [v, .int n] ∧ Dt Z0 H v d ∧ (itemsD d).length ≤ 1000 ∧ (endsD d n = true → ∀ H', Same H H' → Q .non H') ∧ (endsD d n = false → EX1 CE "value" v E H)
theorem ixs {X : Cx} : IxR X (fun x y H Q => rIxl x y H Q ∨ rIxt x y H Q) := ixl.or ixt
theorem ix_any {H : Hp} {a : Addr} {xs : List V} {i : Int} {v : V} {Q : VK} (h : H a = some (.lst xs) ∨ H a = some (.tup xs)) (g : atI xs i = some v) (q : Q v H) : rIxl (.ref a) (.int i) H Q ∨ rIxt (.ref a) (.int i) H Q :=
  h.imp (fun h => ⟨a, xs, _, _, rfl, rfl, h, g, q⟩) fun h => ⟨a, xs, _, _, rfl, rfl, h, g, q⟩
theorem incAt_step {ds : List PyData} {i : Nat} (h : i < ds.length - 1) : incAt ds i = (decide (iOf (ds.getD i .none) < iOf (ds.getD (i + 1) .none)) && incAt ds (i + 1)) := by
  unfold incAt
  rw [show ds.length - 1 - i = (ds.length - 1 - (i + 1)) + 1 by omega, List.range_succ_eq_map, List.all_cons, List.all_map]
  congr 1
  refine congrArg _ (funext fun j => ?_)
  show decide _ = decide _
  rw [show i + (j + 1) = i + 1 + j by omega]
abbrev s_check_ends : Stmt := top 35
abbrev N_check_ends : List Str := ["ends", "size", "end", "at"]
theorem sc_check_ends : FnScope N_check_ends ["ends", "size"] (defScope s_check_ends) := ⟨rfl, rfl, rfl, by decide +kernel, rfl, by decide +kernel, by decide +kernel⟩
theorem ok_check_ends (h : Has K mg "check_ends" s_check_ends ["ends", "size"]) (PT : PTx K mg aR) (O_is_remainder : Ok P w K mg base 3 "is_remainder" ["value", "size"] spRemD) (XE : XRz P w K mg base "InvalidEnds" CE 1 (sp1n "value" CE)) :
    OkX P w K mg base 4 "check_ends" ["ends", "size"] (spChkEnds CE) := by
  obtain ⟨f, fd, g, b, F⟩ := h
  have T := PT.T
  refine ⟨f, fd, g, F.kp, b, F.okX sc_check_ends (fun vs H Q E h => ?_) (fun cdv A outer s H vs Q E hr h => ?_)⟩
  · obtain ⟨v, d, n, rfl, _⟩ := h
    rfl
  · obtain ⟨v, d, n, rfl, hd, few, q, qe⟩ := h
    refine ⟨_, (pss_cons (ps_if (PW.pt (pw_or (pt_not (pt_val (pe_callB call_isiT (by rfl) T.isinstance bb_isinstance (pa_cons (pv 0) (pa_cons (pe_tup (pa_cons (pe_bltn (v := .ty "list") (by rfl) T.list bb_list rfl) (pa_cons (pe_bltn (v := .ty "tuple") (by rfl) T.tuple bb_tuple rfl) pa_nil))) pa_nil))))) (pw_or1 (pt_not (pt_val (pe_callB (allT rfl) (by rfl) T.all bb_all (pa_cons (pe_lc (own := [("end", 2)]) (g := (gName 2)) (tt := tYes) rfl sc_check_ends.nd (pi_seq (pv 0)) (blkOk_by (N := N_check_ends) (sc := defScope s_check_ends) (by decide +kernel)) (fun _ _ _ _ _ => (pg_name (i := 2) sc_check_ends.nd rfl (by first | exact Or.inl rfl | exact Or.inr rfl))) (fun _ _ _ _ _ => pts_nil) (fun _ _ _ _ _ => (pe_cO O_is_remainder (hr.mono (by decide)) pass0 rfl (pa_cons (pv 2) (pa_cons (pv 1) pa_nil))))) pa_nil)))))))
        (pss_one (ps_raiseN XE (hr.mono (by decide)) rfl (takes_of rfl rfl rfl rfl) rfl (pa_cons (pv 0) pa_nil)))
        pss_nil)
      (pss_one (ps_for (passes_of rfl) rfl (pi_range2 (by rfl) T.range (pa_cons pe_int (pa_cons (pe_callB lenT (by rfl) T.len bb_len (pa_cons (pv 0) pa_nil)) pa_nil))) (pg_name (i := 3) sc_check_ends.nd rfl (.inl rfl))
        (pss_one (ps_if (pt_cmpR op_ge (pe_ix ixs (pv 0) (pe_op op_sub (pv 3) pe_int) (fun _ _ => rfl)) (pe_ix ixs (pv 0) (pv 3) (fun _ _ => rfl)) (nomark _))
          (pss_one (ps_raiseN XE (hr.mono (by decide)) rfl (takes_of rfl rfl rfl rfl) rfl (pa_cons (pv 0) pa_nil)))
          pss_nil))))), ?_⟩
    refine PureT.sqn (x := !isSeq d || !(itemsD d).all (fun x => remD x n)) (PureT.orc (PureT.no ?sq) ?al) (fun tt H1 s1 => ?no) (fun ff H1 s1 => ?go)
    case sq =>
      intro Q q
      refine ⟨_, rfl, (by show 2 ≤ sizeLine; decide), fun t ht => ?_⟩
      have s1 : Same H (upd H t (.tup [.ty "list", .ty "tuple"])) := Same.new ht
      have d1 := hd.fr (Fm.of s1)
      exact ⟨_, _, _, _, _, _, rfl, upd_same, pairedLT, d1.ty, d1.kSeq, _, rfl, q _ s1⟩
    case al =>
      intro sq H1 s1
      have d1 := hd.fr (Fm.of s1)
      obtain ⟨a, xs, rfl, dx, ha, _⟩ := d1.seq (no_ff sq)
      have hl := dx.len
      obtain ⟨o, ho, at_a⟩ : ∃ o, (o = .lst xs ∨ o = .tup xs) ∧ H1 a = some o := ha.elim (fun h => ⟨_, .inl rfl, h⟩) fun h => ⟨_, .inr rfl, h⟩
      refine PureT.no fun Q q => ⟨_, rfl, a, xs, o, rfl, ho, at_a, fun J wk D hD => ?_⟩
      refine lc_vals wk Z0 (fun _ => True) ((itemsD d).map fun d => V.bl (remD d n)) (by simp [hl]) hD id True.intro (fun _ _ _ _ => True.intro) (by rw [hl]; exact Nat.lt_of_le_of_lt few (by decide)) (fun H f => f _ _ at_a id) ?_ ?_
      · intro i x k H4 H5 Qk ek f _ _ y z
        obtain ⟨rfl, ex⟩ := y
        rw [List.getElem?_map] at ek
        obtain ⟨di, e1, rfl⟩ := Option.map_eq_some_iff.mp ek
        obtain ⟨d', e2, dt⟩ := dx.get ex
        rw [e1] at e2
        cases e2
        exact ⟨rfl, _, rfl, _, rfl, x, di, n, rfl, dt.fr f, z _ Fm.refl True.intro⟩
      · intro H4 f _ hD4
        refine ⟨D, (itemsD d).map fun x => remD x n, rfl, by rw [hD4, List.map_map]; rfl, ?_⟩
        refine ⟨_, rfl, ?_⟩
        rw [List.all_map]
        exact q H4 f.same
    case no =>
      refine ⟨_, rfl, rfl, by show 1 ≤ 1000; decide, flies1 ?_⟩
      have x := qe (by
        unfold endsD
        rcases Bool.or_eq_true_iff.mp tt with z | z
        · rw [no_tt z]; rfl
        · rw [no_tt z, Bool.false_and, Bool.and_false])
      exact (x.same s1).now
    case go =>
      obtain ⟨z1, z2⟩ := Bool.or_eq_false_iff.mp ff
      have sq := no_ff z1
      have al := no_ff z2
      have ed : endsD d n = incAt (itemsD d) 0 := by unfold endsD; rw [sq, al]; rfl
      rw [ed] at q qe
      have d1 := hd.fr (Fm.of s1)
      obtain ⟨a, xs, rfl, dx, ha, _⟩ := d1.seq sq
      have hl := dx.len
      have at_i : ∀ i, i < (itemsD d).length → xs[i]? = some (.int (iOf ((itemsD d).getD i .none))) := fun i hi => by
        have e : (itemsD d)[i]? = some ((itemsD d).getD i .none) := by rw [List.getD_eq_getElem?_getD, List.getElem?_eq_getElem hi]; rfl
        have r := rem_int (List.all_eq_true.mp al _ (List.mem_of_getElem? e))
        have hx : i < xs.length := by omega
        obtain ⟨d', e2, dt⟩ := dx.get (List.getElem?_eq_getElem hx)
        rw [e] at e2
        cases e2
        rw [r] at dt
        rw [List.getElem?_eq_getElem hx]
        generalize xs[i] = y at dt
        cases dt
        rfl
      refine ⟨_, rfl, a, xs, rfl, ha, 1, _, rfl, ⟨by decide, by decide, by omega, by omega⟩, for_range (n := ((xs.length : Int) - 1).toNat) (fun i σ H' => Same H1 H' ∧ (incAt (itemsD d) 0 = incAt (itemsD d) i) ∧ ∃ v2 v3 : Option V, σ = [some (.ref a), some (.int n), v2, v3]) ⟨Same.refl _, rfl, _, _, rfl⟩ ?_ ?_⟩
      · rintro i σ H2 hi ⟨s2, ei, v2, v3, rfl⟩
        have hi : i < (itemsD d).length - 1 := by omega
        rw [incAt_step hi] at ei
        have ha2 := ha.imp (s2 _ _) (s2 _ _)
        have g0 : atI xs ((1 + (i : Nat) : Int) - 1) = some (.int (iOf ((itemsD d).getD i .none))) := by
          rw [show (1 + (i : Nat) : Int) - 1 = ((i : Nat) : Int) by omega]
          exact atI_nat (at_i i (by omega))
        have g1 : atI xs (1 + (i : Nat) : Int) = some (.int (iOf ((itemsD d).getD (i + 1) .none))) := by
          rw [show (1 + (i : Nat) : Int) = ((i + 1 : Nat) : Int) by omega]
          exact atI_nat (at_i (i + 1) (by omega))
        refine ⟨_, rfl, _, rfl, _, _, rfl, rfl, ix_any ha2 g0 ⟨_, rfl, _, rfl, ix_any ha2 g1 ⟨_, _, rfl, rfl, _, rfl, ?_⟩⟩⟩
        by_cases c : iOf ((itemsD d).getD (i + 1) .none) ≤ iOf ((itemsD d).getD i .none)
        · refine iteP (decide_eq_true c) ⟨_, rfl, rfl, by show 1 ≤ 1000; decide, flies1 ?_⟩
          have x := qe (by rw [ei, decide_eq_false (show ¬ iOf ((itemsD d).getD i .none) < iOf ((itemsD d).getD (i + 1) .none) by omega)]; rfl)
          exact (x.same (s1.trans s2)).now
        · refine iteN (by rw [decide_eq_false c]; decide) ⟨s2, ?_, _, _, rfl⟩
          rw [ei, decide_eq_true (show iOf ((itemsD d).getD i .none) < iOf ((itemsD d).getD (i + 1) .none) by omega), Bool.true_and]
      · rintro σ H2 ⟨s2, ei, v2, v3, rfl⟩
        refine q ?_ _ (s1.trans s2)
        rw [ei]
        unfold incAt
        rw [show (itemsD d).length - 1 - ((xs.length : Int) - 1).toNat = 0 by omega]
        rfl
end
/-! ### the whole of a program's parts -/
section
variable {P : Program} {w : World} {K : PySem.W.Frag} {mg : Str → Option Value} {base : Heap} {aR CB CG CM CI CE CR : Addr}
theorem Sz.less : ∀ {n : Nat} {d : PyData}, Sz (n + 1) d → Sz n d
  | 0, _, h => ⟨h.1, h.2.1⟩
  | _ + 1, _, h => ⟨h.1, h.2.1, fun x hx => Sz.less (h.2.2 x hx)⟩
theorem Sz.mono {n m : Nat} {d : PyData} (h : Sz n d) (l : m ≤ n) : Sz m d := by
  induction n with
  | zero => rw [Nat.le_zero.mp l]; exact h
  | succ n ih =>
    rcases Nat.lt_or_ge m (n + 1) with z | z
    · exact ih h.less (by omega)
    · rw [Nat.le_antisymm l z]; exact h
theorem Sz.item {n : Nat} {d : PyData} (h : Sz (n + 1) d) (i : Nat) : Sz n (itD d i) := by
  unfold itD
  rw [List.getD_eq_getElem?_getD]
  cases e : (itemsD d)[i]? with
  | some x => exact h.2.2 x (List.mem_of_getElem? e)
  | none =>
    have z : ∀ n, Sz n .none := fun n => by
      induction n with
      | zero => exact ⟨by decide, fun s h => by cases h⟩
      | succ n ih => exact ⟨by decide, fun s h => (by cases h), fun x hx => by cases hx⟩
    exact z n
inductive PErr where
  | base | regs (n : V) | modes (n : V) | row (md : V) (i : Nat) | ends | result
def rowsErr (size : Int) (many : Nat) (zs : List Str) : List PyData → Option PErr
  | [] => none
  | d :: ds => match wrongRow size many zs (itemsD (itD d 2)) [] 0 with
    | some i => some (.row (.str (nmOf d)) i)
    | none => rowsErr size many zs ds
def sizeD (d : PyData) : Int := if iOf d < 0 then -iOf d else iOf d
def progErr (d0 d1 d2 d3 d4 : PyData) : Option PErr :=
  if baseD d0 = false then some .base else if partsD regD 3 d1 = false then some (.regs (partsN regD 3 d1)) else if partsD modeD 4 d2 = false then some (.modes (partsN modeD 4 d2)) else
  match rowsErr (sizeD d0) (itemsD d1).length ((itemsD d2).map nmOf) (itemsD d2) with
  | some e => some e
  | none => if endsD d3 (sizeD d0) = false then some .ends else if factD d4 ((itemsD d1).length + 1) = false then some .result else none
/-- what is raised of it -/
def PErr.flies (CB CG CM CI CE CR : Addr) (v0 v3 v4 : V) (E : XK) (H : Hp) : PErr → Prop
  | .base => EX1 CB "value" v0 E H
  | .regs n => EX1 CG "number" n E H
  | .modes n => EX1 CM "number" n E H
  | .row md i => EX2 CI "mode" md "number" (.int (i : Nat)) E H
  | .ends => EX1 CE "value" v3 E H
  | .result => EX1 CR "value" v4 E H
def spChkProg (CB CG CM CI CE CR : Addr) : Sp := fun vs H Q E => ∃ v0 v1 v2 v3 v4 d0 d1 d2 d3 d4, vs = [v0, v1, v2, v3, v4] ∧ Dt Z0 H v0 d0 ∧ Dt Z0 H v1 d1 ∧ Dt Z0 H v2 d2 ∧ Dt Z0 H v3 d3 ∧ Dt Z0 H v4 d4 ∧ Sz 2 d1 ∧ Sz 5 d2 ∧ (itemsD d3).length ≤ 1000 ∧ (itemsD d4).length ≤ 1000 ∧
  (progErr d0 d1 d2 d3 d4 = none → ∀ H', Same H H' → Q .non H') ∧ ∀ e, progErr d0 d1 d2 d3 d4 = some e → PErr.flies CB CG CM CI CE CR v0 v3 v4 E H e
theorem wrongAt_none {part : PyData → Bool} : ∀ {ds : List PyData} {ns : List Str} {i : Nat}, wrongAt part ds ns i = none → ∀ d ∈ ds, part d = true
  | [], _, _, _, _, h => by cases h
  | d :: ds, ns, i, e, x, h => by
    rw [wrongAt] at e
    split at e
    · cases e
    · rename_i c
      have c := Bool.or_eq_false_iff.mp (Bool.eq_false_iff.mpr c)
      rcases List.mem_cons.mp h with rfl | h
      · exact no_ff c.1
      · exact wrongAt_none e x h
theorem partsD_all {part : PyData → Bool} {hi : Int} {d : PyData} (h : partsD part hi d = true) : isSeq d = true ∧ ((itemsD d).length : Int) ≤ hi ∧ ∀ x ∈ itemsD d, part x = true := by
  unfold partsD listD at h
  simp only [Bool.and_eq_true] at h
  obtain ⟨⟨h1, h2, h3⟩, h4⟩ := h
  exact ⟨h1, of_decide_eq_true h3, wrongAt_none (Option.isNone_iff_eq_none.mp h4)⟩
theorem modeD_parts {d : PyData} (h : modeD d = true) : isTup d = true ∧ (itemsD d).length = 3 ∧ (∃ s, itD d 0 = .str s ∧ nmOf d = s) ∧ isSeq (itD d 2) = true := by
  unfold modeD at h
  simp only [Bool.and_eq_true] at h
  obtain ⟨h1, h2, h3, h4, h5⟩ := h
  refine ⟨h1, of_decide_eq_true h2, ?_, h5⟩
  cases d <;> first | cases h1 | skip
  rename_i ds
  have l : ds.length = 3 := of_decide_eq_true h2
  match ds, l with
  | [a, b, c], _ =>
    cases a <;> first | cases h3 | exact ⟨_, rfl, rfl⟩
abbrev s_check_program : Stmt := top 36
abbrev N_check_program : List Str := ["base", "registers", "modes", "ends", "result", "size", "names", "mode", "name", "_", "rows"]
theorem sc_check_program : FnScope N_check_program ["base", "registers", "modes", "ends", "result"] (defScope s_check_program) := ⟨rfl, rfl, rfl, by decide +kernel, rfl, by decide +kernel, by decide +kernel⟩
theorem ok_check_program (h : Has K mg "check_program" s_check_program ["base", "registers", "modes", "ends", "result"]) (PT : PTx K mg aR) (O_is_base : Ok P w K mg base 3 "is_base" ["value"] spBaseD)
    (O_check_registers : OkX P w K mg base 6 "check_registers" ["registers"] (spChkParts regD 3 CG)) (O_check_modes : OkX P w K mg base 6 "check_modes" ["modes"] (spChkParts modeD 4 CM)) (O_check_rows : OkX P w K mg base 5 "check_rows" ["mode", "rows", "size", "many", "names"] (spChkRows CI))
    (O_check_ends : OkX P w K mg base 4 "check_ends" ["ends", "size"] (spChkEnds CE)) (O_is_factors : Ok P w K mg base 3 "is_factors" ["value", "many"] spFactD) (XB : XRz P w K mg base "InvalidBase" CB 1 (sp1n "value" CB)) (XR : XRz P w K mg base "InvalidResult" CR 1 (sp1n "value" CR)) :
    OkX P w K mg base 7 "check_program" ["base", "registers", "modes", "ends", "result"] (spChkProg CB CG CM CI CE CR) := by
  obtain ⟨f, fd, g, b, F⟩ := h
  have T := PT.T
  refine ⟨f, fd, g, F.kp, b, F.okX sc_check_program (fun vs H Q E h => ?_) (fun cdv A outer s H vs Q E hr h => ?_)⟩
  · obtain ⟨v0, v1, v2, v3, v4, d0, d1, d2, d3, d4, rfl, _⟩ := h
    rfl
  · obtain ⟨v0, v1, v2, v3, v4, d0, d1, d2, d3, d4, rfl, h0, h1, h2, h3, h4, z1, z2, z3, z4, q, qe⟩ := h
    have pE : Passes (L2.CX P w) (cxOf (L2.CX P w) P w K mg base N_check_program "check_program" (defScope s_check_program) f cdv A outer s H E) E := passes_call (takes_of rfl rfl rfl rfl) (fun _ _ _ _ z => z)
    refine ⟨_, (pss_cons (ps_if (pt_not (pt_val (pe_cO O_is_base (hr.mono (by decide)) pass0 rfl (pa_cons (pv 0) pa_nil))))
        (pss_one (ps_raiseN XB (hr.mono (by decide)) rfl (takes_of rfl rfl rfl rfl) rfl (pa_cons (pv 0) pa_nil)))
        pss_nil)
      (pss_cons (ps_set (i := 5) sc_check_program.nd rfl (.inl rfl) (pe_callB call_abs (by rfl) T.abs bb_abs (pa_cons (pv 0) pa_nil)))
      (pss_cons (ps_expr (pe_cX O_check_registers (hr.mono (by decide)) pE rfl (pa_cons (pv 1) pa_nil)))
      (pss_cons (ps_expr (pe_cX O_check_modes (hr.mono (by decide)) pE rfl (pa_cons (pv 2) pa_nil)))
      (pss_cons (ps_setLc (i := 6) (own := [("mode", 7)]) (g := (gName 7)) (tt := tYes) rfl sc_check_program.nd rfl rfl (sw_true rfl rfl rfl (by decide +kernel)) (pi_seq (pv 2)) (blkOk_by (N := N_check_program) (sc := defScope s_check_program) (by decide +kernel)) (fun _ _ _ _ _ => (pg_name (i := 7) sc_check_program.nd rfl (by first | exact Or.inl rfl | exact Or.inr rfl))) (fun _ _ _ _ _ => pts_nil) (fun _ _ _ _ _ => (pe_ix ixt (pv 7) pe_int (fun _ _ => rfl))))
      (pss_cons (ps_for (passes_of rfl) rfl (pi_seq (pv 2)) (pgT (n := 3) (by rfl) (pgs_cons (pg_name (i := 8) sc_check_program.nd rfl (.inl rfl)) (pgs_cons (pg_name (i := 9) sc_check_program.nd rfl (.inl rfl)) (pgs_cons (pg_name (i := 10) sc_check_program.nd rfl (.inl rfl)) pgs_nil))))
        (pss_one (ps_expr (pe_cX O_check_rows (hr.mono (by decide)) pE rfl (pa_cons (pv 8) (pa_cons (pv 10) (pa_cons (pv 5) (pa_cons (pe_callB lenT (by rfl) T.len bb_len (pa_cons (pv 1) pa_nil)) (pa_cons (pv 6) pa_nil)))))))))
      (pss_cons (ps_expr (pe_cX O_check_ends (hr.mono (by decide)) pE rfl (pa_cons (pv 3) (pa_cons (pv 5) pa_nil))))
      (pss_one (ps_if (pt_not (pt_val (pe_cO O_is_factors (hr.mono (by decide)) pass0 rfl (pa_cons (pv 4) (pa_cons (pe_op op_add (pe_callB lenT (by rfl) T.len bb_len (pa_cons (pv 1) pa_nil)) pe_int) pa_nil)))))
        (pss_one (ps_raiseN XR (hr.mono (by decide)) rfl (takes_of rfl rfl rfl rfl) rfl (pa_cons (pv 4) pa_nil)))
        pss_nil))))))))), ?_⟩
    unfold progErr at q qe
    refine PureT.sqn (x := !baseD d0) (PureT.no fun Q q => ⟨_, rfl, v0, d0, rfl, h0, _, rfl, q _ (Same.refl _)⟩) (fun tt H1 s1 => ?_) (fun ff H1 s1 => ?_)
    · have x := qe .base (by rw [if_pos (no_tt tt)])
      exact ⟨_, rfl, rfl, by show 1 ≤ 1000; decide, flies1 (EX1.same x s1).now⟩
    · have bs := no_ff ff
      rw [if_neg (by rw [bs]; decide)] at q qe
      obtain ⟨bi, rfl⟩ : ∃ bi, d0 = .int bi := by
        cases d0 <;> first | exact ⟨_, rfl⟩ | cases bs
      cases h0
      refine ⟨_, rfl, bi, rfl, ?_⟩
      cases e1 : partsD regD 3 d1 with
      | false =>
        have x := qe (.regs (partsN regD 3 d1)) (by rw [if_pos e1])
        exact ⟨_, rfl, v1, d1, rfl, h1.fr (Fm.of s1), z1, (fun h => by rw [e1] at h; cases h), fun _ => EX1.same x s1⟩
      | true =>
      rw [if_neg (by rw [e1]; decide)] at q qe
      refine ⟨_, rfl, v1, d1, rfl, h1.fr (Fm.of s1), z1, (fun _ H2 s2 => ?_), fun h => by rw [e1] at h; cases h⟩
      have s12 := s1.trans s2
      cases e2 : partsD modeD 4 d2 with
      | false =>
        have x := qe (.modes (partsN modeD 4 d2)) (by rw [if_pos e2])
        exact ⟨_, rfl, v2, d2, rfl, h2.fr (Fm.of s12), z2.mono (by decide), (fun h => by rw [e2] at h; cases h), fun _ => EX1.same x s12⟩
      | true =>
      rw [if_neg (by rw [e2]; decide)] at q qe
      refine ⟨_, rfl, v2, d2, rfl, h2.fr (Fm.of s12), z2.mono (by decide), (fun _ H3 s3 => ?_), fun h => by rw [e2] at h; cases h⟩
      have s13 := s12.trans s3
      obtain ⟨sq2, m4, all2⟩ := partsD_all e2
      obtain ⟨sq1, _, _⟩ := partsD_all e1
      obtain ⟨l2, xs2, rfl, dx2, ha2, _⟩ := (h2.fr (Fm.of s13)).seq sq2
      have hl2 := dx2.len
      obtain ⟨o2, ho2, at2⟩ : ∃ o, (o = .lst xs2 ∨ o = .tup xs2) ∧ H3 l2 = some o := ha2.elim (fun h => ⟨_, .inl rfl, h⟩) fun h => ⟨_, .inr rfl, h⟩
      refine ⟨_, rfl, l2, xs2, o2, rfl, ho2, at2, fun J wk D hD => ?_⟩
      refine lc_vals wk Z0 (fun _ => True) (((itemsD d2).map nmOf).map V.str) (by simp [hl2]) hD id True.intro (fun _ _ _ _ => True.intro) (by rw [hl2]; exact Nat.lt_of_le_of_lt z2.1 (by decide)) (fun H f => f _ _ at2 id) ?_ ?_
      · intro i x k H4 H5 Qk ek f _ _ y z
        obtain ⟨rfl, ex⟩ := y
        rw [List.map_map, List.getElem?_map] at ek
        obtain ⟨di, e3, rfl⟩ := Option.map_eq_some_iff.mp ek
        obtain ⟨d', e4, dt⟩ := dx2.get ex
        rw [e3] at e4
        cases e4
        obtain ⟨t1, t2, ⟨nm, t3, t4⟩, t5⟩ := modeD_parts (all2 di (List.mem_of_getElem? e3))
        obtain ⟨a, ys, rfl, dy, ha, _, _⟩ := (dt.fr f).tupOf t1
        obtain ⟨y0, y1, y2, g0, g1, g2, rfl, eds, k0, k1, k2⟩ := three_dt dy t2
        have eg : g0 = .str nm := by rw [← t3]; unfold itD; rw [eds]; rfl
        subst eg
        cases k0
        refine ⟨rfl, _, rfl, a, _, 0, _, rfl, rfl, ha, atI0, ?_⟩
        rw [show (V.str ∘ nmOf) di = V.str nm from congrArg V.str t4] at z
        exact z _ Fm.refl True.intro
      · intro H4 f _ hD4
        have s14 := s13.trans f.same
        obtain ⟨l1, xs1, rfl, dx1, ha1, _⟩ := (h1.fr (Fm.of s14)).seq sq1
        have hl1 := dx1.len
        have at4 := f _ _ at2 id
        have sz0 : sizeD (.int bi) = (if bi < 0 then -bi else bi) := rfl
        refine ⟨_, rfl, l2, xs2, o2, rfl, ho2, at4, fun J wk => for_it wk (fun i σ H' => Same H4 H' ∧ rowsErr (sizeD (.int bi)) (itemsD d1).length ((itemsD d2).map nmOf) (itemsD d2) = rowsErr (sizeD (.int bi)) (itemsD d1).length ((itemsD d2).map nmOf) ((itemsD d2).drop i) ∧
          ∃ w7 w8 w9 w10 : Option V, σ = [some (.int bi), some (.ref l1), some (.ref l2), some v3, some v4, some (.int (if bi < 0 then -bi else bi)), some (.ref D), w7, w8, w9, w10]) ⟨Same.refl _, rfl, none, none, none, none, rfl⟩ (fun i σ H' _ z => z.1 _ _ at4) ?_ ?_⟩
        · rintro i x σ H5 H6 hi ⟨s5, er, w7, w8, w9, w10, rfl⟩ ⟨rfl, ex⟩
          obtain ⟨di, ei, dt⟩ := (dx2.fr (f.trans (Fm.of s5))).get ex
          obtain ⟨t1, t2, ⟨nm, t3, t4⟩, t5⟩ := modeD_parts (all2 di (List.mem_of_getElem? ei))
          obtain ⟨a, ys, rfl, dy, ha, _, _⟩ := dt.tupOf t1
          obtain ⟨y0, y1, y2, g0, g1, g2, rfl, eds, k0, k1, k2⟩ := three_dt dy t2
          have eg : g0 = .str nm := by rw [← t3]; unfold itD; rw [eds]; rfl
          have eg2 : itD di 2 = g2 := by unfold itD; rw [eds]; rfl
          subst eg
          cases k0
          have zi : Sz 4 di := z2.2.2 di (List.mem_of_getElem? ei)
          have zr : Sz 3 g2 := eg2 ▸ zi.item 2
          have more : (itemsD d2).drop i = di :: (itemsD d2).drop (i + 1) := by
            obtain ⟨lt, e⟩ := List.getElem?_eq_some_iff.mp ei
            rw [List.drop_eq_getElem_cons lt, e]
          rw [more, rowsErr, eg2, t4] at er
          refine ⟨a, _, rfl, ha, rfl, _, _, rfl, _, _, rfl, _, _, rfl, rfl, ?_⟩
          refine ⟨_, rfl, _, rfl, _, rfl, _, rfl, l1, xs1, rfl, ha1.imp (s5 _ _) (s5 _ _), _, rfl, .str nm, y2, g2, (if bi < 0 then -bi else bi), (itemsD d1).length, D, (itemsD d2).map nmOf, (by rw [hl1]; rfl), k2, by rw [← eg2]; exact t5, zr.1, zr.2.2, s5 _ _ hD4, fun ok H7 s7 => ?_, fun j ej => ?_⟩
          · refine ⟨s5.trans s7, ?_, _, _, _, _, rfl⟩
            rw [er, sz0, ok]
          · have x := qe (.row (.str nm) j) (by rw [er, sz0, ej])
            exact EX2.same x (s14.trans s5)
        · rintro σ H5 ⟨s5, er, w7, w8, w9, w10, rfl⟩
          rw [hl2, List.drop_of_length_le (Nat.le_refl _), rowsErr] at er
          rw [er] at q qe
          have s15 := s14.trans s5
          dsimp only at q qe
          cases e3 : endsD d3 (sizeD (.int bi)) with
          | false =>
            have x := qe .ends (by rw [if_pos e3])
            exact ⟨_, rfl, _, rfl, v3, d3, _, rfl, h3.fr (Fm.of s15), z3, (fun h => by rw [← sz0, e3] at h; cases h), fun _ => EX1.same x s15⟩
          | true =>
            rw [if_neg (by rw [e3]; decide)] at q qe
            refine ⟨_, rfl, _, rfl, v3, d3, _, rfl, h3.fr (Fm.of s15), z3, (fun _ H6 s6 => ?_), fun h => by rw [← sz0, e3] at h; cases h⟩
            have s16 := s15.trans s6
            dsimp only
            refine PureT.ifs (x := !factD d4 ((itemsD d1).length + 1)) (PureT.no fun Q q => ⟨_, rfl, _, rfl, l1, xs1, rfl, ha1.imp ((s5.trans s6) _ _) ((s5.trans s6) _ _), _, _, rfl, rfl, v4, d4, _, rfl, h4.fr (Fm.of s16), z4, fun H7 s7 => ⟨_, rfl, by rw [hl1]; exact q _ s7⟩⟩) (fun tt H7 s7 => ?_) (fun ff H7 s7 => ?_)
            · have x := qe .result (by rw [if_pos (no_tt tt)])
              exact ⟨_, rfl, rfl, by show 1 ≤ 1000; decide, flies1 (EX1.same x (s16.trans s7)).now⟩
            · exact q (by rw [if_neg (by rw [no_ff ff]; decide)]) _ (s16.trans s7)
end
/-! ### tables -/
section
variable {P : Program} {w : World} {K : PySem.W.Frag} {mg : Str → Option Value} {base : Heap} {aR : Addr}
def leafD : PyData → Leaf
  | .int i => .num i
  | .str s => .text s
  | _ => .none
def keyL (d : PyData) : List Leaf := [leafD (itD d 0), leafD (itD d 1)]
def valD (d : PyData) : PyData := .tuple [itD d 2, itD d 3]
/-- a row that can be told -/
def RowS (d : PyData) : Prop := isTup d = true ∧ (itemsD d).length = 4 ∧ NI (itD d 0) ∧ NI (itD d 1)
def entOk (Z : Addr → Prop) (H : Hp) (r : PyData) (x : List Leaf × Addr × V) : Prop := x.1 = keyL r ∧ Dt Z H x.2.2 (valD r)
/-- the table of the rows rs stands at D -/
def TabR (P : Program) (w : World) (H : Hp) (D : Addr) (rs : List PyData) : Prop := ∃ kbs : Ents, Tab P w H D kbs ∧ Paired (entOk Z0 H) rs kbs
theorem paired_snoc {α β : Type} {F : α → β → Prop} {x : α} {y : β} (z : F x y) : ∀ {l : List α} {m : List β}, Paired F l m → Paired F (l ++ [x]) (m ++ [y])
  | _, _, .nil => .cons z .nil
  | _, _, .cons h t => .cons h (paired_snoc z t)
theorem paired_len {α β : Type} {F : α → β → Prop} : ∀ {l : List α} {m : List β}, Paired F l m → l.length = m.length
  | _, _, .nil => rfl
  | _, _, .cons _ t => congrArg (· + 1) (paired_len t)
theorem paired_keys {Z : Addr → Prop} {H : Hp} : ∀ {rs : List PyData} {kbs : Ents}, Paired (entOk Z H) rs kbs → kbs.map (·.1) = rs.map keyL
  | _, _, .nil => rfl
  | _, _, .cons h t => by rw [List.map_cons, List.map_cons, h.1, paired_keys t]
theorem TabR.same {H H' : Hp} {D : Addr} {rs : List PyData} (t : TabR P w H D rs) (s : Same H H') : TabR P w H' D rs := by
  obtain ⟨kbs, a, b⟩ := t
  exact ⟨kbs, a.same s, L2.Paired.mapP b fun p q z => ⟨z.1, z.2.fr (Fm.of s)⟩⟩
theorem NI.lV {d : PyData} (n : NI d) {Z : Addr → Prop} {H : Hp} {v : V} (h : Dt Z H v d) : v = lV (leafD d) := by
  rcases n with rfl | ⟨i, rfl⟩ <;> (cases h; rfl)
def spTable (P : Program) (w : World) : Sp := fun vs H Q _ => ∃ v d, vs = [v] ∧ Dt Z0 H v d ∧ isSeq d = true ∧ (itemsD d).length ≤ 1000 ∧ (∀ x ∈ itemsD d, RowS x) ∧ ((itemsD d).map keyL).Nodup ∧ ∀ H' D, Same H H' → H D = none → TabR P w H' D (itemsD d) → Q (.ref D) H'
abbrev s_table_of : Stmt := top 41
abbrev N_table_of : List Str := ["rows", "sign", "remainder", "updates", "then"]
theorem sc_table_of : FnScope N_table_of ["rows"] (defScope s_table_of) := ⟨rfl, rfl, rfl, by decide +kernel, rfl, by decide +kernel, by decide +kernel⟩
theorem ok_table_of (h : Has K mg "table_of" s_table_of ["rows"]) : Ok P w K mg base 1 "table_of" ["rows"] (spTable P w) := by
  obtain ⟨f, fd, g, b, F⟩ := h
  refine ⟨f, fd, g, F.kp, b, F.ok sc_table_of (fun vs H Q E h => ?_) (fun cdv A outer s H vs Q E hr h => ?_)⟩
  · obtain ⟨v, d, rfl, _⟩ := h
    rfl
  · obtain ⟨v, d, rfl, hd, sq, few, rows, nod, q⟩ := h
    have un : (cxOf CX0 P w K mg base N_table_of "table_of" (defScope s_table_of) f cdv A outer s H E).nox.A.units < cLine := Nat.lt_of_le_of_lt (Nat.le_add_right _ _) hr.units
    obtain ⟨l, xs, rfl, dx, ha, _⟩ := hd.seq sq
    have hl := dx.len
    obtain ⟨o, ho, at_l⟩ : ∃ o, (o = .lst xs ∨ o = .tup xs) ∧ H l = some o := ha.elim (fun h => ⟨_, .inl rfl, h⟩) fun h => ⟨_, .inr rfl, h⟩
    refine ⟨_, pss_one (ps_ret (pe_dcT (own := [("sign", 1), ("remainder", 2), ("updates", 3), ("then", 4)]) (g := gTupT 4 (gCons (gName 1) (gCons (gName 2) (gCons (gName 3) (gCons (gName 4) gNil))))) un rfl sc_table_of.nd (pi_seq (pv 0)) (blkOk_by (N := N_table_of) (sc := defScope s_table_of) (by decide +kernel))
      (fun _ _ _ _ _ => pgT (n := 4) (by rfl) (pgs_cons (pg_name (i := 1) sc_table_of.nd rfl (by first | exact Or.inl rfl | exact Or.inr rfl)) (pgs_cons (pg_name (i := 2) sc_table_of.nd rfl (by first | exact Or.inl rfl | exact Or.inr rfl)) (pgs_cons (pg_name (i := 3) sc_table_of.nd rfl (by first | exact Or.inl rfl | exact Or.inr rfl)) (pgs_cons (pg_name (i := 4) sc_table_of.nd rfl (by first | exact Or.inl rfl | exact Or.inr rfl)) pgs_nil)))))
      (fun _ _ _ _ _ => pe_tup (pa_cons (pv 1) (pa_cons (pv 2) pa_nil))) (fun _ _ _ _ _ => pe_tup (pa_cons (pv 3) (pa_cons (pv 4) pa_nil))))), ?_⟩
    refine ⟨_, rfl, l, xs, o, rfl, ho, at_l, fun J wk D hD => ?_⟩
    refine dc_it wk (fun i H' => Fm (Zp D) H H' ∧ ∃ kbs : Ents, Tab P w H' D kbs ∧ Paired (entOk (Zu Z0 D) H') ((itemsD d).take i) kbs) ⟨fun b o e n => by rw [upd_ne n]; exact e, [], ⟨upd_same, fun x hx => by cases hx⟩, .nil⟩ (fun i H' z => z.1 _ _ at_l (ne_of_none at_l hD)) ?_ ?_
    · rintro i x H1 H2 hi ⟨f1, kbs, tb, pr⟩ ⟨rfl, ex⟩
      have s1 : Same H H2 := fun b o e => f1 b o e (ne_of_none e hD)
      obtain ⟨di, ei, dt⟩ := dx.get ex
      have li : i < (itemsD d).length := (List.getElem?_eq_some_iff.mp ei).1
      obtain ⟨tu, l4, n0, n1⟩ := rows di (List.mem_of_getElem? ei)
      obtain ⟨a, ys, rfl, dy, hay, _, _⟩ := dt.tupOf tu
      obtain ⟨x0, x1, x2, x3, d0, d1, d2, d3, rfl, eds, h0, h1, h2, h3⟩ := four_dt dy l4
      have e0 : itD di 0 = d0 := by unfold itD; rw [eds]; rfl
      have e1 : itD di 1 = d1 := by unfold itD; rw [eds]; rfl
      have e2 : itD di 2 = d2 := by unfold itD; rw [eds]; rfl
      have e3 : itD di 3 = d3 := by unfold itD; rw [eds]; rfl
      rw [e0] at n0
      rw [e1] at n1
      have kl : keyL di = [leafD d0, leafD d1] := by unfold keyL; rw [e0, e1]
      have vl : valD di = .tuple [d2, d3] := by unfold valD; rw [e2, e3]
      refine ⟨a, _, rfl, s1 _ _ hay, rfl, _, _, rfl, _, _, rfl, _, _, rfl, _, _, rfl, rfl, rfl, ?_⟩
      refine ⟨_, rfl, _, rfl, by show 2 ≤ sizeLine; decide, fun kt nk => ?_⟩
      have s2 : Same H2 (upd H2 kt (.tup [x0, x1])) := Same.new nk
      have k2 : (upd H2 kt (.tup [x0, x1])) kt = some (.tup [x0, x1]) := upd_same
      show tCons _ _ _ (upd H2 kt (.tup [x0, x1])) _
      generalize upd H2 kt (.tup [x0, x1]) = H3 at s2 k2 ⊢
      refine ⟨_, rfl, _, rfl, by show 2 ≤ sizeLine; decide, fun vt nv => ?_⟩
      have s3 : Same H3 (upd H3 vt (.tup [x2, x3])) := Same.new nv
      have v3 : (upd H3 vt (.tup [x2, x3])) vt = some (.tup [x2, x3]) := upd_same
      generalize upd H3 vt (.tup [x2, x3]) = H4 at s3 v3 ⊢
      have s24 := s2.trans s3
      have tb4 := tb.same s24
      have dD : H4 D = some (dObj P w D kbs) := tb4.1
      have fr : Fm (Zu Z0 D) H4 (upd H4 D (dObj P w D (kbs ++ [([leafD d0, leafD d1], kt, .ref vt)]))) := Fm.at_zu
      have apart : ∀ {b : Addr} {ws : List V}, H4 b = some (.tup ws) → b ≠ D := fun {b ws} e m => by
        rw [m, dD] at e
        cases e
      refine ⟨_, ⟨kbs, [leafD d0, leafD d1], kt, rfl, ?_, tb4, ?_, ?_, rfl⟩, fun b o e nb => ?_, kbs ++ [([leafD d0, leafD d1], kt, .ref vt)], ⟨upd_same, fun x hx => ?_⟩, ?_⟩
      · show H4 kt = some (.tup [lV (leafD d0), lV (leafD d1)])
        rw [s3 _ _ k2, n0.lV h0, n1.lV h1]
      · rw [paired_keys pr, ← kl]
        have sp : itemsD d = (itemsD d).take i ++ di :: (itemsD d).drop (i + 1) := by
          obtain ⟨lt, e⟩ := List.getElem?_eq_some_iff.mp ei
          rw [← e, ← List.drop_eq_getElem_cons lt, List.take_append_drop]
        rw [sp, List.map_append, List.nodup_append] at nod
        exact fun m => nod.2.2 _ m _ List.mem_cons_self rfl
      · rw [← paired_len pr, List.length_take]
        exact Nat.lt_of_le_of_lt (by omega : min i (itemsD d).length ≤ 1000) (by decide)
      · rw [upd_ne nb]
        exact s24 _ _ (f1 _ _ e nb)
      · rcases List.mem_append.mp hx with hx | hx
        · have e := tb4.2 x hx
          rw [upd_ne (apart e)]
          exact e
        · rw [List.mem_singleton.mp hx]
          have e : H4 kt = some (.tup [lV (leafD d0), lV (leafD d1)]) := by rw [s3 _ _ k2, n0.lV h0, n1.lV h1]
          show upd H4 D _ kt = _
          rw [upd_ne (apart e)]
          exact e
      · rw [List.take_succ, ei]
        have g2 := ((h2.fr (Fm.of (s1.trans s24))))
        have g3 := ((h3.fr (Fm.of (s1.trans s24))))
        have vv : Dt (Zu Z0 D) H4 (.ref vt) (valD di) := by
          rw [vl]
          exact .tup v3 (zu_ne id (apart v3)) (.cons ((h2.off hD).fr (Fm.zu (Fm.of (s1.trans s24)))) (.cons ((h3.off hD).fr (Fm.zu (Fm.of (s1.trans s24)))) .nil))
        exact paired_snoc ⟨kl.symm, vv.fr fr⟩ (L2.Paired.mapP pr fun p q z => ⟨z.1, (z.2.fr (Fm.zu (Fm.of s24))).fr fr⟩)
    · rintro H1 ⟨f1, kbs, tb, pr⟩
      have s1 : Same H H1 := fun b o e => f1 b o e (ne_of_none e hD)
      rw [hl, List.take_length] at pr
      exact q H1 D s1 hD ⟨kbs, tb, L2.Paired.mapP pr fun p q z => ⟨z.1, z.2.un⟩⟩
end
/-! ### programs -/
section
variable {P : Program} {w : World} {K : PySem.W.Frag} {mg : Str → Option Value} {base : Heap} {aR CB CG CM CI CE CR CP : Addr}
theorem inV_strs {s : Str} : ∀ {ns : List Str}, inV (.str s) (ns.map V.str) = false → s ∉ ns
  | [], _ => fun h => by cases h
  | n :: ns, e => by
    intro h
    unfold inV at e
    rw [List.map_cons, List.any_cons] at e
    obtain ⟨e1, e2⟩ := Bool.or_eq_false_iff.mp e
    rcases List.mem_cons.mp h with rfl | h
    · exact absurd e1 (by unfold eqV; simp)
    · exact inV_strs (s := s) (ns := ns) (by unfold inV; exact e2) h
theorem wrongAt_nodup {part : PyData → Bool} : ∀ {ds : List PyData} {ns : List Str} {i : Nat}, wrongAt part ds ns i = none → ns.Nodup → (ns ++ ds.map nmOf).Nodup
  | [], ns, _, _, n => by simpa using n
  | d :: ds, ns, i, e, n => by
    rw [wrongAt] at e
    split at e
    · cases e
    · rename_i c
      have c := (Bool.or_eq_false_iff.mp (Bool.eq_false_iff.mpr c)).2
      have z := wrongAt_nodup e (List.nodup_append.mpr ⟨n, by simp, fun a ha b hb => by
        rw [List.mem_singleton.mp hb]
        exact fun m => inV_strs c (m ▸ ha)⟩)
      simpa using z
theorem keyIn_false {k : PyData} {ks : List PyData} (h : keyIn k ks = false) (s : k.canLay0 = true) : k ∉ ks := fun m => by
  have z := List.any_eq_false.mp h k m
  exact z (PySem.SeqAt.eqv_refl _ s)
theorem leafD_inj {d e : PyData} (a : NI d) (b : NI e) (h : leafD d = leafD e) : d = e := by
  rcases a with rfl | ⟨i, rfl⟩ <;> rcases b with rfl | ⟨j, rfl⟩ <;> first | rfl | (cases h; done) | (cases h; rfl)
theorem wrongRow_rows {size : Int} {many : Nat} {zs : List Str} : ∀ {ds ks : List PyData} {i : Nat}, wrongRow size many zs ds ks i = none → (∀ x ∈ ds, rowD x size many zs = true) ∧ (ks.Nodup → (ks ++ ds.map keyD).Nodup)
  | [], ks, _, _ => ⟨fun x h => (by cases h), fun n => by simpa using n⟩
  | d :: ds, ks, i, e => by
    rw [wrongRow] at e
    split at e
    · cases e
    · rename_i c
      obtain ⟨c1, c2⟩ := Bool.or_eq_false_iff.mp (Bool.eq_false_iff.mpr c)
      obtain ⟨r1, r2⟩ := wrongRow_rows e
      obtain ⟨_, _, n0, n1⟩ := rowD_NI (no_ff c1)
      have lay : (keyD d).canLay0 = true := (shp_tup (n := 0) (ds := [itD d 0, itD d 1]) fun z hz => by
        simp only [List.mem_cons, List.not_mem_nil, or_false] at hz
        rcases hz with rfl | rfl
        · exact n0.shp
        · exact n1.shp).1
      refine ⟨fun x h => ?_, fun n => ?_⟩
      · rcases List.mem_cons.mp h with rfl | h
        · exact no_ff c1
        · exact r1 x h
      · have z := r2 (List.nodup_append.mpr ⟨n, by simp, fun a ha b hb => by
          rw [List.mem_singleton.mp hb]
          exact fun m => keyIn_false c2 lay (m ▸ ha)⟩)
        simpa using z
theorem keyL_nodup : ∀ {ds : List PyData}, (∀ x ∈ ds, RowS x) → (ds.map keyD).Nodup → (ds.map keyL).Nodup
  | [], _, _ => by simp
  | d :: ds, r, n => by
    rw [List.map_cons, List.nodup_cons] at n ⊢
    refine ⟨fun m => n.1 ?_, keyL_nodup (fun x h => r x (List.mem_cons_of_mem _ h)) n.2⟩
    obtain ⟨e, he, k⟩ := List.mem_map.mp m
    refine List.mem_map.mpr ⟨e, he, ?_⟩
    obtain ⟨_, _, a0, a1⟩ := r d List.mem_cons_self
    obtain ⟨_, _, b0, b1⟩ := r e (List.mem_cons_of_mem _ he)
    unfold keyL at k
    injection k with k1 k
    injection k with k2 _
    unfold keyD
    rw [leafD_inj b0 a0 k1, leafD_inj b1 a1 k2]
theorem rowsErr_none {size : Int} {many : Nat} {zs : List Str} : ∀ {ds : List PyData}, rowsErr size many zs ds = none → ∀ d ∈ ds, wrongRow size many zs (itemsD (itD d 2)) [] 0 = none
  | [], _, d, h => by cases h
  | x :: xs, e, d, h => by
    rw [rowsErr] at e
    cases c : wrongRow size many zs (itemsD (itD x 2)) [] 0 with
    | some i => rw [c] at e; cases e
    | none =>
      rw [c] at e
      rcases List.mem_cons.mp h with rfl | h
      · exact c
      · exact rowsErr_none e d h
/-- what is known of parts that are a program's -/
structure PartsOk (d0 d1 d2 d3 d4 : PyData) : Prop where
  base : baseD d0 = true
  regs : partsD regD 3 d1 = true
  modes : partsD modeD 4 d2 = true
  rows : rowsErr (sizeD d0) (itemsD d1).length ((itemsD d2).map nmOf) (itemsD d2) = none
  ends : endsD d3 (sizeD d0) = true
  result : factD d4 ((itemsD d1).length + 1) = true
theorem partsOk_iff {d0 d1 d2 d3 d4 : PyData} : progErr d0 d1 d2 d3 d4 = none ↔ PartsOk d0 d1 d2 d3 d4 := by
  unfold progErr
  constructor
  · intro h
    split at h
    · cases h
    · split at h
      · cases h
      · split at h
        · cases h
        · split at h
          · cases h
          · split at h
            · cases h
            · split at h
              · cases h
              · rename_i h0 h1 h2 _ h3 h4 h5
                simp only [Bool.not_eq_false] at h0 h1 h2 h4 h5
                exact ⟨h0, h1, h2, h3, h4, h5⟩
  · rintro ⟨h0, h1, h2, h3, h4, h5⟩
    rw [h0, h1, h2, h3, h4, h5]
    rfl
theorem PartsOk.names {d0 d1 d2 d3 d4 : PyData} (h : PartsOk d0 d1 d2 d3 d4) : ((itemsD d2).map nmOf).Nodup := by
  have m := h.modes
  unfold partsD at m
  have z := wrongAt_nodup (Option.isNone_iff_eq_none.mp (Bool.and_eq_true_iff.mp m).2) List.nodup_nil
  simpa using z
theorem PartsOk.row {d0 d1 d2 d3 d4 : PyData} (h : PartsOk d0 d1 d2 d3 d4) {md : PyData} (m : md ∈ itemsD d2) : (∀ x ∈ itemsD (itD md 2), RowS x) ∧ ((itemsD (itD md 2)).map keyL).Nodup := by
  obtain ⟨r1, r2⟩ := wrongRow_rows (rowsErr_none h.rows md m)
  have rs : ∀ x ∈ itemsD (itD md 2), RowS x := fun x hx => rowD_NI (r1 x hx)
  exact ⟨rs, keyL_nodup rs (by simpa using r2 List.nodup_nil)⟩
end
/-! ### Program.__init__ -/
section
mutual
theorem Dt.offC {Z : Addr → Prop} {D : Addr} {H : Hp} (n : ∀ xs, H D ≠ some (.lst xs) ∧ H D ≠ some (.tup xs)) {v : V} {d : PyData} (h : Dt Z H v d) : Dt (Zu Z D) H v d :=
  match h with
  | .non => .non
  | .bl b => .bl b
  | .int i => .int i
  | .str x => .str x
  | .lst e m t => .lst e (zu_ne m fun z => (n _).1 (z ▸ e)) (DtAll.offC n t)
  | .tup e m t => .tup e (zu_ne m fun z => (n _).2 (z ▸ e)) (DtAll.offC n t)
theorem DtAll.offC {Z : Addr → Prop} {D : Addr} {H : Hp} (n : ∀ xs, H D ≠ some (.lst xs) ∧ H D ≠ some (.tup xs)) {vs : List V} {ds : List PyData} (h : DtAll Z H vs ds) : DtAll (Zu Z D) H vs ds :=
  match h with
  | .nil => .nil
  | .cons a b => .cons (Dt.offC n a) (DtAll.offC n b)
end
/-- an object that is no data, no table's own -/
def Odd (o : HO) : Prop := (∀ xs, o ≠ .lst xs) ∧ (∀ xs, o ≠ .tup xs) ∧ ∀ φ, o ≠ .ext φ
theorem odd_ins {C dx : Addr} {fs : List (Str × V)} : Odd (.ins C dx fs) := ⟨fun _ z => (by cases z), fun _ z => (by cases z), fun _ z => (by cases z)⟩
theorem odd_dK {kvs : List (L2.Key × V)} : Odd (.dK kvs) := ⟨fun _ z => (by cases z), fun _ z => (by cases z), fun _ z => (by cases z)⟩
theorem Dt.keepO {p : Addr} {H H' : Hp} {o : HO} {v : V} {d : PyData} (h : Dt Z0 H v d) (e : H p = some o) (od : Odd o) (k : Keep p H H') : Dt Z0 H' v d :=
  ((h.offC (D := p) fun xs => ⟨fun z => od.1 xs (Option.some.inj (e.symm.trans z)), fun z => od.2.1 xs (Option.some.inj (e.symm.trans z))⟩).fr (fun b o g n => k b o g fun m => n (.inr m))).un
variable {P : Program} {w : World} {K : PySem.W.Frag} {mg : Str → Option Value} {base : Heap} {aR CB CG CM CI CE CR CP : Addr}
theorem TabR.keepO {p : Addr} {H H' : Hp} {o : HO} {D : Addr} {rs : List PyData} (t : TabR P w H D rs) (e : H p = some o) (od : Odd o) (k : Keep p H H') : TabR P w H' D rs := by
  obtain ⟨kbs, ⟨a, b⟩, c⟩ := t
  have ne : ∀ {x : Addr} {u : HO}, H x = some u → o ≠ u → x ≠ p := fun {x u} g n m => by
    rw [m, e] at g
    exact n (Option.some.inj g)
  exact ⟨kbs, ⟨k _ _ a (ne a (od.2.2 _)), fun x hx => k _ _ (b x hx) (ne (b x hx) (od.2.1 _))⟩, L2.Paired.mapP c fun r x z => ⟨z.1, z.2.keepO e od k⟩⟩
/-- a mode as a program keeps it -/
def normM (md : PyData) : PyData := .tuple [itD md 0, itD md 1, .tuple (itemsD (itD md 2))]
def ProgF (b : Int) (vr vm ve va : V) (vt : Addr) : List (Str × V) := [("_base", .int b), ("_registers", vr), ("_modes", vm), ("_ends", ve), ("_result", va), ("_tables", .ref vt)]
def TabsAt (P : Program) (w : World) (H : Hp) (vt : Addr) (ms : List PyData) : Prop := ∃ kvs : List (L2.Key × V), H vt = some (.dK kvs) ∧ Paired (fun md (kv : L2.Key × V) => kv.1 = .inr (nmOf md) ∧ ∃ D, kv.2 = .ref D ∧ TabR P w H D (itemsD (itD md 2))) ms kvs
/-- the program of such parts stands at p -/
def ProgAt (P : Program) (w : World) (CP : Addr) (H : Hp) (p : Addr) (b : Int) (d1 d2 d3 d4 : PyData) : Prop := ∃ dx vr vm ve va vt, H p = some (.ins CP dx (ProgF b vr vm ve va vt)) ∧ Dt Z0 H vr (.tuple (itemsD d1)) ∧ Dt Z0 H vm (.tuple ((itemsD d2).map normM)) ∧ Dt Z0 H ve (.tuple (itemsD d3)) ∧ Dt Z0 H va d4 ∧ TabsAt P w H vt (itemsD d2)
theorem tupS {X : Cx} : CallR X (.type "tuple") (fun xs H Q => ∃ (Z : Addr → Prop) (v : V) (d : PyData), xs = [v] ∧ Dt Z H v d ∧ isSeq d = true ∧ (∀ l', H l' = none → ¬ Z l') ∧ ∀ u H', Same H H' → Dt Z H' u (.tuple (itemsD d)) → Q u H') := by
  intro pins s σ H xs us Q I r w
  obtain ⟨Z, v, d, rfl, hd, sq, fz, q⟩ := w
  obtain ⟨l, ys, rfl, dy, ha, nz⟩ := hd.seq sq
  exact tupT pins s σ H _ us Q I r ⟨l, ys, rfl, ha.imp (fun h => ⟨h, fun l' n => q _ _ (Same.new n) (.tup upd_same (fz l' n) (dy.fr (Fm.of (Same.new n))))⟩) fun h => ⟨h, q _ H (Same.refl _) (.tup h nz dy)⟩⟩
def spPInit (P : Program) (w : World) (CP CB CG CM CI CE CR : Addr) : Sp := fun vs H Q E => ∃ p dx v0 v1 v2 v3 v4 d0 d1 d2 d3 d4, vs = [.ref p, v0, v1, v2, v3, v4] ∧ H p = some (.ins CP dx []) ∧ Dt Z0 H v0 d0 ∧ Dt Z0 H v1 d1 ∧ Dt Z0 H v2 d2 ∧ Dt Z0 H v3 d3 ∧ Dt Z0 H v4 d4 ∧ Sz 2 d1 ∧ Sz 5 d2 ∧ (itemsD d3).length ≤ 1000 ∧ (itemsD d4).length ≤ 1000 ∧
  (PartsOk d0 d1 d2 d3 d4 → ∀ H', Keep p H H' → ProgAt P w CP H' p (iOf d0) d1 d2 d3 d4 → Q .non H') ∧ ∀ e, progErr d0 d1 d2 d3 d4 = some e → PErr.flies CB CG CM CI CE CR v0 v3 v4 E H e
abbrev s_Program___init__ : Stmt := inClass (top 42) 0
abbrev N_Program___init__ : List Str := ["self", "base", "registers", "modes", "ends", "result", "name", "rule", "rows", "_"]
theorem sc_Program___init__ : FnScope N_Program___init__ ["self", "base", "registers", "modes", "ends", "result"] (defScope s_Program___init__) := ⟨rfl, rfl, rfl, by decide +kernel, rfl, by decide +kernel, by decide +kernel⟩
/-- what is asked of the class -/
structure PCls (K : PySem.W.Frag) (mg : Str → Option Value) (CP : Addr) : Prop where
  cl : Cls K CP
  at_ : mg "Program" = some (.ref CP)
  n1 : NoAttr K CP "_base"
  n2 : NoAttr K CP "_registers"
  n3 : NoAttr K CP "_modes"
  n4 : NoAttr K CP "_ends"
  n5 : NoAttr K CP "_result"
  n6 : NoAttr K CP "_tables"
theorem ok_Program_init {fI : Addr} {fd : FuncData} (F : Fun K "__init__" "Program.__init__" s_Program___init__ fI fd) (C : PCls K mg CP) (PT : PTx K mg aR) (O_check_program : OkX P w K mg base 7 "check_program" ["base", "registers", "modes", "ends", "result"] (spChkProg CB CG CM CI CE CR))
    (O_table_of : Ok P w K mg base 1 "table_of" ["rows"] (spTable P w)) : FnOk P w K mg base (L2.CX P w) 8 fI fd ["self", "base", "registers", "modes", "ends", "result"] (spPInit P w CP CB CG CM CI CE CR) := by
  have T := PT.T
  refine F.okX sc_Program___init__ (fun vs H Q E h => ?_) (fun cdv A outer s H vs Q E hr h => ?_)
  · obtain ⟨p, dx, v0, v1, v2, v3, v4, d0, d1, d2, d3, d4, rfl, _⟩ := h
    rfl
  · obtain ⟨p, dx, v0, v1, v2, v3, v4, d0, d1, d2, d3, d4, rfl, ep, h0, h1, h2, h3, h4, z1, z2, z3, z4, q, qe⟩ := h
    refine ⟨_, (pss_cons (ps_expr (pe_cX O_check_program (hr.mono (by decide)) (passes_call (takes_of rfl rfl rfl rfl) (fun _ _ _ _ z => z)) rfl (pa_cons (pv 1) (pa_cons (pv 2) (pa_cons (pv 3) (pa_cons (pv 4) (pa_cons (pv 5) pa_nil)))))))
      (pss_cons (ps_fld (pv 0) (pv 1) rfl)
      (pss_cons (ps_fld (pv 0) (pe_callTy tupS (by rfl) T.tuple bb_tuple (pa_cons (pv 2) pa_nil)) rfl)
      (pss_cons (ps_fld (pv 0) (pe_callTy tupS (by rfl) T.tuple bb_tuple (pa_cons (by exact pe_lc (own := [("name", 6), ("rule", 7), ("rows", 8)]) (g := gTupT 3 (gCons (gName 6) (gCons (gName 7) (gCons (gName 8) gNil)))) (tt := tYes) rfl sc_Program___init__.nd (pi_seq (pv 3)) (blkOk_by (N := N_Program___init__) (sc := defScope s_Program___init__) (by rfl)) (fun _ _ _ _ _ => (pgT (n := 3) (by rfl) (pgs_cons (pg_name (i := 6) sc_Program___init__.nd rfl (by first | exact Or.inl rfl | exact Or.inr rfl)) (pgs_cons (pg_name (i := 7) sc_Program___init__.nd rfl (by first | exact Or.inl rfl | exact Or.inr rfl)) (pgs_cons (pg_name (i := 8) sc_Program___init__.nd rfl (by first | exact Or.inl rfl | exact Or.inr rfl)) pgs_nil))))) (fun _ _ _ _ _ => pts_nil) (fun _ _ _ _ _ => (pe_tup (pa_cons (pv 6) (pa_cons (pv 7) (pa_cons (pe_callTy tupS (by rfl) T.tuple bb_tuple (pa_cons (pv 8) pa_nil)) pa_nil)))))) pa_nil)) rfl)
      (pss_cons (ps_fld (pv 0) (pe_callTy tupS (by rfl) T.tuple bb_tuple (pa_cons (pv 4) pa_nil)) rfl)
      (pss_cons (ps_fld (pv 0) (pv 5) rfl)
      (pss_one (ps_fld (pv 0) (pe_dc (own := [("name", 6), ("_", 9), ("rows", 8)]) (g := gTupT 3 (gCons (gName 6) (gCons (gName 9) (gCons (gName 8) gNil)))) (tt := tYes) rfl sc_Program___init__.nd (pi_seq (pv 3)) (blkOk_by (N := N_Program___init__) (sc := defScope s_Program___init__) (by rfl)) (fun _ _ _ _ _ => (pgT (n := 3) (by rfl) (pgs_cons (pg_name (i := 6) sc_Program___init__.nd rfl (by first | exact Or.inl rfl | exact Or.inr rfl)) (pgs_cons (pg_name (i := 9) sc_Program___init__.nd rfl (by first | exact Or.inl rfl | exact Or.inr rfl)) (pgs_cons (pg_name (i := 8) sc_Program___init__.nd rfl (by first | exact Or.inl rfl | exact Or.inr rfl)) pgs_nil))))) (fun _ _ _ _ _ => pts_nil) (fun _ _ _ _ _ => (pv 6)) (fun _ _ _ _ _ => (pe_cO O_table_of (hr.mono (by decide)) pass0 rfl (pa_cons (pv 8) pa_nil)))) rfl)))))))), ?_⟩
    refine ⟨_, rfl, _, rfl, _, rfl, _, rfl, _, rfl, v0, v1, v2, v3, v4, d0, d1, d2, d3, d4, rfl, h0, h1, h2, h3, h4, z1, z2, z3, z4, fun ok H1 s1 => ?_, qe⟩
    have PO := partsOk_iff.mp ok
    have q := q PO
    obtain ⟨b, rfl⟩ : ∃ b, d0 = .int b := by
      have := PO.base
      cases d0 <;> first | exact ⟨_, rfl⟩ | cases this
    cases h0
    have ep1 := s1 _ _ ep
    have off : ∀ {v : V} {d : PyData}, Dt Z0 H v d → Dt (Zu Z0 p) H1 v d := fun h => (h.fr (Fm.of s1)).offC fun xs => ⟨fun z => (by rw [ep1] at z; cases z), fun z => (by rw [ep1] at z; cases z)⟩
    have g1 := off h1
    have g2 := off h2
    have g3 := off h3
    have g4 := off h4
    have k1 : Keep p H H1 := fun c o e _ => s1 _ _ e
    -- the base
    refine ⟨_, rfl, _, rfl, p, CP, dx, [], rfl, ep1, C.cl, C.n1, by show 0 < 1000; decide, ?_⟩
    have f2 : Fm (Zu Z0 p) H1 (upd H1 p (.ins CP dx [("_base", .int b)])) := Fm.at_zu
    have ep2 : (upd H1 p (.ins CP dx [("_base", .int b)])) p = some (.ins CP dx [("_base", .int b)]) := upd_same
    have k2 : Keep p H (upd H1 p (.ins CP dx [("_base", .int b)])) := fun c o e n => by rw [upd_ne n]; exact k1 c o e n
    show tSeq _ _ _ _ (upd H1 p (.ins CP dx [("_base", .int b)]))
    generalize upd H1 p (.ins CP dx [("_base", .int b)]) = H2 at f2 ep2 k2 ⊢
    -- the registers
    obtain ⟨sq1, _, _⟩ := partsD_all PO.regs
    have fz : ∀ {G : Hp} {fs : List (Str × V)}, G p = some (.ins CP dx fs) → ∀ l', G l' = none → ¬ Zu Z0 p l' := fun e l' n m => m.elim id fun m => by rw [m, e] at n; cases n
    refine ⟨_, rfl, Zu Z0 p, v1, d1, rfl, g1.fr f2, sq1, fz ep2, fun vr H3 s3 dr => ?_⟩
    have ep3 := s3 _ _ ep2
    refine ⟨_, rfl, p, CP, dx, _, rfl, ep3, C.cl, C.n2, by show 1 < 1000; decide, ?_⟩
    have f4 : Fm (Zu Z0 p) H3 (upd H3 p (.ins CP dx [("_base", .int b), ("_registers", vr)])) := Fm.at_zu
    have ep4 : (upd H3 p (.ins CP dx [("_base", .int b), ("_registers", vr)])) p = some (.ins CP dx [("_base", .int b), ("_registers", vr)]) := upd_same
    have k4 : Keep p H (upd H3 p (.ins CP dx [("_base", .int b), ("_registers", vr)])) := fun c o e n => by rw [upd_ne n]; exact s3 _ _ (k2 c o e n)
    show tSeq _ _ _ _ (upd H3 p (.ins CP dx [("_base", .int b), ("_registers", vr)]))
    generalize upd H3 p (.ins CP dx [("_base", .int b), ("_registers", vr)]) = H4 at f4 ep4 k4 ⊢
    have f14 : Fm (Zu Z0 p) H1 H4 := (f2.trans (Fm.of s3)).trans f4
    have dr4 := dr.fr f4
    -- the modes
    obtain ⟨sq2, m4, all2⟩ := partsD_all PO.modes
    obtain ⟨l2, xs2, rfl, dx2, ha2, nz2⟩ := (g2.fr f14).seq sq2
    have hl2 := dx2.len
    obtain ⟨o2, ho2, at2⟩ : ∃ o, (o = .lst xs2 ∨ o = .tup xs2) ∧ H4 l2 = some o := ha2.elim (fun h => ⟨_, .inl rfl, h⟩) fun h => ⟨_, .inr rfl, h⟩
    refine ⟨_, rfl, l2, xs2, o2, rfl, ho2, at2, fun J wk D hD => ?_⟩
    refine lc_dat wk (Zu Z0 p) (fun G => G p = some (.ins CP dx [("_base", .int b), ("_registers", vr)])) ((itemsD d2).map normM) (by simp [hl2]) hD (fz ep4 D hD) ep4 (fun G l e n => by rw [upd_ne (fun m => n (.inr m.symm))]; exact e) (by rw [hl2]; exact Nat.lt_of_le_of_lt z2.1 (by decide)) (fun G f => f _ _ at2 nz2) ?_ ?_
    · intro i x dm G0 G Qk ed f iG ne y z
      obtain ⟨rfl, ex⟩ := y
      rw [List.getElem?_map] at ed
      obtain ⟨di, e3, rfl⟩ := Option.map_eq_some_iff.mp ed
      obtain ⟨d', e4, dt⟩ := ((DtAll.off' hD dx2).fr (Fm.zu f)).get ex
      rw [e3] at e4
      cases e4
      obtain ⟨t1, t2, ⟨nm, t3, t4⟩, t5⟩ := modeD_parts (all2 di (List.mem_of_getElem? e3))
      obtain ⟨a, ys, rfl, dy, ha, nza, _⟩ := dt.tupOf t1
      obtain ⟨y0, y1, y2, c0, c1, c2, rfl, eds, w0, w1, w2⟩ := three_dt dy t2
      have q0 : itD di 0 = c0 := by unfold itD; rw [eds]; rfl
      have q1 : itD di 1 = c1 := by unfold itD; rw [eds]; rfl
      have q2 : itD di 2 = c2 := by unfold itD; rw [eds]; rfl
      refine ⟨a, _, rfl, ha, rfl, _, _, rfl, _, _, rfl, _, _, rfl, rfl, rfl, ?_⟩
      have fD : ∀ {G' : Hp}, Same G G' → ∀ l', G' l' = none → ¬ Zu (Zu Z0 p) D l' := fun {G'} s l' n => by
        have nG : G l' = none := by
          cases e : G l' with
          | none => rfl
          | some o => rw [s _ _ e] at n; cases n
        exact zu_ne (fz iG l' nG) (ne l' nG)
      refine ⟨_, rfl, _, rfl, _, rfl, Zu (Zu Z0 p) D, y2, c2, rfl, w2, q2 ▸ t5, fD (Same.refl _), fun u G2 s2 du => ?_⟩
      refine ⟨by show 3 ≤ sizeLine; decide, fun t nt => ?_⟩
      have s3 : Same G2 (upd G2 t (.tup [y0, y1, u])) := Same.new nt
      have s23 := Fm.of (Z := Zu (Zu Z0 p) D) (s2.trans s3)
      refine z _ _ (Fm.of (s2.trans s3)) (s3 _ _ (s2 _ _ iG)) ?_
      unfold normM
      rw [q0, q1, q2]
      exact .tup upd_same (fD s2 t nt) (.cons (w0.fr s23) (.cons (w1.fr s23) (.cons (du.fr (Fm.of s3)) .nil)))
    · intro G5 xs5 f5 iG eD dD
      have kD : ¬ Zu Z0 p D := fz ep4 D hD
      refine ⟨Zu Z0 p, .ref D, .list ((itemsD d2).map normM), rfl, .lst eD kD (dD.mono' fun _ m => .inl m), rfl, fz iG, fun vm H6 s6 dm => ?_⟩
      have ep6 := s6 _ _ iG
      have f46 : Fm (Zu Z0 p) H4 H6 := f5.trans (Fm.of s6)
      have k6 : Keep p H H6 := fun c o e n => f46 c o (k4 c o e n) (fun m => m.elim id n)
      refine ⟨_, rfl, p, CP, dx, _, rfl, ep6, C.cl, C.n3, by show 2 < 1000; decide, ?_⟩
      have ep7 : (upd H6 p (.ins CP dx [("_base", .int b), ("_registers", vr), ("_modes", vm)])) p = some (.ins CP dx [("_base", .int b), ("_registers", vr), ("_modes", vm)]) := upd_same
      have f7 : Fm (Zu Z0 p) H6 (upd H6 p (.ins CP dx [("_base", .int b), ("_registers", vr), ("_modes", vm)])) := Fm.at_zu
      have k7 : Keep p H (upd H6 p (.ins CP dx [("_base", .int b), ("_registers", vr), ("_modes", vm)])) := fun c o e n => by rw [upd_ne n]; exact k6 c o e n
      show tSeq _ _ _ _ (upd H6 p (.ins CP dx [("_base", .int b), ("_registers", vr), ("_modes", vm)]))
      generalize upd H6 p (.ins CP dx [("_base", .int b), ("_registers", vr), ("_modes", vm)]) = H7 at ep7 f7 k7 ⊢
      have f47 := f46.trans f7
      have f17 : Fm (Zu Z0 p) H1 H7 := f14.trans f47
      have dm7 := dm.fr f7
      have sq3 : isSeq d3 = true := by
        have := PO.ends
        unfold endsD at this
        exact (Bool.and_eq_true_iff.mp this).1
      -- the ends, the result
      refine ⟨_, rfl, Zu Z0 p, v3, d3, rfl, g3.fr f17, sq3, fz ep7, fun ve H8 s8 de => ?_⟩
      have ep8 := s8 _ _ ep7
      refine ⟨_, rfl, p, CP, dx, _, rfl, ep8, C.cl, C.n4, by show 3 < 1000; decide, ?_⟩
      refine ⟨_, rfl, _, rfl, p, CP, dx, _, rfl, upd_same, C.cl, C.n5, by show 4 < 1000; decide, ?_⟩
      rw [upd_upd, show putF "_result" v4 (putF "_ends" ve [("_base", .int b), ("_registers", vr), ("_modes", vm)]) = ([("_base", .int b), ("_registers", vr), ("_modes", vm), ("_ends", ve), ("_result", v4)] : List (Str × V)) from rfl]
      have ep9 : (upd H8 p (.ins CP dx [("_base", .int b), ("_registers", vr), ("_modes", vm), ("_ends", ve), ("_result", v4)])) p = some (.ins CP dx [("_base", .int b), ("_registers", vr), ("_modes", vm), ("_ends", ve), ("_result", v4)]) := upd_same
      have f9 : Fm (Zu Z0 p) H8 (upd H8 p (.ins CP dx [("_base", .int b), ("_registers", vr), ("_modes", vm), ("_ends", ve), ("_result", v4)])) := Fm.at_zu
      have k9 : Keep p H (upd H8 p (.ins CP dx [("_base", .int b), ("_registers", vr), ("_modes", vm), ("_ends", ve), ("_result", v4)])) := fun c o e n => by rw [upd_ne n]; exact s8 _ _ (k7 c o e n)
      have k89 : Fm (Zu Z0 p) H7 (upd H8 p (.ins CP dx [("_base", .int b), ("_registers", vr), ("_modes", vm), ("_ends", ve), ("_result", v4)])) := (Fm.of s8).trans f9
      generalize upd H8 p (.ins CP dx [("_base", .int b), ("_registers", vr), ("_modes", vm), ("_ends", ve), ("_result", v4)]) = H9 at ep9 f9 k9 k89 ⊢
      have f49 := f47.trans k89
      have at9 := f49 _ _ at2 nz2
      have dx9 := DtAll.fr' f49 dx2
      refine ⟨_, rfl, l2, xs2, o2, rfl, ho2, at9, fun J2 wk2 D2 hD2 => ?_⟩
      have pD2 : p ≠ D2 := ne_of_none ep9 hD2
      refine dcK_it wk2 (fun i G => Keep D2 H9 G ∧ ∃ kvs : List (L2.Key × V), G D2 = some (.dK kvs) ∧ Paired (fun md (kv : L2.Key × V) => kv.1 = .inr (nmOf md) ∧ ∃ T, kv.2 = .ref T ∧ TabR P w G T (itemsD (itD md 2))) ((itemsD d2).take i) kvs) ⟨fun c o e n => by rw [upd_ne n]; exact e, [], upd_same, .nil⟩ (fun i G z => z.1 _ _ at9 (ne_of_none at9 hD2)) ?_ ?_
      · rintro i x G0 G hi ⟨kG, kvs, eD2, pr⟩ ⟨rfl, ex⟩
        have f9G : Fm (Zu (Zu Z0 p) D2) H9 G := fun c o e n => kG c o e fun m => n (.inr m)
        obtain ⟨di, ei, dt⟩ := ((DtAll.off' hD2 dx9).fr f9G).get ex
        obtain ⟨t1, t2, ⟨nm, t3, t4⟩, t5⟩ := modeD_parts (all2 di (List.mem_of_getElem? ei))
        obtain ⟨a, ys, rfl, dy, ha, nza, _⟩ := dt.tupOf t1
        obtain ⟨y0, y1, y2, c0, c1, c2, rfl, eds, w0, w1, w2⟩ := three_dt dy t2
        have q0 : itD di 0 = c0 := by unfold itD; rw [eds]; rfl
        have q2 : itD di 2 = c2 := by unfold itD; rw [eds]; rfl
        rw [q0] at t3
        subst t3
        cases w0
        obtain ⟨rs, nod⟩ := PO.row (List.mem_of_getElem? ei)
        rw [q2] at rs nod t5
        have zr : Sz 3 c2 := q2 ▸ (z2.2.2 di (List.mem_of_getElem? ei)).item 2
        refine ⟨a, _, rfl, ha, rfl, _, _, rfl, _, _, rfl, _, _, rfl, rfl, rfl, ?_⟩
        unfold tYes
        refine iteT ?_
        refine ⟨_, rfl, _, rfl, y2, c2, rfl, w2.un.un, t5, zr.1, rs, nod, fun G' T sG nT tr => ⟨kvs, (Sum.inr nm : L2.Key), rfl, sG _ _ eD2, ?_, ?_⟩⟩
        · rw [← paired_len pr, List.length_take]
          exact Nat.lt_of_le_of_lt (Nat.le_trans (Nat.min_le_right _ _) z2.1) (by decide)
        · have keys : kvs.map (·.1) = ((itemsD d2).take i).map fun md => (Sum.inr (nmOf md) : L2.Key) := by
            clear sG eD2 tr kG ex hi
            generalize (itemsD d2).take i = ms at pr
            induction pr with
            | nil => rfl
            | cons h _ ih => rw [List.map_cons, List.map_cons, h.1, ih]
          have sp : itemsD d2 = (itemsD d2).take i ++ di :: (itemsD d2).drop (i + 1) := by
            obtain ⟨lt, e⟩ := List.getElem?_eq_some_iff.mp ei
            rw [← e, ← List.drop_eq_getElem_cons lt, List.take_append_drop]
          have nn := PO.names
          rw [sp, List.map_append, List.nodup_append] at nn
          rw [putK_new (by
            rw [keys]
            intro m
            obtain ⟨md, hm, e⟩ := List.mem_map.mp m
            injection e with e
            exact nn.2.2 _ (List.mem_map.mpr ⟨md, hm, e⟩) _ List.mem_cons_self t4.symm)]
          have eD2' := sG _ _ eD2
          have kk : ∀ {o : HO}, Keep D2 G' (upd G' D2 o) := fun {o} c u e n => by rw [upd_ne n]; exact e
          refine ⟨fun c o e n => by rw [upd_ne n]; exact sG _ _ (kG c o e n), _, upd_same, ?_⟩
          rw [List.take_succ, ei]
          exact paired_snoc ⟨by rw [t4], T, rfl, by rw [q2]; exact tr.keepO eD2' odd_dK kk⟩ (L2.Paired.mapP pr fun md kv z => ⟨z.1, by
            obtain ⟨T', e, t⟩ := z.2
            exact ⟨T', e, (t.same sG).keepO eD2' odd_dK kk⟩⟩)
      · rintro G ⟨kG, kvs, eD2, pr⟩
        rw [hl2, List.take_length] at pr
        have epG := kG _ _ ep9 pD2
        refine ⟨_, rfl, p, CP, dx, _, rfl, epG, C.cl, C.n6, by show 5 < 1000; decide, ?_⟩
        have kp : ∀ {o : HO}, Keep p G (upd G p o) := fun {o} c u e n => by rw [upd_ne n]; exact e
        have f9G : Fm (Zu (Zu Z0 p) D2) H9 G := fun c o e n => kG c o e fun m => n (.inr m)
        have up : ∀ {v : V} {d : PyData}, Dt (Zu Z0 p) H9 v d → Dt Z0 (upd G p (.ins CP dx (ProgF b vr vm ve v4 D2))) v d := fun {v d} h => (((h.off hD2).fr f9G).un.un).keepO epG odd_ins kp
        refine q _ (fun c o e n => ?_) ⟨dx, vr, vm, ve, v4, D2, upd_same, up ((dr4.fr f49)), up (dm7.fr k89), up (de.fr f9), up (g4.fr (f17.trans k89)), kvs, kp _ _ eD2 (Ne.symm pD2), L2.Paired.mapP pr fun md kv z => ⟨z.1, by
          obtain ⟨T', e, t⟩ := z.2
          exact ⟨T', e, t.keepO epG odd_ins kp⟩⟩⟩
        rw [upd_ne n]
        exact kG c o (k9 c o e n) (ne_of_none (k9 c o e n) hD2)
end
/-! ### what a program tells of itself -/
section
variable {P : Program} {w : World} {K : PySem.W.Frag} {mg : Str → Option Value} {base : Heap} {aR CP CU : Addr}
/-- a program stands at p, its parts being a program's -/
def ProgOk (P : Program) (w : World) (CP : Addr) (H : Hp) (p : Addr) (b : Int) (d1 d2 d3 d4 : PyData) : Prop := ProgAt P w CP H p b d1 d2 d3 d4 ∧ PartsOk (.int b) d1 d2 d3 d4 ∧ Sz 2 d1 ∧ Sz 5 d2
abbrev s_Program_base : Stmt := inClass (top 42) 1
theorem sc_Program_base : FnScope ["self"] ["self"] (defScope s_Program_base) := ⟨rfl, rfl, rfl, by decide +kernel, rfl, by decide +kernel, by decide +kernel⟩
abbrev s_Program_size : Stmt := inClass (top 42) 2
theorem sc_Program_size : FnScope ["self"] ["self"] (defScope s_Program_size) := ⟨rfl, rfl, rfl, by decide +kernel, rfl, by decide +kernel, by decide +kernel⟩
abbrev s_Program_ends : Stmt := inClass (top 42) 3
theorem sc_Program_ends : FnScope ["self"] ["self"] (defScope s_Program_ends) := ⟨rfl, rfl, rfl, by decide +kernel, rfl, by decide +kernel, by decide +kernel⟩
abbrev s_Program_result : Stmt := inClass (top 42) 4
theorem sc_Program_result : FnScope ["self"] ["self"] (defScope s_Program_result) := ⟨rfl, rfl, rfl, by decide +kernel, rfl, by decide +kernel, by decide +kernel⟩
abbrev s_Program_registers : Stmt := inClass (top 42) 5
theorem sc_Program_registers : FnScope ["self"] ["self"] (defScope s_Program_registers) := ⟨rfl, rfl, rfl, by decide +kernel, rfl, by decide +kernel, by decide +kernel⟩
def spPBase (P : Program) (w : World) (CP : Addr) : Sp := fun vs H Q _ => ∃ p b d1 d2 d3 d4, vs = [.ref p] ∧ ProgAt P w CP H p b d1 d2 d3 d4 ∧ Q (.int b) H
def spPSize (P : Program) (w : World) (CP : Addr) : Sp := fun vs H Q _ => ∃ p b d1 d2 d3 d4, vs = [.ref p] ∧ ProgAt P w CP H p b d1 d2 d3 d4 ∧ Q (.int (if b < 0 then -b else b)) H
def spPEnds (P : Program) (w : World) (CP : Addr) : Sp := fun vs H Q _ => ∃ p b d1 d2 d3 d4, vs = [.ref p] ∧ ProgAt P w CP H p b d1 d2 d3 d4 ∧ ∀ v, Dt Z0 H v (.tuple (itemsD d3)) → Q v H
def spPResult (P : Program) (w : World) (CP : Addr) : Sp := fun vs H Q _ => ∃ p b d1 d2 d3 d4, vs = [.ref p] ∧ ProgAt P w CP H p b d1 d2 d3 d4 ∧ ∀ v, Dt Z0 H v d4 → Q v H
theorem ok_Program_base (h : PFun K CP "base" "Program.base" s_Program_base) (C : PCls K mg CP) : OwnP P w K mg base CP 1 "base" (spPBase P w CP) := by
  obtain ⟨pa, g, fd, hp, F, b⟩ := h
  refine ⟨pa, g, fd, hp, b, F.okX sc_Program_base (fun vs H Q E h => ?_) (fun cdv A outer s H vs Q E hr h => ?_)⟩
  · obtain ⟨p, b1, d1, d2, d3, d4, rfl, _⟩ := h
    rfl
  · obtain ⟨p, b1, d1, d2, d3, d4, rfl, ⟨dx, vr, vm, ve, va, vt, e, a1, a2, a3, a4, a5⟩, q⟩ := h
    exact ⟨_, pss_one (ps_ret (pe_fld (pv 0) rfl)), _, rfl, p, CP, dx, _, _, rfl, e, C.cl, C.n1, rfl, q⟩
theorem ok_Program_size (h : PFun K CP "size" "Program.size" s_Program_size) (C : PCls K mg CP) (PT : PTx K mg aR) : OwnP P w K mg base CP 1 "size" (spPSize P w CP) := by
  obtain ⟨pa, g, fd, hp, F, b⟩ := h
  have T := PT.T
  refine ⟨pa, g, fd, hp, b, F.okX sc_Program_size (fun vs H Q E h => ?_) (fun cdv A outer s H vs Q E hr h => ?_)⟩
  · obtain ⟨p, b1, d1, d2, d3, d4, rfl, _⟩ := h
    rfl
  · obtain ⟨p, b1, d1, d2, d3, d4, rfl, ⟨dx, vr, vm, ve, va, vt, e, a1, a2, a3, a4, a5⟩, q⟩ := h
    exact ⟨_, pss_one (ps_ret (pe_callB call_abs (by rfl) T.abs bb_abs (pa_cons (pe_fld (pv 0) rfl) pa_nil))), _, rfl, p, CP, dx, _, _, rfl, e, C.cl, C.n1, rfl, _, rfl, q⟩
theorem ok_Program_ends (h : PFun K CP "ends" "Program.ends" s_Program_ends) (C : PCls K mg CP) : OwnP P w K mg base CP 1 "ends" (spPEnds P w CP) := by
  obtain ⟨pa, g, fd, hp, F, b⟩ := h
  refine ⟨pa, g, fd, hp, b, F.okX sc_Program_ends (fun vs H Q E h => ?_) (fun cdv A outer s H vs Q E hr h => ?_)⟩
  · obtain ⟨p, b1, d1, d2, d3, d4, rfl, _⟩ := h
    rfl
  · obtain ⟨p, b1, d1, d2, d3, d4, rfl, ⟨dx, vr, vm, ve, va, vt, e, a1, a2, a3, a4, a5⟩, q⟩ := h
    exact ⟨_, pss_one (ps_ret (pe_fld (pv 0) rfl)), _, rfl, p, CP, dx, _, _, rfl, e, C.cl, C.n4, rfl, q _ a3⟩
theorem ok_Program_result (h : PFun K CP "result" "Program.result" s_Program_result) (C : PCls K mg CP) : OwnP P w K mg base CP 1 "result" (spPResult P w CP) := by
  obtain ⟨pa, g, fd, hp, F, b⟩ := h
  refine ⟨pa, g, fd, hp, b, F.okX sc_Program_result (fun vs H Q E h => ?_) (fun cdv A outer s H vs Q E hr h => ?_)⟩
  · obtain ⟨p, b1, d1, d2, d3, d4, rfl, _⟩ := h
    rfl
  · obtain ⟨p, b1, d1, d2, d3, d4, rfl, ⟨dx, vr, vm, ve, va, vt, e, a1, a2, a3, a4, a5⟩, q⟩ := h
    exact ⟨_, pss_one (ps_ret (pe_fld (pv 0) rfl)), _, rfl, p, CP, dx, _, _, rfl, e, C.cl, C.n5, rfl, q _ a4⟩
/-- list of a tracked sequence: a new list of its items -/
theorem listS {X : Cx} : CallR X (.type "list") (fun xs H Q => ∃ (v : V) (d : PyData), xs = [v] ∧ Dt Z0 H v d ∧ isSeq d = true ∧ ∀ u H', Same H H' → H u = none → Dt Z0 H' (.ref u) (.list (itemsD d)) → Q (.ref u) H') := by
  intro pins s σ H xs us Q I r z
  obtain ⟨v, d, rfl, hd, sq, q⟩ := z
  obtain ⟨l, ys, rfl, dy, ha, nz⟩ := hd.seq sq
  exact listT pins s σ H _ us Q I r ⟨l, ys, rfl, ha, fun l' n => q _ _ (Same.new n) n (.lst upd_same id (dy.fr (Fm.of (Same.new n))))⟩
def spPRegs (P : Program) (w : World) (CP : Addr) : Sp := fun vs H Q _ => ∃ p b d1 d2 d3 d4, vs = [.ref p] ∧ ProgAt P w CP H p b d1 d2 d3 d4 ∧ ∀ u H', Same H H' → H u = none → Dt Z0 H' (.ref u) (.list (itemsD d1)) → Q (.ref u) H'
theorem ok_Program_registers {f : Addr} {fd : FuncData} (F : Fun K "registers" "Program.registers" s_Program_registers f fd) (C : PCls K mg CP) (PT : PTx K mg aR) : FnOk P w K mg base (L2.CX P w) 1 f fd ["self"] (spPRegs P w CP) := by
  have T := PT.T
  refine F.okX sc_Program_registers (fun vs H Q E h => ?_) (fun cdv A outer s H vs Q E hr h => ?_)
  · obtain ⟨p, b1, d1, d2, d3, d4, rfl, _⟩ := h
    rfl
  · obtain ⟨p, b1, d1, d2, d3, d4, rfl, ⟨dx, vr, vm, ve, va, vt, e, a1, a2, a3, a4, a5⟩, q⟩ := h
    exact ⟨_, pss_one (ps_ret (pe_callTy listS (by rfl) T.list bb_list (pa_cons (pe_fld (pv 0) rfl) pa_nil))), _, rfl, p, CP, dx, _, _, rfl, e, C.cl, C.n2, rfl, vr, _, rfl, a1, rfl, q⟩
abbrev s_Program__mode : Stmt := inClass (top 42) 9
abbrev N_Program__mode : List Str := ["self", "mode", "told"]
theorem sc_Program__mode : FnScope N_Program__mode ["self", "mode"] (defScope s_Program__mode) := ⟨rfl, rfl, rfl, by decide +kernel, rfl, by decide +kernel, by decide +kernel⟩
def modeOf (ms : List PyData) (s : Str) : Option PyData := ms.find? fun md => decide (nmOf md = s)
def spPMode (P : Program) (w : World) (CP CU : Addr) : Sp := fun vs H Q E => ∃ p v dv b d1 d2 d3 d4, vs = [.ref p, v] ∧ Dt Z0 H v dv ∧ ProgOk P w CP H p b d1 d2 d3 d4 ∧ (∀ s md, dv = .str s → modeOf (itemsD d2) s = some md → ∀ u, Dt Z0 H u (normM md) → Q u H) ∧
  ((∀ s, dv = .str s → modeOf (itemsD d2) s = none) → EX1 CU "value" v E H)
theorem ok_Program__mode {f : Addr} {fd : FuncData} (F : Fun K "_mode" "Program._mode" s_Program__mode f fd) (C : PCls K mg CP) (PT : PTx K mg aR) (XU : XRz P w K mg base "UnknownName" CU 1 (sp1n "value" CU)) : FnOk P w K mg base (L2.CX P w) 3 f fd ["self", "mode"] (spPMode P w CP CU) := by
  have T := PT.T
  refine F.okX sc_Program__mode (fun vs H Q E h => ?_) (fun cdv A outer s H vs Q E hr h => ?_)
  · obtain ⟨p, v, dv, b1, d1, d2, d3, d4, rfl, _⟩ := h
    rfl
  · obtain ⟨p, v, dv, b1, d1, d2, d3, d4, rfl, hv, ⟨⟨dx, vr, vm, ve, va, vt, e, a1, a2, a3, a4, a5⟩, PO, z1, z2⟩, q, qe⟩ := h
    refine ⟨_, (pss_cons (ps_if (pt_val (pe_callB call_isi (by rfl) T.isinstance bb_isinstance (pa_cons (pv 1) (pa_cons (pe_bltn (v := .ty "str") (by rfl) T.str bb_str rfl) pa_nil))))
        (pss_one (ps_for (passes_of rfl) rfl (pi_seq (pe_fld (pv 0) rfl)) (pg_name (i := 2) sc_Program__mode.nd rfl (.inl rfl))
          (pss_one (ps_if (pt_cmpR op_eq (pe_ix ixt (pv 2) pe_int (fun _ _ => rfl)) (pv 1) (nomark _))
            (pss_one (ps_ret (pv 2)))
            pss_nil))))
        pss_nil)
      (pss_one (ps_raiseN XU (hr.mono (by decide)) rfl (takes_of rfl rfl rfl rfl) rfl (pa_cons (pv 1) pa_nil)))), ?_⟩
    refine ⟨_, rfl, _, _, _, _, _, rfl, .ty _, hv.ty, hv.kStr, _, rfl, ?_⟩
    cases hv with
    | str x =>
      refine iteT ?_
      obtain ⟨sq2, m4, all2⟩ := partsD_all PO.modes
      cases a2 with
      | tup em nm dm =>
        refine ⟨_, rfl, p, CP, dx, _, _, rfl, e, C.cl, C.n3, rfl, _, _, _, rfl, .inr rfl, em, fun J wk => for_it wk (fun i σ H' => H' = H ∧ modeOf (itemsD d2) x = modeOf ((itemsD d2).drop i) x ∧ ∃ w2 : Option V, σ = [some (.ref p), some (.str x), w2]) ⟨rfl, rfl, none, rfl⟩ (fun i σ H' _ z => by rw [z.1]; exact em) ?_ ?_⟩
        · rintro i y σ H1 H2 hi ⟨rfl, eq1, w2, rfl⟩ ⟨rfl, ex⟩
          obtain ⟨di, ei, dt⟩ := dm.get ex
          have ei : ((itemsD d2).map normM)[i]? = some di := ei
          rw [List.getElem?_map] at ei
          obtain ⟨md, e3, rfl⟩ := Option.map_eq_some_iff.mp ei
          obtain ⟨t1, t2, ⟨nm1, t3, t4⟩, t5⟩ := modeD_parts (all2 md (List.mem_of_getElem? e3))
          obtain ⟨a, ys, rfl, dy, ha, nza, _⟩ := dt.tupOf rfl
          obtain ⟨y0, y1, y2, c0, c1, c2, rfl, eds, w0, w1, w2'⟩ := three_dt dy rfl
          have eds : [itD md 0, itD md 1, PyData.tuple (itemsD (itD md 2))] = [c0, c1, c2] := eds
          injection eds with q0 eds
          rw [t3] at q0
          subst q0
          cases w0
          have more : (itemsD d2).drop i = md :: (itemsD d2).drop (i + 1) := by
            obtain ⟨lt, e⟩ := List.getElem?_eq_some_iff.mp e3
            rw [List.drop_eq_getElem_cons lt, e]
          rw [more] at eq1
          have st : modeOf (md :: (itemsD d2).drop (i + 1)) x = if nm1 = x then some md else modeOf ((itemsD d2).drop (i + 1)) x := by
            unfold modeOf
            rw [List.find?_cons, t4]
            by_cases c : nm1 = x
            · rw [decide_eq_true c, if_pos c]
            · rw [decide_eq_false c, if_neg c]
          rw [st] at eq1
          refine ⟨_, rfl, a, _, 0, _, rfl, rfl, ha, atI0, _, rfl, rfl, _, rfl, ?_⟩
          by_cases c : nm1 = x
          · rw [if_pos c] at eq1
            exact iteP (decide_eq_true (by rw [c])) ⟨_, rfl, q x md rfl eq1 _ dt⟩
          · rw [if_neg c] at eq1
            exact iteN (sne c) ⟨rfl, eq1, _, rfl⟩
        · rintro σ H1 ⟨rfl, eq1, w2, rfl⟩
          have ln := dm.len
          rw [ln, List.length_map, List.drop_of_length_le (Nat.le_refl _)] at eq1
          refine ⟨_, rfl, rfl, by show 1 ≤ 1000; decide, flies1 (EX1.now (qe fun s z => ?_))⟩
          cases z
          exact eq1
    | _ => exact iteF ⟨_, rfl, rfl, by show 1 ≤ 1000; decide, flies1 (EX1.now (qe fun s z => by cases z))⟩
end
/-! ### rule_of, rows_of, modes -/
section
variable {P : Program} {w : World} {K : PySem.W.Frag} {mg : Str → Option Value} {base : Heap} {aR CP CU : Addr}
abbrev s_Program_modes : Stmt := inClass (top 42) 6
abbrev N_Program_modes : List Str := ["self", "name", "_"]
theorem sc_Program_modes : FnScope N_Program_modes ["self"] (defScope s_Program_modes) := ⟨rfl, rfl, rfl, by decide +kernel, rfl, by decide +kernel, by decide +kernel⟩
abbrev s_Program_rule_of : Stmt := inClass (top 42) 7
theorem sc_Program_rule_of : FnScope ["self", "mode"] ["self", "mode"] (defScope s_Program_rule_of) := ⟨rfl, rfl, rfl, by decide +kernel, rfl, by decide +kernel, by decide +kernel⟩
def spPRuleOf (P : Program) (w : World) (CP CU : Addr) : Sp := fun vs H Q E => ∃ p v dv b d1 d2 d3 d4, vs = [.ref p, v] ∧ Dt Z0 H v dv ∧ ProgOk P w CP H p b d1 d2 d3 d4 ∧ (∀ s md, dv = .str s → modeOf (itemsD d2) s = some md → ∀ u, Dt Z0 H u (itD md 1) → Q u H) ∧
  ((∀ s, dv = .str s → modeOf (itemsD d2) s = none) → EX1 CU "value" v E H)
theorem Dt.three {H : Hp} {u : V} {a b c : PyData} (h : Dt Z0 H u (.tuple [a, b, c])) : ∃ p x y z, u = .ref p ∧ H p = some (.tup [x, y, z]) ∧ Dt Z0 H x a ∧ Dt Z0 H y b ∧ Dt Z0 H z c := by
  obtain ⟨p, xs, rfl, dx, hp, _, _⟩ := h.tupOf rfl
  obtain ⟨x, y, z, d, e, f, rfl, eds, h1, h2, h3⟩ := three_dt dx rfl
  cases eds
  exact ⟨p, x, y, z, rfl, hp, h1, h2, h3⟩
theorem atI2 {α : Type} {x y z : α} {xs : List α} : atI (x :: y :: z :: xs) 2 = some z := atI_nat (j := 2) rfl
theorem ok_Program_rule_of {f : Addr} {fd : FuncData} (F : Fun K "rule_of" "Program.rule_of" s_Program_rule_of f fd) (C : PCls K mg CP) (mM : OwnMeth P w K mg base CP 3 "_mode" ["self", "mode"] (spPMode P w CP CU)) : FnOk P w K mg base (L2.CX P w) 4 f fd ["self", "mode"] (spPRuleOf P w CP CU) := by
  refine F.okX sc_Program_rule_of (fun vs H Q E h => ?_) (fun cdv A outer s H vs Q E hr h => ?_)
  · obtain ⟨p, v, dv, b1, d1, d2, d3, d4, rfl, _⟩ := h
    rfl
  · obtain ⟨p, v, dv, b1, d1, d2, d3, d4, rfl, hv, PO, q, qe⟩ := h
    obtain ⟨dx, vr, vm, ve, va, vt, e, _⟩ := id PO.1
    refine ⟨_, pss_one (ps_ret (pe_ix ixt (pe_methO (pv 0) C.cl mM (hr.mono (by decide)) (passes_call (takes_of rfl rfl rfl rfl) (fun _ _ _ _ z => z)) (pa_cons (pv 1) pa_nil)) pe_int (fun _ _ => rfl))), ?_⟩
    refine ⟨_, rfl, p, dx, _, rfl, e, rfl, _, rfl, p, v, dv, b1, d1, d2, d3, d4, rfl, hv, PO, fun s md es em u hu => ?_, qe⟩
    obtain ⟨a, x, y, z, rfl, ha, g0, g1, g2⟩ := hu.three
    exact ⟨a, _, 1, _, rfl, rfl, ha, atI1, q s md es em _ g1⟩
def spPModes (P : Program) (w : World) (CP : Addr) : Sp := fun vs H Q _ => ∃ p b d1 d2 d3 d4, vs = [.ref p] ∧ ProgOk P w CP H p b d1 d2 d3 d4 ∧ ∀ u H', Same H H' → H u = none → H' u = some (.lst (((itemsD d2).map nmOf).map V.str)) → Q (.ref u) H'
theorem ok_Program_modes {f : Addr} {fd : FuncData} (F : Fun K "modes" "Program.modes" s_Program_modes f fd) (C : PCls K mg CP) : FnOk P w K mg base (L2.CX P w) 1 f fd ["self"] (spPModes P w CP) := by
  refine F.okX sc_Program_modes (fun vs H Q E h => ?_) (fun cdv A outer s H vs Q E hr h => ?_)
  · obtain ⟨p, b1, d1, d2, d3, d4, rfl, _⟩ := h
    rfl
  · obtain ⟨p, b1, d1, d2, d3, d4, rfl, ⟨⟨dx, vr, vm, ve, va, vt, e, a1, a2, a3, a4, a5⟩, PO, z1, z2⟩, q⟩ := h
    obtain ⟨sq2, m4, all2⟩ := partsD_all PO.modes
    refine ⟨_, pss_one (ps_ret (pe_lc (own := [("name", 1), ("_", 2)]) (g := gTupT 3 (gCons (gName 1) (gCons (gName 2) (gCons (gName 2) gNil)))) (tt := tYes) rfl sc_Program_modes.nd (pi_seq (pe_fld (pv 0) rfl)) (blkOk_by (N := N_Program_modes) (sc := defScope s_Program_modes) (by decide +kernel)) (fun _ _ _ _ _ => (pgT (n := 3) (by rfl) (pgs_cons (pg_name (i := 1) sc_Program_modes.nd rfl (by first | exact Or.inl rfl | exact Or.inr rfl)) (pgs_cons (pg_name (i := 2) sc_Program_modes.nd rfl (by first | exact Or.inl rfl | exact Or.inr rfl)) (pgs_cons (pg_name (i := 2) sc_Program_modes.nd rfl (by first | exact Or.inl rfl | exact Or.inr rfl)) pgs_nil))))) (fun _ _ _ _ _ => pts_nil) (fun _ _ _ _ _ => (pv 1)))), ?_⟩
    cases a2 with
    | tup em nm dm =>
      rename_i xs
      have ln : xs.length = (itemsD d2).length := by
        have := dm.len
        rw [List.length_map] at this
        exact this
      refine ⟨_, rfl, p, CP, dx, _, _, rfl, e, C.cl, C.n3, rfl, _, _, _, rfl, .inr rfl, em, fun J wk D hD => ?_⟩
      refine lc_vals wk Z0 (fun _ => True) (((itemsD d2).map nmOf).map V.str) (by simp [ln]) hD id True.intro (fun _ _ _ _ => True.intro) (by rw [ln]; exact Nat.lt_of_le_of_lt z2.1 (by decide)) (fun H f => f _ _ em id) ?_ ?_
      · intro i y k H4 H5 Qk ek f _ _ yy z
        obtain ⟨rfl, ex⟩ := yy
        obtain ⟨di, ei, dt⟩ := dm.get ex
        rw [List.getElem?_map] at ei
        obtain ⟨md, e3, rfl⟩ := Option.map_eq_some_iff.mp ei
        obtain ⟨t1, t2, ⟨nm1, t3, t4⟩, t5⟩ := modeD_parts (all2 md (List.mem_of_getElem? e3))
        obtain ⟨a, x, y', z', rfl, ha, g0, g1, g2⟩ := (dt.fr f).three
        rw [t3] at g0
        cases g0
        rw [List.map_map, List.getElem?_map, e3] at ek
        have ek : some (V.str (nmOf md)) = some k := ek
        cases ek
        refine ⟨a, _, rfl, ha, rfl, _, _, rfl, _, _, rfl, _, _, rfl, rfl, rfl, ?_⟩
        rw [t4] at z
        exact ⟨_, rfl, z _ Fm.refl True.intro⟩
      · intro H4 f _ hD4
        exact q D H4 f.same hD hD4
end
/-! ### a program's row -/
section
theorem ixDK {X : Cx} (un : X.A.units + 64 < cLine) : IxR X (fun x y H Q => ∃ a kvs z v, x = .ref a ∧ y = .str z ∧ H a = some (.dK kvs) ∧ valV kvs (Sum.inr z : L2.Key) = some v ∧ Q v H) := by
  intro value slice pins s σ H x y v u Q I rx ry h hs
  obtain ⟨a, kvs, z, r, rfl, rfl, e, ev, q⟩ := h
  cases rx
  have g : DGet H a (.str z) (some r) := by
    have := DGet.k (k := (Sum.inr z : L2.Key)) e
    rw [ev] at this
    exact this
  exact PyProof.Rows.tail_any (dict_typeIs I g) PySem.F.slot_dict_getitem.lookup (d_getItem (by omega) I g ry fun w' s' I' r' => ⟨r, H, I', r', q⟩) hs
def rowAt (rs : List PyData) (k : List Leaf) : Option PyData := rs.find? fun r => decide (keyL r = k)
def rowFor (rs : List PyData) (i j : Int) : Option PyData := (rowAt rs [.num i, .num j]).or ((rowAt rs [.none, .num j]).or ((rowAt rs [.num i, .none]).or (rowAt rs [.none, .none])))
theorem val_row {H : Hp} {Z : Addr → Prop} {k : List Leaf} : ∀ {rs : List PyData} {kbs : Ents}, Paired (entOk Z H) rs kbs → match rowAt rs k with
    | some r => ∃ v, valT kbs k = some v ∧ Dt Z H v (valD r)
    | none => valT kbs k = none
  | _, _, .nil => rfl
  | r :: rs, x :: kbs, .cons h t => by
    have ih := val_row (k := k) t
    unfold rowAt valT at ih ⊢
    rw [List.find?_cons, List.find?_cons, h.1]
    by_cases c : keyL r = k
    · rw [decide_eq_true c]
      exact ⟨_, rfl, h.2⟩
    · rw [decide_eq_false c]
      exact ih
theorem wrongRow_none {size : Int} {many : Nat} {zs : List Str} : ∀ {ds ks : List PyData} {i : Nat}, wrongRow size many zs ds ks i = none → keyIn (.tuple [.none, .none]) (ks ++ ds.map keyD) = true
  | [], ks, _, e => by
    rw [wrongRow] at e
    split at e
    · simpa using ‹keyIn _ ks = true›
    · cases e
  | d :: ds, ks, i, e => by
    rw [wrongRow] at e
    split at e
    · cases e
    · have z := wrongRow_none e
      simpa using z
theorem eqv_non {d : PyData} (n : NI d) (h : PyData.eqv d .none = true) : leafD d = .none := by
  rcases n with rfl | ⟨i, rfl⟩
  · rfl
  · simp [PyData.eqv] at h
theorem row_last {size : Int} {many : Nat} {zs : List Str} {ds : List PyData} (e : wrongRow size many zs ds [] 0 = none) : ∃ r, rowAt ds [.none, .none] = some r := by
  have z := wrongRow_none e
  rw [List.nil_append] at z
  obtain ⟨k, hk, ek⟩ := List.any_eq_true.mp z
  obtain ⟨d, hd, rfl⟩ := List.mem_map.mp hk
  obtain ⟨_, _, n0, n1⟩ := rowD_NI ((wrongRow_rows e).1 d hd)
  have both : PyData.eqv (itD d 0) .none = true ∧ PyData.eqv (itD d 1) .none = true := by
    unfold keyD at ek
    simpa [PyData.eqv, PyData.eqvAll] using ek
  cases c : rowAt ds [.none, .none] with
  | some r => exact ⟨r, rfl⟩
  | none =>
    refine absurd (List.find?_eq_none.mp c d hd) ?_
    rw [Classical.not_not]
    refine decide_eq_true ?_
    unfold keyL
    rw [eqv_non n0 both.1, eqv_non n1 both.2]
end
/-! ### Program.__getitem__ -/
section
variable {P : Program} {w : World} {K : PySem.W.Frag} {mg : Str → Option Value} {base : Heap} {aR CP CU CS CN : Addr}
abbrev s_Program___getitem__ : Stmt := inClass (top 42) 10
abbrev N_Program___getitem__ : List Str := ["self", "at", "mode", "sign", "remainder", "name", "table", "key"]
theorem sc_Program___getitem__ : FnScope N_Program___getitem__ ["self", "at"] (defScope s_Program___getitem__) := ⟨rfl, rfl, rfl, by decide +kernel, rfl, by decide +kernel, by decide +kernel⟩
def spPGet (P : Program) (w : World) (CP CU CS CN : Addr) : Sp := fun vs H Q E => ∃ p t v0 v1 v2 e0 e1 e2 b d1 d2 d3 d4, vs = [.ref p, .ref t] ∧ H t = some (.tup [v0, v1, v2]) ∧ Dt Z0 H v0 e0 ∧ Dt Z0 H v1 e1 ∧ Dt Z0 H v2 e2 ∧ ProgOk P w CP H p b d1 d2 d3 d4 ∧
  (∀ s md i j row, e0 = .str s → modeOf (itemsD d2) s = some md → e1 = .int i → e2 = .int j → rowFor (itemsD (itD md 2)) i j = some row → ∀ u H', Same H H' → Dt Z0 H' u (valD row) → Q u H') ∧
  ((∀ s, e0 = .str s → modeOf (itemsD d2) s = none) → EX1 CU "value" v0 E H) ∧ (betw e1 (-1) 1 = false → EX1 CS "value" v1 E H) ∧ (remD e2 (if b < 0 then -b else b) = false → EX1 CN "value" v2 E H)
theorem ProgAt.same {H H' : Hp} {p : Addr} {b : Int} {d1 d2 d3 d4 : PyData} (h : ProgAt P w CP H p b d1 d2 d3 d4) (s : Same H H') : ProgAt P w CP H' p b d1 d2 d3 d4 := by
  obtain ⟨dx, vr, vm, ve, va, vt, e, a1, a2, a3, a4, kvs, k1, k2⟩ := h
  exact ⟨dx, vr, vm, ve, va, vt, s _ _ e, a1.fr (Fm.of s), a2.fr (Fm.of s), a3.fr (Fm.of s), a4.fr (Fm.of s), kvs, s _ _ k1, L2.Paired.mapP k2 fun md kv z => ⟨z.1, by
    obtain ⟨D, e, t⟩ := z.2
    exact ⟨D, e, t.same s⟩⟩⟩
theorem tabs_of {H : Hp} {x : Str} {md : PyData} : ∀ {ms : List PyData} {kvs : List (L2.Key × V)}, Paired (fun md (kv : L2.Key × V) => kv.1 = .inr (nmOf md) ∧ ∃ D, kv.2 = .ref D ∧ TabR P w H D (itemsD (itD md 2))) ms kvs → modeOf ms x = some md → ∃ D, valV kvs (Sum.inr x : L2.Key) = some (.ref D) ∧ TabR P w H D (itemsD (itD md 2))
  | _, _, .nil, e => by cases e
  | m :: ms, kv :: kvs, .cons h t, e => by
    unfold modeOf at e
    rw [List.find?_cons] at e
    by_cases c : nmOf m = x
    · rw [decide_eq_true c] at e
      cases e
      obtain ⟨h1, D, h2, h3⟩ := h
      exact ⟨D, by rw [valV_pos (by rw [h1, c]), h2], h3⟩
    · rw [decide_eq_false c] at e
      obtain ⟨D, a, b⟩ := tabs_of t e
      refine ⟨D, ?_, b⟩
      rw [valV_neg (by rw [h.1]; exact fun m => c (by injection m))]
      exact a
theorem ok_Program_getitem {f : Addr} {fd : FuncData} (F : Fun K "__getitem__" "Program.__getitem__" s_Program___getitem__ f fd) (C : PCls K mg CP) (mM : OwnMeth P w K mg base CP 3 "_mode" ["self", "mode"] (spPMode P w CP CU)) (pS : OwnP P w K mg base CP 1 "size" (spPSize P w CP))
    (O_is_between : Ok P w K mg base 2 "is_between" ["value", "low", "high"] spBetw) (O_is_remainder : Ok P w K mg base 3 "is_remainder" ["value", "size"] spRemD) (XS : XRz P w K mg base "InvalidSign" CS 1 (sp1n "value" CS)) (XN : XRz P w K mg base "InvalidNumber" CN 1 (sp1n "value" CN)) :
    FnOk P w K mg base (L2.CX P w) 4 f fd ["self", "at"] (spPGet P w CP CU CS CN) := by
  refine F.okX sc_Program___getitem__ (fun vs H Q E h => ?_) (fun cdv A outer s H vs Q E hr h => ?_)
  · obtain ⟨p, t, v0, v1, v2, e0, e1, e2, b, d1, d2, d3, d4, rfl, _⟩ := h
    rfl
  · obtain ⟨p, t, v0, v1, v2, e0, e1, e2, b, d1, d2, d3, d4, rfl, ht, h0, h1, h2, PO, q, qu, qs, qn⟩ := h
    obtain ⟨dx, vr, vm, ve, va, vt, e, a1, a2, a3, a4, kvs, at_k, pr⟩ := id PO.1
    have pE : Passes (L2.CX P w) (cxOf (L2.CX P w) P w K mg base N_Program___getitem__ "Program.__getitem__" (defScope s_Program___getitem__) f cdv A outer s H E) E := passes_call (takes_of rfl rfl rfl rfl) (fun _ _ _ _ z => z)
    refine ⟨_, (pss_cons (ps_asg (pv 1) (pgT (n := 3) (by rfl) (pgs_cons (pg_name (i := 2) sc_Program___getitem__.nd rfl (.inl rfl)) (pgs_cons (pg_name (i := 3) sc_Program___getitem__.nd rfl (.inl rfl)) (pgs_cons (pg_name (i := 4) sc_Program___getitem__.nd rfl (.inl rfl)) pgs_nil)))))
      (pss_cons (ps_set (i := 5) sc_Program___getitem__.nd rfl (.inl rfl) (pe_ix ixt (pe_methO (pv 0) C.cl mM (hr.mono (by decide)) pE (pa_cons (pv 2) pa_nil)) pe_int (fun _ _ => rfl)))
      (pss_cons (ps_if (pt_not (pt_val (pe_cO O_is_between (hr.mono (by decide)) pass0 rfl (pa_cons (pv 3) (pa_cons (pe_un un_neg pe_int) (pa_cons pe_int pa_nil))))))
        (pss_one (ps_raiseN XS (hr.mono (by decide)) rfl (takes_of rfl rfl rfl rfl) rfl (pa_cons (pv 3) pa_nil)))
        pss_nil)
      (pss_cons (ps_if (pt_not (pt_val (pe_cO O_is_remainder (hr.mono (by decide)) pass0 rfl (pa_cons (pv 4) (pa_cons (pe_propO (pv 0) C.cl pS (hr.mono (by decide)) passL) pa_nil)))))
        (pss_one (ps_raiseN XN (hr.mono (by decide)) rfl (takes_of rfl rfl rfl rfl) rfl (pa_cons (pv 4) pa_nil)))
        pss_nil)
      (pss_cons (ps_set (i := 6) sc_Program___getitem__.nd rfl (.inl rfl) (pe_ix (ixDK hr.units) (pe_fld (pv 0) rfl) (pv 5) (fun _ _ => rfl)))
      (pss_cons (ps_for (passes_of rfl) rfl (pi_seq (pe_tup (pa_cons (pe_tup (pa_cons (pv 3) (pa_cons (pv 4) pa_nil))) (pa_cons (pe_tup (pa_cons pe_non (pa_cons (pv 4) pa_nil))) (pa_cons (pe_tup (pa_cons (pv 3) (pa_cons pe_non pa_nil))) pa_nil))))) (pg_name (i := 7) sc_Program___getitem__.nd rfl (.inl rfl))
        (pss_one (ps_if (pt_cmpR (op_inTab hr.units) (pv 7) (pv 6) (by rfl))
          (pss_one (ps_ret (pe_ix (ixTab hr.units) (pv 6) (pv 7) (fun _ _ => rfl))))
          pss_nil)))
      (pss_one (ps_ret (pe_ix (ixTab hr.units) (pv 6) (pe_tup (pa_cons pe_non (pa_cons pe_non pa_nil))) (fun _ _ => rfl)))))))))), ?_⟩
    refine ⟨_, rfl, t, _, rfl, ht, rfl, _, _, rfl, _, _, rfl, _, _, rfl, rfl, ?_⟩
    refine ⟨_, rfl, p, dx, _, rfl, e, rfl, _, rfl, p, v0, e0, b, d1, d2, d3, d4, rfl, h0, PO, fun s md es em u hu => ?_, qu⟩
    subst es
    obtain ⟨a, x, y, z, rfl, ha, g0, g1, g2⟩ := hu.three
    obtain ⟨sq2, m4, all2⟩ := partsD_all PO.2.1.modes
    have mem : md ∈ itemsD d2 := List.mem_of_find?_eq_some em
    have nme : nmOf md = s := by
      have em2 : (itemsD d2).find? (fun md => decide (nmOf md = s)) = some md := em
      exact of_decide_eq_true (List.find?_some (p := fun md => decide (nmOf md = s)) em2)
    obtain ⟨t1, t2, ⟨nm1, t3, t4⟩, t5⟩ := modeD_parts (all2 md mem)
    rw [t3] at g0
    cases g0
    obtain rfl : nm1 = s := t4.symm.trans nme
    refine ⟨a, _, 0, _, rfl, rfl, ha, atI0, ?_⟩
    dsimp only
    refine PureT.sqn (x := !betw e1 (-1) 1) (PureT.no fun Q q => ⟨_, rfl, _, rfl, v1, e1, _, _, rfl, h1, _, rfl, q _ (Same.refl _)⟩) (fun tt H1 s1 => ?_) (fun ff H1 s1 => ?_)
    · exact ⟨_, rfl, rfl, by show 1 ≤ 1000; decide, flies1 (EX1.same (qs (no_tt tt)) s1).now⟩
    refine PureT.sqn (x := !remD e2 (if b < 0 then -b else b)) (PureT.no fun Q q => ⟨_, rfl, _, rfl, p, dx, _, rfl, s1 _ _ e, p, b, d1, d2, d3, d4, rfl, ?pat, v2, e2, _, rfl, h2.fr (Fm.of s1), _, rfl, q _ (Same.refl _)⟩) (fun tt H2 s2 => ?_) (fun ff2 H2 s2 => ?_)
    case pat => exact PO.1.same s1
    · exact ⟨_, rfl, rfl, by show 1 ≤ 1000; decide, flies1 (EX1.same (qn (no_tt tt)) (s1.trans s2)).now⟩
    have s12 := s1.trans s2
    have bt := no_ff ff
    have rm := no_ff ff2
    obtain ⟨i, rfl⟩ : ∃ i, e1 = .int i := by
      cases e1 <;> first | exact ⟨_, rfl⟩ | cases bt
    obtain ⟨j, rfl⟩ : ∃ j, e2 = .int j := by
      cases e2 <;> first | exact ⟨_, rfl⟩ | cases rm
    cases h0
    cases h1
    cases h2
    obtain ⟨D, ev, tr⟩ := tabs_of pr em
    refine ⟨_, rfl, p, CP, dx, _, _, rfl, s12 _ _ e, C.cl, C.n6, rfl, _, rfl, vt, kvs, nm1, .ref D, rfl, rfl, s12 _ _ at_k, ev, ?_⟩
    refine ⟨_, rfl, _, rfl, by show 2 ≤ sizeLine; decide, fun k1 n1 => ?_⟩
    have s3 : Same H2 (upd H2 k1 (.tup [.int i, .int j])) := Same.new n1
    have y1 : (upd H2 k1 (.tup [.int i, .int j])) k1 = some (.tup [.int i, .int j]) := upd_same
    generalize upd H2 k1 (.tup [.int i, .int j]) = H3 at s3 y1 ⊢
    refine ⟨_, rfl, by show 2 ≤ sizeLine; decide, fun k2 n2 => ?_⟩
    have s4 : Same H3 (upd H3 k2 (.tup [.non, .int j])) := Same.new n2
    have y2 : (upd H3 k2 (.tup [.non, .int j])) k2 = some (.tup [.non, .int j]) := upd_same
    generalize upd H3 k2 (.tup [.non, .int j]) = H4 at s4 y2 ⊢
    refine ⟨_, rfl, by show 2 ≤ sizeLine; decide, fun k3 n3 => ?_⟩
    have s5 : Same H4 (upd H4 k3 (.tup [.int i, .non])) := Same.new n3
    have y3 : (upd H4 k3 (.tup [.int i, .non])) k3 = some (.tup [.int i, .non]) := upd_same
    generalize upd H4 k3 (.tup [.int i, .non]) = H5 at s5 y3 ⊢
    refine ⟨by show 3 ≤ sizeLine; decide, fun k4 n4 => ?_⟩
    have s6 : Same H5 (upd H5 k4 (.tup [.ref k1, .ref k2, .ref k3])) := Same.new n4
    have y4 : (upd H5 k4 (.tup [.ref k1, .ref k2, .ref k3])) k4 = some (.tup [.ref k1, .ref k2, .ref k3]) := upd_same
    generalize upd H5 k4 (.tup [.ref k1, .ref k2, .ref k3]) = H6 at s6 y4 ⊢
    have s26 := ((s3.trans s4).trans s5).trans s6
    have s06 := s12.trans s26
    have x1 := s6 _ _ (s5 _ _ (s4 _ _ y1))
    have x2 := s6 _ _ (s5 _ _ y2)
    have x3 := s6 _ _ y3
    obtain ⟨kbs, tab, pr2⟩ := tr.same s06
    have look : ∀ k, (∃ r, rowAt (itemsD (itD md 2)) k = some r ∧ ∃ v, valT kbs k = some v ∧ Dt Z0 H6 v (valD r)) ∨ (rowAt (itemsD (itD md 2)) k = none ∧ valT kbs k = none) := fun k => by
      have z := val_row (k := k) pr2
      cases c : rowAt (itemsD (itD md 2)) k with
      | some r => rw [c] at z; exact .inl ⟨r, rfl, z⟩
      | none => rw [c] at z; exact .inr ⟨rfl, z⟩
    have q := q nm1 md i j
    refine ⟨k4, _, _, rfl, .inr rfl, y4, fun J wk => for_it wk (fun n σ H' => H' = H6 ∧ rowFor (itemsD (itD md 2)) i j = [rowFor (itemsD (itD md 2)) i j, (rowAt (itemsD (itD md 2)) [.none, .num j]).or ((rowAt (itemsD (itD md 2)) [.num i, .none]).or (rowAt (itemsD (itD md 2)) [.none, .none])), (rowAt (itemsD (itD md 2)) [.num i, .none]).or (rowAt (itemsD (itD md 2)) [.none, .none]), rowAt (itemsD (itD md 2)) [.none, .none]].getD n none ∧
      ∃ w7 : Option V, σ = [some (.ref p), some (.ref t), some (.str nm1), some (.int i), some (.int j), some (.str nm1), some (.ref D), w7]) ⟨rfl, rfl, none, rfl⟩ (fun n σ H' _ z => by rw [z.1]; exact y4) ?_ ?_⟩
    · rintro n x σ H7 H8 hn ⟨rfl, er, w7, rfl⟩ ⟨rfl, ex⟩
      match n, hn with
      | 0, _ =>
        cases ex
        refine ⟨_, rfl, _, rfl, k1, D, [.num i, .num j], kbs, rfl, rfl, x1, tab, _, rfl, ?_⟩
        rcases look [.num i, .num j] with ⟨r, e1, v, e2, dv⟩ | ⟨e1, e2⟩
        · refine iteP (by rw [e2]; rfl) ⟨_, rfl, _, rfl, k1, D, [.num i, .num j], kbs, v, rfl, rfl, x1, tab, e2, ?_⟩
          exact q r rfl em rfl rfl (by unfold rowFor; rw [e1]; rfl) v _ s06 dv
        · exact iteN (by rw [e2]; decide) ⟨rfl, by unfold rowFor; rw [e1]; rfl, _, rfl⟩
      | 1, _ =>
        cases ex
        refine ⟨_, rfl, _, rfl, k2, D, [.none, .num j], kbs, rfl, rfl, x2, tab, _, rfl, ?_⟩
        rcases look [.none, .num j] with ⟨r, e1, v, e2, dv⟩ | ⟨e1, e2⟩
        · refine iteP (by rw [e2]; rfl) ⟨_, rfl, _, rfl, k2, D, [.none, .num j], kbs, v, rfl, rfl, x2, tab, e2, ?_⟩
          exact q r rfl em rfl rfl (by rw [er]; show (rowAt _ _).or _ = _; rw [e1]; rfl) v _ s06 dv
        · exact iteN (by rw [e2]; decide) ⟨rfl, by rw [er]; show (rowAt _ _).or _ = _; rw [e1]; rfl, _, rfl⟩
      | 2, _ =>
        cases ex
        refine ⟨_, rfl, _, rfl, k3, D, [.num i, .none], kbs, rfl, rfl, x3, tab, _, rfl, ?_⟩
        rcases look [.num i, .none] with ⟨r, e1, v, e2, dv⟩ | ⟨e1, e2⟩
        · refine iteP (by rw [e2]; rfl) ⟨_, rfl, _, rfl, k3, D, [.num i, .none], kbs, v, rfl, rfl, x3, tab, e2, ?_⟩
          exact q r rfl em rfl rfl (by rw [er]; show (rowAt _ _).or _ = _; rw [e1]; rfl) v _ s06 dv
        · exact iteN (by rw [e2]; decide) ⟨rfl, by rw [er]; show (rowAt _ _).or _ = _; rw [e1]; rfl, _, rfl⟩
      | n + 3, hn => exact absurd hn (by simp)
    · rintro σ H7 ⟨rfl, er, w7, rfl⟩
      obtain ⟨r, e1⟩ := row_last (rowsErr_none PO.2.1.rows md mem)
      refine ⟨_, rfl, by show 2 ≤ sizeLine; decide, fun k5 n5 => ?_⟩
      have s7 : Same H7 (upd H7 k5 (.tup [.non, .non])) := Same.new n5
      have y5 : (upd H7 k5 (.tup [.non, .non])) k5 = some (.tup [.non, .non]) := upd_same
      rcases look [.none, .none] with ⟨r', e1', v, e2, dv⟩ | ⟨e1', e2⟩
      · refine ⟨k5, D, [.none, .none], kbs, v, rfl, rfl, y5, tab.same s7, e2, ?_⟩
        exact q r' rfl em rfl rfl (by rw [er]; exact e1') v _ (s06.trans s7) (dv.fr (Fm.of s7))
      · rw [e1] at e1'
        cases e1'
end
/-! ### parts changed -/
section
variable {P : Program} {w : World} {K : PySem.W.Frag} {mg : Str → Option Value} {base : Heap} {aR CP CB CG CM CI CE CR CU : Addr}
theorem inV_no {s : Str} : ∀ {ns : List Str}, s ∉ ns → inV (.str s) (ns.map V.str) = false
  | [], _ => rfl
  | n :: ns, h => by
    have ih := inV_no (s := s) (ns := ns) fun m => h (List.mem_cons_of_mem _ m)
    unfold inV at ih ⊢
    rw [List.map_cons, List.any_cons, ih, Bool.or_false]
    have ne : n ≠ s := fun m => h (by rw [m]; exact List.mem_cons_self)
    unfold eqV
    simp [ne]
theorem wrongAt_of {part : PyData → Bool} : ∀ {ds : List PyData} {ns : List Str} {i : Nat}, (∀ d ∈ ds, part d = true) → (ns ++ ds.map nmOf).Nodup → wrongAt part ds ns i = none
  | [], _, _, _, _ => rfl
  | d :: ds, ns, i, h, n => by
    rw [wrongAt, h d List.mem_cons_self]
    have n2 : (ns ++ [nmOf d] ++ ds.map nmOf).Nodup := by simpa using n
    have no : nmOf d ∉ ns := fun m => by
      rw [List.map_cons, List.nodup_append] at n
      exact n.2.2 _ m _ List.mem_cons_self rfl
    rw [inV_no no, if_neg (by decide)]
    exact wrongAt_of (fun x hx => h x (List.mem_cons_of_mem _ hx)) n2
theorem rowsErr_of {size : Int} {many : Nat} {zs : List Str} : ∀ {ds : List PyData}, (∀ d ∈ ds, wrongRow size many zs (itemsD (itD d 2)) [] 0 = none) → rowsErr size many zs ds = none
  | [], _ => rfl
  | d :: ds, h => by
    rw [rowsErr, h d List.mem_cons_self]
    exact rowsErr_of fun x hx => h x (List.mem_cons_of_mem _ hx)
theorem PartsOk.again {d0 d1 d2 d3 d4 d2' : PyData} (h : PartsOk d0 d1 d2 d3 d4) (sq : isSeq d2' = true) (ln : (itemsD d2').length = (itemsD d2).length) (nm : (itemsD d2').map nmOf = (itemsD d2).map nmOf) (md : ∀ m ∈ itemsD d2', modeD m = true)
    (rw_ : ∀ m ∈ itemsD d2', wrongRow (sizeD d0) (itemsD d1).length ((itemsD d2).map nmOf) (itemsD (itD m 2)) [] 0 = none) : PartsOk d0 (.tuple (itemsD d1)) d2' (.tuple (itemsD d3)) d4 := by
  have s1 : isSeq d1 = true := (partsD_all h.regs).1
  have s2 : isSeq d2 = true := (partsD_all h.modes).1
  have s3 : isSeq d3 = true := by
    have := h.ends
    unfold endsD at this
    exact (Bool.and_eq_true_iff.mp this).1
  refine ⟨h.base, ?_, ?_, ?_, ?_, h.result⟩
  · have z := h.regs
    unfold partsD listD at z ⊢
    rw [s1] at z
    exact z
  · have z := h.modes
    have nn := h.names
    unfold partsD listD at z ⊢
    rw [s2] at z
    rw [sq, ln, wrongAt_of md (by rw [nm]; simpa using nn)]
    exact Bool.and_eq_true_iff.mpr ⟨(Bool.and_eq_true_iff.mp z).1, rfl⟩
  · rw [nm]
    exact rowsErr_of rw_
  · have z := h.ends
    unfold endsD at z ⊢
    rw [s3] at z
    exact z
/-- a mode of another rule, or of the same -/
def ruleM (r : PyData) (md : PyData) : PyData := .tuple [itD md 0, r, .tuple (itemsD (itD md 2))]
theorem ruleM_ok {r md : PyData} (h : modeD md = true) (hr : ruleD r = true) : modeD (ruleM r md) = true ∧ nmOf (ruleM r md) = nmOf md ∧ itemsD (itD (ruleM r md) 2) = itemsD (itD md 2) := by
  obtain ⟨t1, t2, ⟨s, t3, t4⟩, t5⟩ := modeD_parts h
  have n0 : nameD (itD md 0) = true := by
    unfold modeD at h
    simp only [Bool.and_eq_true] at h
    exact h.2.2.1
  refine ⟨?_, ?_, rfl⟩
  · show (true && (decide (3 = 3) && (nameD (itD md 0) && (ruleD r && true)))) = true
    rw [n0, hr]
    rfl
  · unfold ruleM
    rw [t3, t4]
    rfl
theorem PartsOk.under {d0 d1 d2 d3 d4 r : PyData} (h : PartsOk d0 d1 d2 d3 d4) (hr : ruleD r = true) : PartsOk d0 (.tuple (itemsD d1)) (.list ((itemsD d2).map (ruleM r))) (.tuple (itemsD d3)) d4 := by
  obtain ⟨s2, m4, all2⟩ := partsD_all h.modes
  have rs := rowsErr_none h.rows
  refine h.again rfl (List.length_map _) ?_ ?_ ?_
  · show ((itemsD d2).map (ruleM r)).map nmOf = _
    rw [List.map_map]
    exact List.map_congr_left fun md hm => (ruleM_ok (all2 md hm) hr).2.1
  · intro m hm
    obtain ⟨md, hm2, rfl⟩ := List.mem_map.mp hm
    exact (ruleM_ok (all2 md hm2) hr).1
  · intro m hm
    obtain ⟨md, hm2, rfl⟩ := List.mem_map.mp hm
    exact rs md hm2
def MkP (P : Program) (w : World) (K : PySem.W.Frag) (mg : Str → Option Value) (base : Heap) (CP CB CG CM CI CE CR : Addr) : Prop :=
  ∃ (f : Addr) (fd : FuncData), Mk K CP f ∧ FnOk P w K mg base (L2.CX P w) 8 f fd ["self", "base", "registers", "modes", "ends", "result"] (spPInit P w CP CB CG CM CI CE CR) ∧ Binds K fd ["self", "base", "registers", "modes", "ends", "result"] []
theorem pe_mkP {X : Cx} {E : XK} {p pos : Pos} {e1 e2 e3 e4 e5 : Expr} {t : TA} (m : MkP X.prog X.w X.K X.mg X.base CP CB CG CM CI CE CR) (at_ : X.mg "Program" = some (.ref CP)) (hr : Room 9 X.A) (hx : Passes (L2.CX X.prog X.w) X E) (hg : Gl X "Program") (ha : PA X [e1, e2, e3, e4, e5] t)
    (he : starEach [e1, e2, e3, e4, e5] X.env = (false, eval e1 X.env) :: starEach [e2, e3, e4, e5] X.env := by rfl) (hpl : (backTo pos (starEach [e2, e3, e4, e5] X.env)).any (·.1) = false := by rfl) :
    PE X (.Call (.Name "Program" p) [e1, e2, e3, e4, e5] [] pos) (tMake CP (spPInit X.prog X.w CP CB CG CM CI CE CR) [] E t) := by
  obtain ⟨f, fd, M, F, b⟩ := m
  exact pe_make M F hr hg at_ b .nil hx ha (by decide) he hpl
theorem inc_grows {ds : List PyData} (h : incAt ds 0 = true) : ∀ i, i < ds.length → iOf (ds.getD 0 .none) + i ≤ iOf (ds.getD i .none)
  | 0, _ => by simp
  | i + 1, hi => by
    have ih := inc_grows h i (by omega)
    unfold incAt at h
    have z := List.all_eq_true.mp h i (List.mem_range.mpr (by omega))
    have z := of_decide_eq_true z
    rw [Nat.zero_add] at z
    omega
theorem PartsOk.few {d0 d1 d2 d3 d4 : PyData} (h : PartsOk d0 d1 d2 d3 d4) : (itemsD d3).length ≤ 1000 ∧ (itemsD d4).length ≤ 1000 := by
  obtain ⟨_, m3, _⟩ := partsD_all h.regs
  have hb := h.base
  have he := h.ends
  have hf := h.result
  unfold factD at hf
  unfold endsD at he
  simp only [Bool.and_eq_true] at hf he
  refine ⟨?_, ?_⟩
  · rcases Nat.lt_or_ge 1000 (itemsD d3).length with z | z
    · exfalso
      have sz : sizeD d0 ≤ 10 := by
        cases d0 <;> first | cases hb | skip
        rename_i b
        have hb : (betw (.int b) (-10) 10 && decide (2 ≤ b.natAbs)) = true := hb
        have hb := (Bool.and_eq_true_iff.mp hb).1
        have hb : (decide (-10 ≤ b) && decide (b ≤ 10)) = true := hb
        simp only [Bool.and_eq_true, decide_eq_true_eq] at hb
        show (if b < 0 then -b else b) ≤ 10
        split <;> omega
      have at_ : ∀ i, i < (itemsD d3).length → remD ((itemsD d3).getD i .none) (sizeD d0) = true := fun i hi => by
        refine List.all_eq_true.mp he.2.1 _ ?_
        rw [List.getD_eq_getElem?_getD, List.getElem?_eq_getElem hi]
        exact List.getElem_mem hi
      have bd : ∀ {d : PyData}, remD d (sizeD d0) = true → 1 - sizeD d0 ≤ iOf d ∧ iOf d ≤ sizeD d0 - 1 := fun {d} r => by
        cases d <;> first | cases r | skip
        rename_i i
        have r : (decide (1 - sizeD d0 ≤ i) && decide (i ≤ sizeD d0 - 1)) = true := r
        exact ⟨of_decide_eq_true (Bool.and_eq_true_iff.mp r).1, of_decide_eq_true (Bool.and_eq_true_iff.mp r).2⟩
      have g := inc_grows he.2.2 1000 (by omega)
      have a0 := bd (at_ 0 (by omega))
      have a1 := bd (at_ 1000 (by omega))
      omega
    · exact z
  · have l := of_decide_eq_true hf.2.1
    omega
theorem modeD_name {md : PyData} (h : modeD md = true) : itD md 0 = .str (nmOf md) := by
  obtain ⟨t1, t2, ⟨s, t3, t4⟩, t5⟩ := modeD_parts h
  rw [t3, t4]
theorem modeD_rule {md : PyData} (h : modeD md = true) : ruleD (itD md 1) = true := by
  unfold modeD at h
  simp only [Bool.and_eq_true] at h
  exact h.2.2.2.1
end
/-! ### == of trees that hold dicts whose keys are tuples -/
section
open PySem.SeqAt (EqIn)
variable {P : Program} {w : World} {s : Shared}
def EqS (P : Program) (w : World) (s : Shared) (n : Nat) (v u : Value) (b : Bool) : Prop := ∀ A : Around, A.units + n < cLine → EqIn P w A s v u b
theorem EqS.mono {n m : Nat} {v u : Value} {b : Bool} (h : EqS P w s n v u b) (l : n ≤ m) : EqS P w s m v u b := fun A hu => h A (by omega)
theorem EqS.same {n : Nat} {v : Value} : EqS P w s n v v true := fun A _ => (SeqAt.EqAt.same v).inModel P w
end
section
open PySem.SeqAt (EqIn)
variable {X : Cx} {pins : List (Addr × Obj)} {σ : St} {H : Hp} {s : Shared}
/-- the same dict, told twice -/
theorem Tab.inj {P : Program} {w : World} {h : Heap} {a : Addr} {kbs kbs' : Ents} (t : Tab P w H a kbs) (t' : Tab P w H a kbs') (ok : HOk P w H h) : kbs = kbs' := by
  obtain ⟨xs, r, ⟨o, es, ep, h1, h2, h3, h4, h5, h6⟩, lo, fw⟩ := t.dict ok
  obtain ⟨xs', r', ⟨o', es', ep', h1', h2', h3', h4', h5', h6'⟩, lo', fw'⟩ := t'.dict ok
  rw [h1] at h1'
  cases h1'
  rw [h3] at h3'
  cases h3'
  have e := h4.symm.trans h4'
  clear h4 h4' h6 h6' t t' fw fw'
  induction r generalizing xs' kbs' with
  | nil =>
    cases xs' with
    | nil => cases r'; rfl
    | cons _ _ => cases e
  | @cons p q ps qs hp _ ih =>
    cases xs' with
    | nil => cases e
    | cons q' qs' =>
      cases r' with
      | @cons p' _ ps' _ hp' tp' =>
        rw [List.map_cons, List.map_cons] at e
        injection e with e1 e2
        unfold entryOfKey at e1
        injection e1 with e3 e4 e5
        injection e4 with e4
        have k1 := h5 q List.mem_cons_self
        have k2 := h5' q' List.mem_cons_self
        rw [e4] at k1
        have ek := (tupleKind (leafKind P w)).inj k1 k2
        have : p = p' := by
          obtain ⟨a1, a2, a3⟩ := hp
          obtain ⟨b1, b2, b3⟩ := hp'
          rw [e5] at a3
          refine Prod.ext (a1.trans (ek.trans b1.symm)) (Prod.ext (a2.trans (e4.trans b2.symm)) (a3.inj b3))
        rw [this, ih (fun x hx => h5 x (List.mem_cons_of_mem _ hx)) _ tp' (fun x hx => h5' x (List.mem_cons_of_mem _ hx)) e2]
end
/-! ### == of programs: the mathematics, the tables -/
section
mutual
theorem Dt.inj {Z Z' : Addr → Prop} {H : Hp} {v : V} {d e : PyData} (h : Dt Z H v d) (g : Dt Z' H v e) : d = e :=
  match h, g with
  | .non, .non => rfl
  | .bl b, .bl _ => rfl
  | .int i, .int _ => rfl
  | .str x, .str _ => rfl
  | .lst a _ t, .lst a' _ t' => by
    rw [a] at a'
    cases a'
    rw [DtAll.inj t t']
  | .tup a _ t, .tup a' _ t' => by
    rw [a] at a'
    cases a'
    rw [DtAll.inj t t']
  | .lst a _ _, .tup a' _ _ => by
    rw [a] at a'
    cases a'
  | .tup a _ _, .lst a' _ _ => by
    rw [a] at a'
    cases a'
theorem DtAll.inj {Z Z' : Addr → Prop} {H : Hp} {vs : List V} {ds es : List PyData} (h : DtAll Z H vs ds) (g : DtAll Z' H vs es) : ds = es :=
  match h, g with
  | .nil, .nil => rfl
  | .cons a b, .cons a' b' => by rw [Dt.inj a a', DtAll.inj b b']
end
theorem pr_mem {α β : Type} {F : α → β → Prop} : ∀ {l : List α} {m : List β}, Paired F l m → Paired (fun a b => F a b ∧ a ∈ l ∧ b ∈ m) l m
  | _, _, .nil => .nil
  | _, _, .cons h t => .cons ⟨h, List.mem_cons_self, List.mem_cons_self⟩ (L2.Paired.mapP (pr_mem t) fun a b z => ⟨z.1, List.mem_cons_of_mem _ z.2.1, List.mem_cons_of_mem _ z.2.2⟩)
end
/-! ### parts that are a program's may be compared -/
section
theorem inAbc_lt {c : Nat} (h : inAbc c = true) : c < 0x110000 := by
  unfold inAbc at h
  rw [PySem.StrLaws.found_one] at h
  have m := of_decide_eq_true h
  exact of_decide_eq_true (List.all_eq_true.mp (show abc.cps.toList.all (fun c => decide (c < 0x110000)) = true by decide +kernel) c m)
theorem shp_str {s : Str} (h : PyData.strOk s = true) : Shp 0 (.str s) := ⟨by simpa [PyData.canLay0] using h, by simp [PyData.depth]⟩
theorem nameD_shp {d : PyData} (h : nameD d = true) : Shp 0 d := by
  cases d <;> first | cases h | skip
  rename_i s
  refine shp_str ?_
  have h : (decide (1 ≤ s.length) && (decide (s.length ≤ 8) && s.cps.toList.all inAbc)) = true := h
  simp only [Bool.and_eq_true] at h
  unfold PyData.strOk
  rw [← Array.all_toList]
  exact List.all_eq_true.mpr fun c hc => decide_eq_true (inAbc_lt (List.all_eq_true.mp h.2.2 c hc))
theorem inV_mem {s : Str} {zs : List Str} (h : inV (.str s) (zs.map V.str) = true) : s ∈ zs := by
  apply Classical.byContradiction
  intro n
  induction zs with
  | nil => cases h
  | cons z zs ih =>
    unfold inV at h
    rw [List.map_cons, List.any_cons] at h
    rcases Bool.or_eq_true_iff.mp h with e | e
    · refine n ?_
      have : s = z := by
        unfold eqV at e
        exact (by simpa using e : z = s).symm
      rw [this]
      exact List.mem_cons_self
    · exact ih e fun m => n (List.mem_cons_of_mem _ m)
theorem isTup_eq {d : PyData} (h : isTup d = true) : d = .tuple (itemsD d) := by
  cases d <;> first | rfl | cases h
theorem items_of {d : PyData} {n : Nat} (h : (itemsD d).length = n) : itemsD d = (List.range n).map (itD d) := by
  refine List.ext_getElem (by simp [h]) fun i h1 h2 => ?_
  rw [List.getElem_map, List.getElem_range]
  unfold itD
  rw [List.getD_eq_getElem?_getD, List.getElem?_eq_getElem h1]
  rfl
end
/-! ### _parts, == of programs -/
section
variable {X : Cx}
theorem pe_methO0 {C : Addr} {k : Nat} {m : Str} {ps : List Str} {sp : Sp} {E : XK} {o : Expr} {apos pos : Pos} {pl : Sem Bool} {ta : TE} (he : PE X o ta) (c : Cls X.K C) (mm : OwnMeth X.prog X.w X.K X.mg X.base C k m ps sp) (hr : Room k X.A) (hx : Passes (L2.CX X.prog X.w) X E)
    (ht : eval (.Call (.Attribute o m apos) [] [] pos) X.env = (do
      let ov ← eval o X.env
      standAt apos.atName
      let (f, first) ← holding [ov] (getMethod ov m pl)
      callWith pos f first (backTo pos (starEach [] X.env)) (backToKw pos (keywordEach [] X.env))) := by rfl) : PE X (.Call (.Attribute o m apos) [] [] pos) (tMeth C m sp [] E ta tNil) := by
  obtain ⟨f, fd, hm, hb, F⟩ := mm
  exact pe_meth0 (pl := pl) he c hm F hr hb .nil hx ht
end
section
variable {P : Program} {w : World} {K : PySem.W.Frag} {mg : Str → Option Value} {base : Heap} {aR CP CU : Addr}
/-- the parts of a program as a new tuple at t; in H0 neither it nor its list nor that list's tuples stood -/
def PartsAt (P : Program) (w : World) (H0 H : Hp) (t : Addr) (b : Int) (d1 d2 d3 d4 : PyData) : Prop := ∃ (vr : V) (M : Addr) (ve va : V) (ms : List V), H0 t = none ∧ H0 M = none ∧ H t = some (.tup [.int b, vr, .ref M, ve, va]) ∧ Dt Z0 H vr (.tuple (itemsD d1)) ∧ Dt Z0 H ve (.tuple (itemsD d3)) ∧ Dt Z0 H va d4 ∧ H M = some (.lst ms) ∧ ms.length = (itemsD d2).length ∧
  ∀ (i : Nat) (y : V) (md : PyData), ms[i]? = some y → (itemsD d2)[i]? = some md → ∃ (T : Addr) (nmv rv : V) (D : Addr), y = .ref T ∧ H0 T = none ∧ H T = some (.tup [nmv, rv, .ref D]) ∧ Dt Z0 H nmv (itD md 0) ∧ Dt Z0 H rv (itD md 1) ∧ TabR P w H D (itemsD (itD md 2))
theorem PartsAt.same {H0 H H' : Hp} {t : Addr} {b : Int} {d1 d2 d3 d4 : PyData} (h : PartsAt P w H0 H t b d1 d2 d3 d4) (s : Same H H') : PartsAt P w H0 H' t b d1 d2 d3 d4 := by
  obtain ⟨vr, M, ve, va, ms, n1, n2, a, g1, g2, g3, m, l, all⟩ := h
  exact ⟨vr, M, ve, va, ms, n1, n2, s _ _ a, g1.fr (Fm.of s), g2.fr (Fm.of s), g3.fr (Fm.of s), s _ _ m, l, fun i y md e1 e2 => by
    obtain ⟨T, nmv, rv, D, e, n, t, q1, q2, q3⟩ := all i y md e1 e2
    exact ⟨T, nmv, rv, D, e, n, s _ _ t, q1.fr (Fm.of s), q2.fr (Fm.of s), q3.same s⟩⟩
end
/-! ### == of programs -/
section
variable {P : Program} {w : World} {K : PySem.W.Frag} {mg : Str → Option Value} {base : Heap} {aR CP CU : Addr}
/-- what isinstance asks of the class -/
structure PKit (K : PySem.W.Frag) (CP : Addr) : Prop where
  c1 : PySem.W.findIn K (.ref CP) "__class__" = some (some (.builtin "object.__class__"))
  c2 : PySem.W.specialIn K (.builtin "object.__class__") "__get__" = some (some (.builtin "getset_descriptor.__get__"))
  c3 : PySem.W.takesIn K (.builtin "object.__class__") = some true
  c4 : PySem.W.mroIn K CP (.type "object") = some true
  own : PySem.W.kitOne K (.ref CP) (.ref CP) = some true
  dat : ∀ {Z : Addr → Prop} {H : Hp} {v : V} {d : PyData}, Dt Z H v d → PySem.W.kitOne K (.type (tyD d)) (.ref CP) = some false
theorem ProgOk.same {H H' : Hp} {p : Addr} {b : Int} {d1 d2 d3 d4 : PyData} (h : ProgOk P w CP H p b d1 d2 d3 d4) (s : Same H H') : ProgOk P w CP H' p b d1 d2 d3 d4 := ⟨h.1.same s, h.2⟩
end
/-! ### divide -/
def Md (i : Int) : Prop := -(2 ^ 200) < i ∧ i < 2 ^ 200
theorem Md.sm {i : Int} (h : Md i) : Sm i := by
  obtain ⟨h1, h2⟩ := h
  exact ⟨by omega, by omega⟩
theorem fdiv_facts (x b : Int) (hb : b ≠ 0) : (0 < b → 0 ≤ x - x.fdiv b * b ∧ x - x.fdiv b * b < b) ∧ (b < 0 → b < x - x.fdiv b * b ∧ x - x.fdiv b * b ≤ 0) := by
  refine ⟨fun h => ?_, fun h => ?_⟩
  · have e := Int.mul_fdiv_add_fmod x b
    have h1 := Int.fmod_nonneg_of_pos x h
    have h2 := Int.fmod_lt_of_pos x h
    rw [Int.mul_comm] at e
    omega
  · have h' : 0 < -b := by omega
    have e := Int.mul_fdiv_add_fmod (-x) (-b)
    have h1 := Int.fmod_nonneg_of_pos (-x) h'
    have h2 := Int.fmod_lt_of_pos (-x) h'
    rw [Int.neg_fdiv_neg, Int.neg_mul, Int.mul_comm] at e
    omega
structure IsDiv (r : Str) (x b q d : Int) : Prop where
  eq : x = q * b + d
  lt : -b < d ∧ d < b ∨ b < d ∧ d < -b
  down : r = "down" → (0 < b → 0 ≤ d) ∧ (b < 0 → d ≤ 0)
  up : r = "up" → (0 < b → d ≤ 0) ∧ (b < 0 → 0 ≤ d)
  zero : r = "zero" → (0 ≤ x → 0 ≤ d) ∧ (x ≤ 0 → d ≤ 0)
  pos : r = "positive" → 0 ≤ d
  near : r = "near" → (0 < b → -b < 2 * d ∧ 2 * d ≤ b) ∧ (b < 0 → b < 2 * d ∧ 2 * d ≤ -b)
theorem same_of {b q d q' d' : Int} (hb : b ≠ 0) (e : q * b + d = q' * b + d') (h1 : d - d' < b ∨ d - d' < -b) (h2 : d' - d < b ∨ d' - d < -b) (h3 : 0 < b → d - d' < b ∧ d' - d < b) (h4 : b < 0 → d - d' < -b ∧ d' - d < -b) : q = q' ∧ d = d' := by
  have e1 : (q - q') * b = d' - d := by
    rw [Int.sub_mul]
    omega
  have hq : q - q' = 0 := by
    by_cases z : q - q' = 0
    · exact z
    · exfalso
      by_cases hp : 0 < b
      · obtain ⟨h5, h6⟩ := h3 hp
        by_cases g : 1 ≤ q - q'
        · have := Int.mul_le_mul_of_nonneg_right g (Int.le_of_lt hp)
          omega
        · have g' : q - q' ≤ -1 := by omega
          have := Int.mul_le_mul_of_nonneg_right g' (Int.le_of_lt hp)
          omega
      · have hn : b < 0 := by omega
        obtain ⟨h5, h6⟩ := h4 hn
        have e2 : (q - q') * (-b) = d - d' := by
          rw [Int.mul_neg]
          omega
        by_cases g : 1 ≤ q - q'
        · have := Int.mul_le_mul_of_nonneg_right g (show 0 ≤ -b by omega)
          omega
        · have g' : q - q' ≤ -1 := by omega
          have := Int.mul_le_mul_of_nonneg_right g' (show 0 ≤ -b by omega)
          omega
  have hq' : q = q' := by omega
  subst hq'
  exact ⟨rfl, by omega⟩
theorem IsDiv.uniq {r : Str} {x b q d q' d' : Int} (hr : r ∈ five) (hb : b ≠ 0) (a : IsDiv r x b q d) (c : IsDiv r x b q' d') : q = q' ∧ d = d' := by
  have l1 := a.lt
  have l2 := c.lt
  have e : q * b + d = q' * b + d' := a.eq.symm.trans c.eq
  simp only [five, List.mem_cons, List.not_mem_nil, or_false] at hr
  rcases Int.lt_or_gt_of_ne hb with hn | hp
  · have m1 : b < d ∧ d < -b := by
      clear e l2
      rcases l1 with l | l <;> omega
    have m2 : b < d' ∧ d' < -b := by
      clear e l1
      rcases l2 with l | l <;> omega
    have key : (d - d' < -b ∧ d' - d < -b) → q = q' ∧ d = d' := fun h => same_of hb e (.inr h.1) (.inr h.2) (fun z => absurd z (by omega)) (fun _ => h)
    clear e l1 l2
    rcases hr with rfl | rfl | rfl | rfl | rfl
    · have z1 := (a.down rfl).2 hn
      have z2 := (c.down rfl).2 hn
      exact key (by omega)
    · have z1 := (a.up rfl).2 hn
      have z2 := (c.up rfl).2 hn
      exact key (by omega)
    · rcases Int.le_total 0 x with hx | hx
      · have z1 := (a.zero rfl).1 hx
        have z2 := (c.zero rfl).1 hx
        exact key (by omega)
      · have z1 := (a.zero rfl).2 hx
        have z2 := (c.zero rfl).2 hx
        exact key (by omega)
    · have z1 := a.pos rfl
      have z2 := c.pos rfl
      exact key (by omega)
    · have z1 := (a.near rfl).2 hn
      have z2 := (c.near rfl).2 hn
      exact key (by omega)
  · have m1 : -b < d ∧ d < b := by
      clear e l2
      rcases l1 with l | l <;> omega
    have m2 : -b < d' ∧ d' < b := by
      clear e l1
      rcases l2 with l | l <;> omega
    have key : (d - d' < b ∧ d' - d < b) → q = q' ∧ d = d' := fun h => same_of hb e (.inl h.1) (.inl h.2) (fun _ => h) (fun z => absurd z (by omega))
    clear e l1 l2
    rcases hr with rfl | rfl | rfl | rfl | rfl
    · have z1 := (a.down rfl).1 hp
      have z2 := (c.down rfl).1 hp
      exact key (by omega)
    · have z1 := (a.up rfl).1 hp
      have z2 := (c.up rfl).1 hp
      exact key (by omega)
    · rcases Int.le_total 0 x with hx | hx
      · have z1 := (a.zero rfl).1 hx
        have z2 := (c.zero rfl).1 hx
        exact key (by omega)
      · have z1 := (a.zero rfl).2 hx
        have z2 := (c.zero rfl).2 hx
        exact key (by omega)
    · have z1 := a.pos rfl
      have z2 := c.pos rfl
      exact key (by omega)
    · have z1 := (a.near rfl).1 hp
      have z2 := (c.near rfl).1 hp
      exact key (by omega)
theorem dh_lt {r b : Int} (hb : b ≠ 0) (h0 : r ≠ 0) (f1 : 0 < b → 0 ≤ r ∧ r < b) (f2 : b < 0 → b < r ∧ r ≤ 0) : -b < r - b ∧ r - b < b ∨ b < r - b ∧ r - b < -b := by
  rcases Int.lt_or_gt_of_ne hb with hn | hp
  · have := f2 hn
    clear f1 f2
    exact .inr (by omega)
  · have := f1 hp
    clear f1 f2
    exact .inl (by omega)
theorem dh_up {r b : Int} (f1 : 0 < b → 0 ≤ r ∧ r < b) (f2 : b < 0 → b < r ∧ r ≤ 0) : (0 < b → r - b ≤ 0) ∧ (b < 0 → 0 ≤ r - b) := by
  refine ⟨fun hp => ?_, fun hn => ?_⟩
  · have := (f1 hp).2
    clear f1 f2
    omega
  · have := (f2 hn).1
    clear f1 f2
    omega
theorem dh_zero {x m b : Int} (hb : b ≠ 0) (f1 : 0 < b → 0 ≤ x - m ∧ x - m < b) (f2 : b < 0 → b < x - m ∧ x - m ≤ 0) (h1 : 0 < b → m ≤ -b) (h2 : b < 0 → -b ≤ m) : (0 ≤ x → 0 ≤ x - m - b) ∧ (x ≤ 0 → x - m - b ≤ 0) := by
  rcases Int.lt_or_gt_of_ne hb with hn | hp
  · have u := f2 hn
    have v := h2 hn
    clear f1 f2 h1 h2
    exact ⟨fun _ => by omega, fun _ => by omega⟩
  · have u := f1 hp
    have v := h1 hp
    clear f1 f2 h1 h2
    exact ⟨fun _ => by omega, fun _ => by omega⟩
theorem dh_pos {r b : Int} (hb : b ≠ 0) (f1 : 0 < b → 0 ≤ r ∧ r < b) (f2 : b < 0 → b < r ∧ r ≤ 0) (z : r < 0) : 0 ≤ r - b := by
  rcases Int.lt_or_gt_of_ne hb with hn | hp
  · have u := f2 hn
    clear f1 f2
    omega
  · have u := f1 hp
    clear f1 f2
    omega
theorem dh_near {r b B R : Int} (h0 : r ≠ 0) (f1 : 0 < b → 0 ≤ r ∧ r < b) (f2 : b < 0 → b < r ∧ r ≤ 0) (b1 : 0 < b → B = b) (b2 : b < 0 → B = -b) (r1 : 0 ≤ r → R = r) (r2 : r < 0 → R = -r) (z : B < 2 * R ∨ 2 * R = B ∧ r < 0) :
    (0 < b → -b < 2 * (r - b) ∧ 2 * (r - b) ≤ b) ∧ (b < 0 → b < 2 * (r - b) ∧ 2 * (r - b) ≤ -b) := by
  refine ⟨fun hp => ?_, fun hn => ?_⟩
  · obtain ⟨u, v⟩ := f1 hp
    rw [b1 hp, r1 u] at z
    clear f1 f2 b1 b2 r1 r2
    omega
  · obtain ⟨u, v⟩ := f2 hn
    rw [b2 hn, r2 (by clear f1 f2 b1 b2 r1 r2 z; omega)] at z
    clear f1 f2 b1 b2 r1 r2
    omega
theorem dl_lt {r b : Int} (hb : b ≠ 0) (f1 : 0 < b → 0 ≤ r ∧ r < b) (f2 : b < 0 → b < r ∧ r ≤ 0) : -b < r ∧ r < b ∨ b < r ∧ r < -b := by
  rcases Int.lt_or_gt_of_ne hb with hn | hp
  · have := f2 hn
    clear f1 f2
    exact .inr (by omega)
  · have := f1 hp
    clear f1 f2
    exact .inl (by omega)
theorem dl_zero {x m b : Int} (hb : b ≠ 0) (f1 : 0 < b → 0 ≤ x - m ∧ x - m < b) (f2 : b < 0 → b < x - m ∧ x - m ≤ 0) (h1 : 0 < b → 0 ≤ m) (h2 : b < 0 → m ≤ 0) : (0 ≤ x → 0 ≤ x - m) ∧ (x ≤ 0 → x - m ≤ 0) := by
  rcases Int.lt_or_gt_of_ne hb with hn | hp
  · have u := f2 hn
    have v := h2 hn
    clear f1 f2 h1 h2
    exact ⟨fun _ => by omega, fun _ => by omega⟩
  · have u := f1 hp
    have v := h1 hp
    clear f1 f2 h1 h2
    exact ⟨fun _ => by omega, fun _ => by omega⟩
theorem dl_pos {r b : Int} (hb : b ≠ 0) (f1 : 0 < b → 0 ≤ r ∧ r < b) (z : r = 0 ∨ 0 ≤ r) : 0 ≤ r := by
  clear f1
  rcases z with z | z <;> omega
theorem dl_near {r b B R : Int} (f1 : 0 < b → 0 ≤ r ∧ r < b) (f2 : b < 0 → b < r ∧ r ≤ 0) (b1 : 0 < b → B = b) (b2 : b < 0 → B = -b) (r1 : 0 ≤ r → R = r) (r2 : r < 0 → R = -r) (z : r = 0 ∨ ¬ (B < 2 * R ∨ 2 * R = B ∧ r < 0)) :
    (0 < b → -b < 2 * r ∧ 2 * r ≤ b) ∧ (b < 0 → b < 2 * r ∧ 2 * r ≤ -b) := by
  by_cases h0 : r = 0
  · clear f1 f2 b1 b2 r1 r2 z
    exact ⟨fun _ => by omega, fun _ => by omega⟩
  refine ⟨fun hp => ?_, fun hn => ?_⟩
  · obtain ⟨u, v⟩ := f1 hp
    rw [b1 hp, r1 u] at z
    clear f1 f2 b1 b2 r1 r2
    omega
  · obtain ⟨u, v⟩ := f2 hn
    rw [b2 hn, r2 (by clear f1 f2 b1 b2 r1 r2 z; omega)] at z
    clear f1 f2 b1 b2 r1 r2
    omega
def ab (i : Int) : Int := if i < 0 then -i else i
theorem ab_neg {i : Int} (h : i < 0) : ab i = -i := if_pos h
theorem ab_pos {i : Int} (h : 0 ≤ i) : ab i = i := if_neg (by omega)
def Goes (r : Str) (rest b : Int) : Prop := r = "up" ∨ r = "positive" ∧ rest < 0 ∨ r = "near" ∧ (ab b < 2 * ab rest ∨ 2 * ab rest = ab b ∧ rest < 0)
theorem five_ne : ("down" : Str) ≠ "up" ∧ ("down" : Str) ≠ "zero" ∧ ("down" : Str) ≠ "positive" ∧ ("down" : Str) ≠ "near" ∧ ("up" : Str) ≠ "zero" ∧ ("up" : Str) ≠ "positive" ∧ ("up" : Str) ≠ "near" ∧
    ("zero" : Str) ≠ "positive" ∧ ("zero" : Str) ≠ "near" ∧ ("positive" : Str) ≠ "near" := by decide +kernel
theorem div_high {r r' : Str} {x b low : Int} (hr : r ∈ five) (hb : b ≠ 0) (el : low = x.fdiv b) (hr' : r' = r ∧ ¬ (r = "zero" ∧ low < 0) ∨ r = "zero" ∧ low < 0 ∧ r' = "up") (h0 : x - low * b ≠ 0) (g : Goes r' (x - low * b) b) : IsDiv r x b (low + 1) (x - low * b - b) := by
  obtain ⟨f1, f2⟩ := fdiv_facts x b hb
  rw [← el] at f1 f2
  have em : (low + 1) * b = low * b + b := by rw [Int.add_mul, Int.one_mul]
  have e0 : x = (low + 1) * b + (x - low * b - b) := by omega
  have hlow : low < 0 → (0 < b → low * b ≤ -b) ∧ (b < 0 → -b ≤ low * b) := fun hl => by
    refine ⟨fun hp => ?_, fun hn => ?_⟩
    · have := Int.mul_le_mul_of_nonneg_right (show low ≤ -1 by omega) (Int.le_of_lt hp)
      omega
    · have := Int.mul_le_mul_of_nonneg_right (show low ≤ -1 by omega) (show 0 ≤ -b by omega)
      rw [Int.mul_neg] at this
      omega
  generalize low * b = m at *
  have ab2 : (0 < b → ab b = b) ∧ (b < 0 → ab b = -b) := ⟨fun h => ab_pos (by omega), fun h => ab_neg h⟩
  have ab1 : (0 ≤ x - m → ab (x - m) = x - m) ∧ (x - m < 0 → ab (x - m) = -(x - m)) := ⟨fun h => ab_pos (by omega), fun h => ab_neg h⟩
  obtain ⟨n1, n2, n3, n4, n5, n6, n7, n8, n9, n10⟩ := five_ne
  simp only [five, List.mem_cons, List.not_mem_nil, or_false] at hr
  rcases hr with rfl | rfl | rfl | rfl | rfl
  · rcases hr' with ⟨rfl, _⟩ | ⟨z, _⟩
    · rcases g with z | ⟨z, _⟩ | ⟨z, _⟩
      · exact absurd z n1
      · exact absurd z n3
      · exact absurd z n4
    · exact absurd z n2
  · exact ⟨e0, dh_lt hb h0 f1 f2, fun z => absurd z.symm n1, fun _ => dh_up f1 f2, fun z => absurd z n5, fun z => absurd z n6, fun z => absurd z n7⟩
  · rcases hr' with ⟨rfl, z⟩ | ⟨_, hl, rfl⟩
    · rcases g with z | ⟨z, _⟩ | ⟨z, _⟩
      · exact absurd z n5.symm
      · exact absurd z n8
      · exact absurd z n9
    · have hl' := hlow hl
      exact ⟨e0, dh_lt hb h0 f1 f2, fun z => absurd z.symm n2, fun z => absurd z.symm n5, fun _ => dh_zero hb f1 f2 hl'.1 hl'.2, fun z => absurd z n8, fun z => absurd z n9⟩
  · rcases hr' with ⟨rfl, _⟩ | ⟨z, _⟩
    · rcases g with z | ⟨_, z⟩ | ⟨z, _⟩
      · exact absurd z n6.symm
      · exact ⟨e0, dh_lt hb h0 f1 f2, fun z => absurd z.symm n3, fun z => absurd z.symm n6, fun z => absurd z.symm n8, fun _ => dh_pos hb f1 f2 z, fun z => absurd z n10⟩
      · exact absurd z n10
    · exact absurd z n8.symm
  · rcases hr' with ⟨rfl, _⟩ | ⟨z, _⟩
    · rcases g with z | ⟨z, _⟩ | ⟨_, z⟩
      · exact absurd z n7.symm
      · exact absurd z n10.symm
      · exact ⟨e0, dh_lt hb h0 f1 f2, fun z => absurd z.symm n4, fun z => absurd z.symm n7, fun z => absurd z.symm n9, fun z => absurd z.symm n10, fun _ => dh_near h0 f1 f2 ab2.1 ab2.2 ab1.1 ab1.2 z⟩
    · exact absurd z n9.symm
theorem div_low {r r' : Str} {x b low : Int} (hr : r ∈ five) (hb : b ≠ 0) (el : low = x.fdiv b) (hr' : r' = r ∧ ¬ (r = "zero" ∧ low < 0) ∨ r = "zero" ∧ low < 0 ∧ r' = "up") (g : x - low * b = 0 ∨ ¬ Goes r' (x - low * b) b) : IsDiv r x b low (x - low * b) := by
  obtain ⟨f1, f2⟩ := fdiv_facts x b hb
  rw [← el] at f1 f2
  have e0 : x = low * b + (x - low * b) := by omega
  have hlow : 0 ≤ low → (0 < b → 0 ≤ low * b) ∧ (b < 0 → low * b ≤ 0) := fun hl => by
    refine ⟨fun hp => Int.mul_nonneg hl (Int.le_of_lt hp), fun hn => ?_⟩
    have := Int.mul_nonneg hl (show 0 ≤ -b by omega)
    rw [Int.mul_neg] at this
    omega
  generalize e9 : low * b = m at *
  have e1 : x = low * b + (x - m) := by
    rw [e9]
    exact e0
  have ab2 : (0 < b → ab b = b) ∧ (b < 0 → ab b = -b) := ⟨fun h => ab_pos (by omega), fun h => ab_neg h⟩
  have ab1 : (0 ≤ x - m → ab (x - m) = x - m) ∧ (x - m < 0 → ab (x - m) = -(x - m)) := ⟨fun h => ab_pos (by omega), fun h => ab_neg h⟩
  obtain ⟨n1, n2, n3, n4, n5, n6, n7, n8, n9, n10⟩ := five_ne
  simp only [five, List.mem_cons, List.not_mem_nil, or_false] at hr
  rcases hr with rfl | rfl | rfl | rfl | rfl
  · exact ⟨e1, dl_lt hb f1 f2, fun _ => ⟨fun hp => (f1 hp).1, fun hn => (f2 hn).2⟩, fun z => absurd z n1, fun z => absurd z n2, fun z => absurd z n3, fun z => absurd z n4⟩
  · rcases hr' with ⟨rfl, _⟩ | ⟨z, _⟩
    · have g' : x - m = 0 := g.elim id fun z => absurd (Or.inl rfl) z
      exact ⟨e1, dl_lt hb f1 f2, fun z => absurd z.symm n1, fun _ => ⟨fun _ => Int.le_of_eq g', fun _ => Int.le_of_eq g'.symm⟩, fun z => absurd z n5, fun z => absurd z n6, fun z => absurd z n7⟩
    · exact absurd z n5
  · refine ⟨e1, dl_lt hb f1 f2, fun z => absurd z.symm n2, fun z => absurd z.symm n5, fun _ => ?_, fun z => absurd z n8, fun z => absurd z n9⟩
    rcases hr' with ⟨rfl, z⟩ | ⟨_, hl, rfl⟩
    · have hl : 0 ≤ low := by
        by_cases q : low < 0
        · exact absurd ⟨rfl, q⟩ z
        · omega
      have hl' := hlow hl
      exact dl_zero hb f1 f2 hl'.1 hl'.2
    · have g' : x - m = 0 := g.elim id fun z => absurd (Or.inl rfl) z
      exact ⟨fun _ => Int.le_of_eq g'.symm, fun _ => Int.le_of_eq g'⟩
  · rcases hr' with ⟨rfl, _⟩ | ⟨z, _⟩
    · have g' : x - m = 0 ∨ 0 ≤ x - m := g.elim .inl fun z => .inr (by
        by_cases q : x - m < 0
        · exact absurd (Or.inr (Or.inl ⟨rfl, q⟩)) z
        · omega)
      exact ⟨e1, dl_lt hb f1 f2, fun z => absurd z.symm n3, fun z => absurd z.symm n6, fun z => absurd z.symm n8, fun _ => dl_pos hb f1 g', fun z => absurd z n10⟩
    · exact absurd z n8.symm
  · rcases hr' with ⟨rfl, _⟩ | ⟨z, _⟩
    · have g' : x - m = 0 ∨ ¬ (ab b < 2 * ab (x - m) ∨ 2 * ab (x - m) = ab b ∧ x - m < 0) := g.elim .inl fun z => .inr fun q => z (Or.inr (Or.inr ⟨rfl, q⟩))
      exact ⟨e1, dl_lt hb f1 f2, fun z => absurd z.symm n4, fun z => absurd z.symm n7, fun z => absurd z.symm n9, fun z => absurd z.symm n10, fun _ => dl_near f1 f2 ab2.1 ab2.2 ab1.1 ab1.2 g'⟩
    · exact absurd z n9.symm
theorem in_five {r : Str} (h : r ∈ five) : inV (.str r) (five.map V.str) = true := by
  simp only [five, List.mem_cons, List.not_mem_nil, or_false] at h
  rcases h with rfl | rfl | rfl | rfl | rfl <;> decide +kernel
section
variable {P : Program} {w : World} {K : PySem.W.Frag} {mg : Str → Option Value} {base : Heap} {aR : Addr}
abbrev s_goes_up : Stmt := top 38
theorem sc_goes_up : FnScope ["rule", "rest", "base"] ["rule", "rest", "base"] (defScope s_goes_up) := ⟨rfl, rfl, rfl, by decide +kernel, rfl, by decide +kernel, by decide +kernel⟩
def spGoes : Sp := fun vs H Q _ => ∃ (r : Str) (i b : Int), vs = [.str r, .int i, .int b] ∧ Sm i ∧ Sm b ∧ (Goes r i b → Q (.bl true) H) ∧ (¬ Goes r i b → Q (.bl false) H)
theorem sm_ab {i : Int} (h : Sm i) : Sm (ab i) := by
  obtain ⟨h1, h2⟩ := h
  unfold ab
  split <;> exact ⟨by omega, by omega⟩
theorem sm_two : Sm 2 := ⟨by omega, by omega⟩
theorem ok_goes_up (h : Has K mg "goes_up" s_goes_up ["rule", "rest", "base"]) (T : Txt K mg aR) : Ok P w K mg base 1 "goes_up" ["rule", "rest", "base"] spGoes := by
  obtain ⟨f, fd, g, b, F⟩ := h
  refine ⟨f, fd, g, F.kp, b, F.ok sc_goes_up (fun vs H Q E h => ?_) (fun cdv A outer s H vs Q E hr h => ?_)⟩
  · obtain ⟨r, i, b, rfl, _⟩ := h
    rfl
  · obtain ⟨r, i, b, rfl, s1, s2, q1, q2⟩ := h
    obtain ⟨n1, n2, n3, n4, n5, n6, n7, n8, n9, n10⟩ := five_ne
    refine ⟨_, (pss_cons (ps_if (pt_cmpR op_eq (pv 0) pe_str (nomark _))
      (pss_one (ps_ret pe_bl))
      pss_nil)
    (pss_cons (ps_if (pt_cmpR op_eq (pv 0) pe_str (nomark _))
      (pss_one (ps_ret (pe_cmpR op_lt (pv 1) pe_int (nomark _))))
      pss_nil)
    (pss_cons (ps_if (pt_cmpR op_eq (pv 0) pe_str (nomark _))
      (pss_one (ps_ret (pe_or (pe_cmpR op_gt (pe_op op_mulS pe_int (pe_callB call_abs (by rfl) T.abs (by decide +kernel) (pa_cons (pv 1) pa_nil))) (pe_callB call_abs (by rfl) T.abs (by decide +kernel) (pa_cons (pv 2) pa_nil)) (nomark _)) (pe_one (pe_and (pe_cmpR op_eq (pe_op op_mulS pe_int (pe_callB call_abs (by rfl) T.abs (by decide +kernel) (pa_cons (pv 1) pa_nil))) (pe_callB call_abs (by rfl) T.abs (by decide +kernel) (pa_cons (pv 2) pa_nil)) (nomark _)) (pe_one (pe_cmpR op_lt (pv 1) pe_int (nomark _))))))))
      pss_nil)
    (pss_one (ps_ret pe_bl))))), ?_⟩
    refine ⟨_, rfl, rfl, _, rfl, ?_⟩
    refine ite2 (fun c1 => ?_) (fun c1 => ?_)
    · exact q1 (.inl (of_seq c1))
    · have c1 := of_sne c1
      refine ⟨_, rfl, rfl, _, rfl, ?_⟩
      refine ite2 (fun c2 => ?_) (fun c2 => ?_)
      · have c2 := of_seq c2
        subst c2
        refine ⟨_, rfl, _, _, rfl, rfl, ?_⟩
        show Q (.bl (decide (i < 0))) H
        by_cases hi : i < 0
        · rw [decide_eq_true hi]
          exact q1 (.inr (.inl ⟨rfl, hi⟩))
        · rw [decide_eq_false hi]
          refine q2 fun z => ?_
          rcases z with z | ⟨_, z⟩ | ⟨z, _⟩
          · exact c1 z
          · exact hi z
          · exact n10 z
      · have c2 := of_sne c2
        refine ⟨_, rfl, rfl, _, rfl, ?_⟩
        refine ite2 (fun c3 => ?_) (fun c3 => ?_)
        · have c3 := of_seq c3
          subst c3
          refine ⟨_, rfl, _, rfl, _, _, rfl, rfl, ⟨sm_two, sm_ab s1⟩, _, rfl, _, rfl, _, _, rfl, rfl, _, rfl, ?_⟩
          show if decide (ab b < 2 * ab i) = true then Q (.bl true) H else _
          refine ite2 (fun c4 => ?_) (fun c4 => ?_)
          · exact q1 (.inr (.inr ⟨rfl, .inl (of_decide_eq_true c4)⟩))
          · have c4 : ¬ ab b < 2 * ab i := fun z => c4 (decide_eq_true z)
            refine ⟨_, rfl, _, rfl, _, _, rfl, rfl, ⟨sm_two, sm_ab s1⟩, _, rfl, _, rfl, rfl, _, rfl, ?_⟩
            show if decide (V.int (2 * ab i) = V.int (ab b)) = true then _ else Q (.bl false) H
            refine ite2 (fun c5 => ?_) (fun c5 => ?_)
            · refine ⟨_, rfl, _, _, rfl, rfl, ?_⟩
              show Q (.bl (decide (i < 0))) H
              by_cases hi : i < 0
              · rw [decide_eq_true hi]
                exact q1 (.inr (.inr ⟨rfl, .inr ⟨of_veq c5, hi⟩⟩))
              · rw [decide_eq_false hi]
                refine q2 fun z => ?_
                rcases z with z | ⟨z, _⟩ | ⟨_, z | ⟨_, z⟩⟩
                · exact c1 z
                · exact c2 z
                · exact c4 z
                · exact hi z
            · have c5 := of_vne c5
              refine q2 fun z => ?_
              rcases z with z | ⟨z, _⟩ | ⟨_, z | ⟨z, _⟩⟩
              · exact c1 z
              · exact c2 z
              · exact c4 z
              · exact c5 z
        · have c3 := of_sne c3
          refine q2 fun z => ?_
          rcases z with z | ⟨z, _⟩ | ⟨z, _⟩
          · exact c1 z
          · exact c2 z
          · exact c3 z
abbrev s_divide : Stmt := top 39
theorem sc_divide : FnScope ["rule", "x", "base", "low", "rest"] ["rule", "x", "base"] (defScope s_divide) := ⟨rfl, rfl, rfl, by decide +kernel, rfl, by decide +kernel, by decide +kernel⟩
def spDivide : Sp := fun vs H Q _ => ∃ (r : Str) (x b : Int), vs = [.str r, .int x, .int b] ∧ r ∈ five ∧ b ≠ 0 ∧ Md x ∧ Md b ∧ ∀ q d p, IsDiv r x b q d → H p = none → Q (.ref p) (upd H p (.tup [.int q, .int d]))
theorem low_sm {x b : Int} (h : Md x) : Sm (x.fdiv b) := by
  have := Int.natAbs_fdiv_le_natAbs x b
  obtain ⟨h1, h2⟩ := h
  exact ⟨by omega, by omega⟩
theorem rest_sm {x b : Int} (hb : b ≠ 0) (h : Md b) : Sm (x - x.fdiv b * b) := by
  obtain ⟨f1, f2⟩ := fdiv_facts x b hb
  obtain ⟨h1, h2⟩ := h
  exact ⟨by omega, by omega⟩
theorem ok_divide (h : Has K mg "divide" s_divide ["rule", "x", "base"]) (O_is_rule : Ok P w K mg base 1 "is_rule" ["value"] spRuleD) (O_is_integer : Ok P w K mg base 1 "is_integer" ["value"] spIsInt) (O_goes_up : Ok P w K mg base 1 "goes_up" ["rule", "rest", "base"] spGoes) :
    Ok P w K mg base 2 "divide" ["rule", "x", "base"] spDivide := by
  obtain ⟨f, fd, g, b, F⟩ := h
  refine ⟨f, fd, g, F.kp, b, F.ok sc_divide (fun vs H Q E h => ?_) (fun cdv A outer s H vs Q E hr h => ?_)⟩
  · obtain ⟨r, i, b, rfl, _⟩ := h
    rfl
  · obtain ⟨r, x, b, rfl, h5, hb, mx, mb, q⟩ := h
    refine ⟨_, (pss_cons (ps_if (pt_not (pt_val (pe_cO O_is_rule (hr.mono (by decide)) pass0 rfl (pa_cons (pv 0) pa_nil))))
      (pss_one ps_never)
      pss_nil)
    (pss_cons (ps_if (pt_not (pt_val (pe_cO O_is_integer (hr.mono (by decide)) pass0 rfl (pa_cons (pv 1) pa_nil))))
      (pss_one ps_never)
      pss_nil)
    (pss_cons (ps_if (PW.pt (pw_or (pt_not (pt_val (pe_cO O_is_integer (hr.mono (by decide)) pass0 rfl (pa_cons (pv 2) pa_nil)))) (pw_or1 (pt_cmpR op_eq (pv 2) pe_int (nomark _)))))
      (pss_one ps_never)
      pss_nil)
    (pss_cons (ps_set (i := 3) sc_divide.nd rfl (Or.inl rfl) (pe_op op_divS (pv 1) (pv 2)))
    (pss_cons (ps_set (i := 4) sc_divide.nd rfl (Or.inl rfl) (pe_op op_sub (pv 1) (pe_op op_mulS (pv 3) (pv 2))))
    (pss_cons (ps_if (PW.pt (pw_and (pt_cmpR op_eq (pv 0) pe_str (nomark _)) (pw_and1 (pt_cmpR op_lt (pv 3) pe_int (nomark _)))))
      (pss_one (ps_set (i := 0) sc_divide.nd rfl (Or.inl rfl) pe_str))
      pss_nil)
    (pss_cons (ps_if (PW.pt (pw_and (pt_cmpR op_ne (pv 4) pe_int (nomark _)) (pw_and1 (pt_val (pe_cO O_goes_up (hr.mono (by decide)) pass0 rfl (pa_cons (pv 0) (pa_cons (pv 4) (pa_cons (pv 2) pa_nil))))))))
      (pss_one (ps_ret (pe_tup (pa_cons (pe_op op_add (pv 3) pe_int) (pa_cons (pe_op op_sub (pv 4) (pv 2)) pa_nil)))))
      pss_nil)
    (pss_one (ps_ret (pe_tup (pa_cons (pv 3) (pa_cons (pv 4) pa_nil)))))))))))), ?_⟩
    refine ⟨_, rfl, _, _, rfl, .str r, _, rfl, iteN (by show ¬ (!inV (.str r) (five.map V.str)) = true; rw [in_five h5]; decide) ?_⟩
    refine ⟨_, rfl, _, _, rfl, .int x, _, rfl, ?_⟩
    refine iteF ?_
    refine ⟨_, rfl, _, _, rfl, .int b, _, rfl, ?_⟩
    refine iteF ?_
    refine ⟨_, rfl, rfl, _, rfl, ?_⟩
    refine iteN (vne hb) ?_
    refine ⟨_, rfl, _, rfl, _, _, rfl, rfl, ⟨hb, mb.sm⟩, ?_⟩
    refine ⟨_, rfl, _, rfl, _, rfl, _, _, rfl, rfl, ⟨low_sm mx, mb.sm⟩, _, _, rfl, rfl, ?_⟩
    refine ⟨_, rfl, rfl, _, rfl, ?_⟩
    have leaf : ∀ r' : Str, (r' = r ∧ ¬ (r = "zero" ∧ x.fdiv b < 0) ∨ r = "zero" ∧ x.fdiv b < 0 ∧ r' = "up") →
        (x - x.fdiv b * b ≠ 0 → Goes r' (x - x.fdiv b * b) b → IsDiv r x b (x.fdiv b + 1) (x - x.fdiv b * b - b)) ∧ ((x - x.fdiv b * b = 0 ∨ ¬ Goes r' (x - x.fdiv b * b) b) → IsDiv r x b (x.fdiv b) (x - x.fdiv b * b)) :=
      fun r' hr' => ⟨fun h0 g => div_high h5 hb rfl hr' h0 g, fun g => div_low h5 hb rfl hr' g⟩
    refine ite2 (fun c1 => ?_) (fun c1 => ?_)
    · refine ⟨_, rfl, _, _, rfl, rfl, _, rfl, ?_⟩
      refine ite2 (fun c2 => ?_) (fun c2 => ?_)
      · obtain ⟨l1, l2⟩ := leaf "up" (.inr ⟨of_seq c1, of_decide_eq_true c2, rfl⟩)
        refine ⟨_, rfl, rfl, _, rfl, ?_⟩
        refine ite2 (fun c3 => ?_) (fun c3 => ?_)
        · have c3 : x - x.fdiv b * b ≠ 0 := fun z => bnot_dec c3 (congrArg V.int z)
          refine ⟨_, rfl, _, rfl, _, rfl, _, _, _, rfl, rest_sm hb mb, mb.sm, fun g => ?_, fun g => ?_⟩
          · refine ⟨_, rfl, ?_⟩
            refine iteT ?_
            refine ⟨_, rfl, _, _, rfl, rfl, _, rfl, _, rfl, _, _, rfl, rfl, (by show 2 ≤ sizeLine; decide), fun p hp => ?_⟩
            exact q _ _ p (l1 c3 g) hp
          · refine ⟨_, rfl, ?_⟩
            refine iteF ?_
            refine ⟨_, rfl, _, rfl, (by show 2 ≤ sizeLine; decide), fun p hp => ?_⟩
            exact q _ _ p (l2 (.inr g)) hp
        · have c3 : x - x.fdiv b * b = 0 := of_veq (decide_eq_true (bnot_dec' c3))
          refine iteF ?_
          refine ⟨_, rfl, _, rfl, (by show 2 ≤ sizeLine; decide), fun p hp => ?_⟩
          exact q _ _ p (l2 (.inl c3)) hp
      · obtain ⟨l1, l2⟩ := leaf r (.inl ⟨rfl, fun z => c2 (decide_eq_true z.2)⟩)
        refine ⟨_, rfl, rfl, _, rfl, ?_⟩
        refine ite2 (fun c3 => ?_) (fun c3 => ?_)
        · have c3 : x - x.fdiv b * b ≠ 0 := fun z => bnot_dec c3 (congrArg V.int z)
          refine ⟨_, rfl, _, rfl, _, rfl, _, _, _, rfl, rest_sm hb mb, mb.sm, fun g => ?_, fun g => ?_⟩
          · refine ⟨_, rfl, ?_⟩
            refine iteT ?_
            refine ⟨_, rfl, _, _, rfl, rfl, _, rfl, _, rfl, _, _, rfl, rfl, (by show 2 ≤ sizeLine; decide), fun p hp => ?_⟩
            exact q _ _ p (l1 c3 g) hp
          · refine ⟨_, rfl, ?_⟩
            refine iteF ?_
            refine ⟨_, rfl, _, rfl, (by show 2 ≤ sizeLine; decide), fun p hp => ?_⟩
            exact q _ _ p (l2 (.inr g)) hp
        · have c3 : x - x.fdiv b * b = 0 := of_veq (decide_eq_true (bnot_dec' c3))
          refine iteF ?_
          refine ⟨_, rfl, _, rfl, (by show 2 ≤ sizeLine; decide), fun p hp => ?_⟩
          exact q _ _ p (l2 (.inl c3)) hp
    · obtain ⟨l1, l2⟩ := leaf r (.inl ⟨rfl, fun z => of_sne c1 z.1⟩)
      refine iteF ?_
      refine ⟨_, rfl, rfl, _, rfl, ?_⟩
      refine ite2 (fun c3 => ?_) (fun c3 => ?_)
      · have c3 : x - x.fdiv b * b ≠ 0 := fun z => bnot_dec c3 (congrArg V.int z)
        refine ⟨_, rfl, _, rfl, _, rfl, _, _, _, rfl, rest_sm hb mb, mb.sm, fun g => ?_, fun g => ?_⟩
        · refine ⟨_, rfl, ?_⟩
          refine iteT ?_
          refine ⟨_, rfl, _, _, rfl, rfl, _, rfl, _, rfl, _, _, rfl, rfl, (by show 2 ≤ sizeLine; decide), fun p hp => ?_⟩
          exact q _ _ p (l1 c3 g) hp
        · refine ⟨_, rfl, ?_⟩
          refine iteF ?_
          refine ⟨_, rfl, _, rfl, (by show 2 ≤ sizeLine; decide), fun p hp => ?_⟩
          exact q _ _ p (l2 (.inr g)) hp
      · have c3 : x - x.fdiv b * b = 0 := of_veq (decide_eq_true (bnot_dec' c3))
        refine iteF ?_
        refine ⟨_, rfl, _, rfl, (by show 2 ≤ sizeLine; decide), fun p hp => ?_⟩
        exact q _ _ p (l2 (.inl c3)) hp
end
section
theorem eqv_ni {a b : PyData} (n : NI a) (m : NI b) (h : PyData.eqv a b = true) : a = b := by
  rcases n with rfl | ⟨i, rfl⟩ <;> rcases m with rfl | ⟨j, rfl⟩ <;> simp [PyData.eqv] at h ⊢
  exact h
def NIK (k : PyData) : Prop := ∃ a b, k = .tuple [a, b] ∧ NI a ∧ NI b
theorem eqv_nik {k z : PyData} (n : NIK k) (m : NIK z) (h : PyData.eqv z k = true) : z = k := by
  obtain ⟨a, b, rfl, na, nb⟩ := n
  obtain ⟨c, d, rfl, nc, nd⟩ := m
  have both : PyData.eqv c a = true ∧ PyData.eqv d b = true := by simpa [PyData.eqv, PyData.eqvAll] using h
  rw [eqv_ni nc na both.1, eqv_ni nd nb both.2]
theorem keyIn_no {k : PyData} {ks : List PyData} (h : ∀ z ∈ ks, NIK z) (n : NIK k) (no : k ∉ ks) : keyIn k ks = false := by
  refine List.any_eq_false.mpr fun z hz e => no ?_
  rw [← eqv_nik n (h z hz) e]
  exact hz
theorem RowS.nik {d : PyData} (r : RowS d) : NIK (keyD d) := ⟨_, _, rfl, r.2.2.1, r.2.2.2⟩
theorem wrongRow_of {size : Int} {many : Nat} {zs : List Str} : ∀ {ds ks : List PyData} {i : Nat}, (∀ x ∈ ds, rowD x size many zs = true) → (∀ z ∈ ks, NIK z) → (ks ++ ds.map keyD).Nodup → keyIn (.tuple [.none, .none]) (ks ++ ds.map keyD) = true → wrongRow size many zs ds ks i = none
  | [], ks, i, _, _, _, h => by
    rw [wrongRow, if_pos (by simpa using h)]
  | d :: ds, ks, i, hr, hk, n, h => by
    have nk : NIK (keyD d) := RowS.nik (rowD_NI (hr d List.mem_cons_self))
    have no : keyD d ∉ ks := fun m => by
      rw [List.map_cons, List.nodup_append] at n
      exact n.2.2 _ m _ List.mem_cons_self rfl
    rw [wrongRow, hr d List.mem_cons_self, keyIn_no hk nk no, if_neg (by decide)]
    refine wrongRow_of (fun x hx => hr x (List.mem_cons_of_mem _ hx)) (fun z hz => ?_) (by simpa using n) (by simpa using h)
    rcases List.mem_append.mp hz with hz | hz
    · exact hk z hz
    · rw [List.mem_singleton.mp hz]
      exact nk
end
/-! ### updates, tracked -/
section
def UpsAt (H : Hp) (us : List Addr) (uss : List (List Int)) : Prop := us.length = uss.length ∧ ∀ (i : Nat) (ut : Addr) (fs : List Int), us[i]? = some ut → uss[i]? = some fs → H ut = some (.tup (fs.map V.int))
theorem UpsAt.keep {pp : Addr} {H H' : Hp} {us : List Addr} {uss : List (List Int)} (h : UpsAt H us uss) (k : Keep pp H H') (P : PoolAt H pp) : UpsAt H' us uss := by
  refine ⟨h.1, fun i ut fs e1 e2 => ?_⟩
  have a := h.2 i ut fs e1 e2
  obtain ⟨c, z, _, _, hp⟩ := P
  exact k _ _ a fun e => by rw [e, hp] at a; cases a
theorem UpsAt.snoc {H : Hp} {p : Addr} {fs : List Int} {us : List Addr} {uss : List (List Int)} (h : UpsAt H us uss) (hp : H p = some (.tup (fs.map V.int))) : UpsAt H (us ++ [p]) (uss ++ [fs]) := by
  refine ⟨by rw [List.length_append, List.length_append, h.1]; rfl, fun i c r e1 e2 => ?_⟩
  by_cases hi : i < us.length
  · rw [List.getElem?_append_left hi] at e1
    rw [List.getElem?_append_left (by rw [← h.1]; exact hi)] at e2
    exact h.2 i c r e1 e2
  · rw [List.getElem?_append_right (by omega)] at e1
    rw [List.getElem?_append_right (by rw [← h.1]; omega)] at e2
    have l1 := (List.getElem?_eq_some_iff.mp e1).1
    have z1 : i - us.length = 0 := by simpa using l1
    have z2 : i - uss.length = 0 := by rw [← h.1]; exact z1
    rw [z1] at e1
    rw [z2] at e2
    cases e1
    cases e2
    exact hp
theorem UpsAt.dt {H : Hp} {pp : Addr} {us : List Addr} {uss : List (List Int)} (h : UpsAt H us uss) (P : PoolAt H pp) : DtAll (Zp pp) H (us.map V.ref) (uss.map fun fs => .tuple (fs.map PyData.int)) := by
  refine DtAll.of_get (by rw [List.length_map, List.length_map, h.1]) fun i v d e1 e2 => ?_
  rw [List.getElem?_map] at e1 e2
  obtain ⟨u, e3, rfl⟩ := Option.map_eq_some_iff.mp e1
  obtain ⟨fs, e4, rfl⟩ := Option.map_eq_some_iff.mp e2
  have t := h.2 i u fs e3 e4
  obtain ⟨c, z, _, _, hp⟩ := P
  exact .tup t (fun m => by rw [show u = pp from m, hp] at t; cases t) (DtAll.ints fs)
def updsD (uss : List (List Int)) : PyData := .tuple (uss.map fun fs => .tuple (fs.map PyData.int))
end
/-! ### what the law draws: rows -/
section
theorem Keep.off {pp : Addr} {H H1 : Hp} {p : Addr} {o : HO} (a : Keep pp H H1) (n : H p = none) : Keep pp H (upd H1 p o) := fun b u e nb => by
  rw [upd_ne (ne_of_none e n)]
  exact a b u e nb
theorem PoolAt.upd {H : Hp} {pp p : Addr} {o : HO} (h : PoolAt H pp) (n : p ≠ pp) : PoolAt (upd H p o) pp := by
  obtain ⟨c, s, a, b, e⟩ := h
  exact ⟨c, s, a, b, by rw [upd_ne (Ne.symm n)]; exact e⟩
/-- a drawn coefficient; those of the registers together are small -/
def Co (x : Int) : Prop := -10 ≤ x ∧ x ≤ 10
def RegsSm (many : Nat) (fs : List Int) : Prop := ((fs.take many).map Int.natAbs).sum ≤ 10
/-- a drawn row -/
def RowL (size : Int) (many : Nat) (zs : List Str) (r : PyData) : Prop := ∃ a b uss t, r = .tuple [a, b, updsD uss, t] ∧ NI a ∧ NI b ∧ optD a (betw a (-1) 1) = true ∧ optD b (remD b size) = true ∧ (t = .none ∨ ∃ z, t = .str z ∧ z ∈ zs) ∧ uss.length = many ∧ ∀ fs ∈ uss, fs.length = many + 2 ∧ (∀ x ∈ fs, Co x) ∧ RegsSm many fs
theorem thenD_in {t : PyData} {zs : List Str} (h : t = .none ∨ ∃ z, t = .str z ∧ z ∈ zs) : thenD t zs = true := by
  rcases h with rfl | ⟨z, rfl, m⟩
  · rfl
  · show inV (.str z) (zs.map V.str) = true
    unfold inV
    refine List.any_eq_true.mpr ⟨.str z, List.mem_map.mpr ⟨z, m, rfl⟩, ?_⟩
    unfold eqV
    simp
theorem upsD_of {uss : List (List Int)} {many : Nat} (l : uss.length = many) (h : ∀ fs ∈ uss, fs.length = many + 2 ∧ (∀ x ∈ fs, Co x) ∧ RegsSm many fs) : upsD (updsD uss) many = true := by
  unfold upsD updsD
  have e1 : isTup (PyData.tuple (uss.map fun fs => PyData.tuple (fs.map PyData.int))) = true := rfl
  rw [e1, Bool.true_and, Bool.and_eq_true]
  refine ⟨decide_eq_true (by simp [itemsD, l]), List.all_eq_true.mpr fun x hx => ?_⟩
  obtain ⟨fs, hf, rfl⟩ := List.mem_map.mp hx
  obtain ⟨l2, b, _⟩ := h fs hf
  unfold factD
  have e2 : isTup (PyData.tuple (fs.map PyData.int)) = true := rfl
  rw [e2, Bool.true_and, Bool.and_eq_true]
  refine ⟨decide_eq_true (by simp [itemsD, l2]), List.all_eq_true.mpr fun y hy => ?_⟩
  obtain ⟨i, hi, rfl⟩ := List.mem_map.mp hy
  obtain ⟨b1, b2⟩ : -10 ≤ i ∧ i ≤ (10 : Int) := b i hi
  show (decide (-1000000 ≤ i) && decide (i ≤ 1000000)) = true
  simp only [Bool.and_eq_true, decide_eq_true_eq]
  omega
theorem RowL.row {size : Int} {many : Nat} {zs : List Str} {r : PyData} (h : RowL size many zs r) : rowD r size many zs = true := by
  obtain ⟨a, b, uss, t, rfl, _, _, h1, h2, h3, h4, h5⟩ := h
  have e : rowD (.tuple [a, b, updsD uss, t]) size many zs = (true && (true && ((optD a (betw a (-1) 1) && optD b (remD b size)) && (upsD (updsD uss) many && thenD t zs)))) := rfl
  rw [e, h1, h2, upsD_of h4 h5, thenD_in h3]
  rfl
theorem RowL.nik {size : Int} {many : Nat} {zs : List Str} {r : PyData} (h : RowL size many zs r) : NIK (keyD r) := by
  obtain ⟨a, b, uss, t, rfl, n0, n1, _⟩ := h
  exact ⟨a, b, rfl, n0, n1⟩
theorem NIK.shp {k : PyData} (h : NIK k) : Shp 1 k := by
  obtain ⟨a, b, rfl, n0, n1⟩ := h
  exact shp_tup (n := 0) fun z hz => by
    simp only [List.mem_cons, List.not_mem_nil, or_false] at hz
    rcases hz with rfl | rfl
    · exact n0.shp
    · exact n1.shp
def nnD : PyData := .tuple [.none, .none]
theorem rows_wrong {size : Int} {many : Nat} {zs : List Str} {rows : List PyData} {last : PyData} (h : ∀ r ∈ rows, RowL size many zs r) (hl : RowL size many zs last) (kl : keyD last = nnD) (nd : (nnD :: rows.map keyD).Nodup) : wrongRow size many zs (rows ++ [last]) [] 0 = none := by
  refine wrongRow_of (fun x hx => ?_) (fun z hz => by cases hz) ?_ ?_
  · rcases List.mem_append.mp hx with hx | hx
    · exact (h x hx).row
    · rw [List.mem_singleton.mp hx]
      exact hl.row
  · rw [List.nil_append, List.map_append, List.map_cons, List.map_nil, kl]
    rw [List.nodup_cons] at nd
    exact List.nodup_append.mpr ⟨nd.2, by simp, fun a ha b hb => by
      rw [List.mem_singleton.mp hb]
      exact fun m => nd.1 (m ▸ ha)⟩
  · unfold keyIn
    rw [List.any_eq_true]
    refine ⟨nnD, ?_, by decide +kernel⟩
    rw [List.nil_append, List.map_append, List.map_cons, List.map_nil, kl]
    simp
end
/-! ### what the law draws: parts; the mathematics -/
section
variable {J : It} {n : Nat} {G : Hp → Prop} {Y : Nat → Hp → V → Hp → Prop}
theorem dts_some {Z : Addr → Prop} {H : Hp} {Gd : Nat → PyData → Prop} : ∀ {xs : List V} {k : Nat}, (∀ j y, xs[j]? = some y → ∃ d, Dt Z H y d ∧ Gd (k + j) d) → ∃ ds, DtAll Z H xs ds ∧ ds.length = xs.length ∧ ∀ i d, ds[i]? = some d → Gd (k + i) d
  | [], k, _ => ⟨[], .nil, rfl, fun i d e => by simp at e⟩
  | x :: xs, k, h => by
    obtain ⟨d, d1, d2⟩ := h 0 x rfl
    obtain ⟨ds, a, b, c⟩ := dts_some (Gd := Gd) (xs := xs) (k := k + 1) fun j y e => by
      have := h (j + 1) y (by simpa using e)
      rw [show k + (j + 1) = k + 1 + j by omega] at this
      exact this
    refine ⟨d :: ds, .cons d1 a, by simp [b], fun i e ei => ?_⟩
    cases i with
    | zero => cases ei; exact d2
    | succ i =>
      rw [show k + (i + 1) = k + 1 + i by omega]
      exact c i e (by simpa using ei)
/-- a comprehension whose elements are data, drawn on the way -/
theorem lc_draw (w : Walk J n G Y) {g : TG} {te : TE} {vs : List Nat} {σ : St} {H1 : Hp} {D : Addr} {Qd : Hp → Prop} (Z : Addr → Prop) (I : Hp → Prop) (Gd : Nat → PyData → Prop)
    (hD : H1 D = none) (zD : ¬ Z D) (i0 : I H1) (iS : ∀ H l, I H → ¬ Z D → I (upd H D (.lst l))) (few : n < sizeLine)
    (hG : ∀ H, Fm Z H1 H → G H)
    (hs : ∀ i x H H' (Qk : V → Hp → Prop), i < n → Fm Z H1 H → I H → (∀ p, H p = none → p ≠ D) → Y i H x H' → (∀ y d H4, Fm Z H H4 → I H4 → Dt (Zu Z D) H4 y d → Gd i d → Qk y H4) → g x (wipe σ vs) H' fun σ2 H2 => wipe σ2 vs = wipe σ vs ∧ te σ2 H2 Qk)
    (hd : ∀ H xs ds, Fm Z H1 H → I H → H D = some (.lst xs) → DtAll (Zu Z D) H xs ds → ds.length = n → (∀ i d, ds[i]? = some d → Gd i d) → Qd H) :
    ∃ W : Nat → Nat → Hp → Prop, (∃ m, W 0 m (upd H1 D (.lst []))) ∧ ∀ i m H, W i m H →
      (J.stop i H ∧ Qd H) ∨ (J.go i H ∧ ∃ Nx : Hp → Prop, (∀ H', Nx H' → ∃ m', m' < m ∧ W (i + 1) m' H') ∧ ∀ x H', J.yld i H x H' → g x (wipe σ vs) H' fun σ2 H2 => wipe σ2 vs = wipe σ vs ∧ tYes σ2 H2 fun b H3 =>
        if b = true then te σ2 H3 fun y H4 => ∃ acc, H4 D = some (.lst acc) ∧ acc.length < sizeLine ∧ Nx (upd H4 D (.lst (acc ++ [y]))) else Nx H3) := by
  refine lc_acc w Z I (fun i y H => ∃ d, Dt (Zu Z D) H y d ∧ Gd i d) hD zD i0 iS (fun i y H H' _ r f => ?_) few hG ?_ ?_
  · obtain ⟨d, a, b⟩ := r
    exact ⟨d, a.fr f, b⟩
  · intro i x H H' Qk hi f iH ne y q
    exact hs i x H H' Qk hi f iH ne y fun y d H4 f4 i4 dy gd => q y H4 f4 i4 ⟨d, dy, gd⟩
  · intro H xs f iH hx hl hr
    obtain ⟨ds, a, b, c⟩ := dts_some (Gd := Gd) (k := 0) fun j y e => by
      rw [Nat.zero_add]
      exact hr j y e
    exact hd H xs ds f iH hx a (b.trans hl) fun i d e => by
      have := c i d e
      rw [Nat.zero_add] at this
      exact this
theorem wrongAt_fine {part : PyData → Bool} : ∀ {ds : List PyData} {ns : List Str} {i : Nat}, (∀ d ∈ ds, part d = true) → (ns ++ ds.map nmOf).Nodup → wrongAt part ds ns i = none
  | [], _, _, _, _ => rfl
  | d :: ds, ns, i, h, n => by
    rw [wrongAt]
    have c : inV (.str (nmOf d)) (ns.map V.str) = false := by
      refine Bool.eq_false_iff.mpr fun m => ?_
      have := inV_mem m
      rw [List.map_cons] at n
      exact (List.nodup_append.mp n).2.2 _ this _ List.mem_cons_self rfl
    rw [h d List.mem_cons_self, c]
    exact wrongAt_fine (fun x hx => h x (List.mem_cons_of_mem _ hx)) (by simpa using n)
theorem rowsErr_fine {size : Int} {many : Nat} {zs : List Str} : ∀ {ds : List PyData}, (∀ d ∈ ds, wrongRow size many zs (itemsD (itD d 2)) [] 0 = none) → rowsErr size many zs ds = none
  | [], _ => rfl
  | x :: xs, h => by
    rw [rowsErr, h x List.mem_cons_self]
    exact rowsErr_fine fun d hd => h d (List.mem_cons_of_mem _ hd)
def regNames : List Str := ["s", "p", "q"]
def modeNames : List Str := ["m", "k", "z"]
def IsReg (i : Nat) (d : PyData) : Prop := ∃ s c, regNames[i]? = some s ∧ d = .tuple [.str s, .int c] ∧ -2 ≤ c ∧ c ≤ 2
def IsMode (size : Int) (many : Nat) (zs : List Str) (i : Nat) (d : PyData) : Prop := ∃ z r rows, zs[i]? = some z ∧ d = .tuple [.str z, .str r, .list rows] ∧ r ∈ five ∧ (∀ x ∈ rows, RowL size many zs x) ∧ rows.length ≤ 20 ∧ wrongRow size many zs rows [] 0 = none
def IsSm (_ : Nat) (d : PyData) : Prop := ∃ c : Int, d = .int c ∧ -2 ≤ c ∧ c ≤ 2
/-- parts as they are drawn -/
structure Drawn (size b : Int) (many : Nat) (zs : List Str) (regs modes ends goal : List PyData) : Prop where
  s0 : 2 ≤ size
  s1 : size ≤ 10
  b : b = size ∨ b = -size
  m0 : 1 ≤ many
  m1 : many ≤ 3
  z0 : 1 ≤ zs.length
  z : ∃ k, zs = modeNames.take k
  lr : regs.length = many
  regs : ∀ i d, regs[i]? = some d → IsReg i d
  lm : modes.length = zs.length
  modes : ∀ i d, modes[i]? = some d → IsMode size many zs i d
  ends : ∃ es : List Int, ends = es.map PyData.int ∧ es.Pairwise (· < ·) ∧ ∀ e ∈ es, 1 - size ≤ e ∧ e ≤ size - 1
  lg : goal.length = many + 1
  goal : ∀ i d, goal[i]? = some d → IsSm i d
theorem Drawn.names {size b : Int} {many : Nat} {zs : List Str} {regs modes ends goal : List PyData} (h : Drawn size b many zs regs modes ends goal) : modes.map nmOf = zs := by
  refine List.ext_getElem? fun i => ?_
  rw [List.getElem?_map]
  cases e : modes[i]? with
  | none =>
    rw [List.getElem?_eq_none_iff, h.lm] at e
    rw [List.getElem?_eq_none_iff.mpr e]
    rfl
  | some d =>
    obtain ⟨z, r, rows, ez, rfl, _⟩ := h.modes i d e
    rw [ez]
    rfl
theorem Drawn.nodup {size b : Int} {many : Nat} {zs : List Str} {regs modes ends goal : List PyData} (h : Drawn size b many zs regs modes ends goal) : zs.Nodup := by
  obtain ⟨k, rfl⟩ := h.z
  exact (show modeNames.Nodup by decide +kernel).sublist (List.take_sublist _ _)
theorem incAt_of {es : List Int} (h : es.Pairwise (· < ·)) : incAt (es.map PyData.int) 0 = true := by
  unfold incAt
  refine List.all_eq_true.mpr fun j hj => ?_
  have hj := List.mem_range.mp hj
  rw [List.length_map] at hj
  rw [Nat.zero_add, List.getD_eq_getElem?_getD, List.getElem?_map, List.getD_eq_getElem?_getD, List.getElem?_map, List.getElem?_eq_getElem (by omega : j < es.length), List.getElem?_eq_getElem (by omega : j + 1 < es.length)]
  exact decide_eq_true (List.pairwise_iff_getElem.mp h j (j + 1) (by omega) (by omega) (by omega))
theorem RowL.sz {size : Int} {many : Nat} {zs : List Str} {r : PyData} (h : RowL size many zs r) (m : many ≤ 3) (lz : ∀ z ∈ zs, z.length ≤ 1000) : Sz 3 r := by
  obtain ⟨a, b, uss, t, rfl, na, nb, _, _, ht, lu, hb⟩ := h
  have ni : ∀ {d : PyData} {n : Nat}, NI d → Sz n d := fun {d n} h => by
    rcases h with rfl | ⟨i, rfl⟩ <;> cases n <;> first | exact ⟨by show 0 ≤ 1000; decide, fun s e => by cases e⟩ | exact ⟨by show 0 ≤ 1000; decide, fun s e => (by cases e), fun x hx => by cases hx⟩
  refine ⟨by show 4 ≤ 1000; decide, fun s e => (by cases e), fun x hx => ?_⟩
  have hx : x = a ∨ x = b ∨ x = updsD uss ∨ x = t := by simpa [itemsD] using hx
  rcases hx with rfl | rfl | rfl | rfl
  · exact ni na
  · exact ni nb
  · refine ⟨by show (uss.map _).length ≤ 1000; rw [List.length_map, lu]; omega, fun s e => (by cases e), fun y hy => ?_⟩
    obtain ⟨fs, hf, rfl⟩ := List.mem_map.mp hy
    obtain ⟨l2, _⟩ := hb fs hf
    refine ⟨by show (fs.map _).length ≤ 1000; rw [List.length_map, l2]; omega, fun s e => (by cases e), fun w hw => ?_⟩
    obtain ⟨i, _, rfl⟩ := List.mem_map.mp hw
    exact ni (.inr ⟨i, rfl⟩)
  · rcases ht with rfl | ⟨z, rfl, hz⟩
    · exact ni (.inl rfl)
    · exact ⟨by show 0 ≤ 1000; decide, fun s e => by injection e with e; rw [← e]; exact lz z hz, fun x hx => by cases hx⟩
theorem sz_str {s : Str} (h : s.length ≤ 1000) : ∀ n, Sz n (.str s)
  | 0 => ⟨by show 0 ≤ 1000; decide, fun x e => by injection e with e; rw [← e]; exact h⟩
  | _ + 1 => ⟨by show 0 ≤ 1000; decide, fun x e => (by injection e with e; rw [← e]; exact h), fun x hx => by cases hx⟩
theorem sz_int {i : Int} : ∀ n, Sz n (.int i)
  | 0 => ⟨by show 0 ≤ 1000; decide, fun x e => by cases e⟩
  | _ + 1 => ⟨by show 0 ≤ 1000; decide, fun x e => (by cases e), fun x hx => by cases hx⟩
theorem Drawn.lz {size b : Int} {many : Nat} {zs : List Str} {regs modes ends goal : List PyData} (h : Drawn size b many zs regs modes ends goal) : ∀ z ∈ zs, z.length ≤ 1000 := fun z hz => by
  obtain ⟨k, rfl⟩ := h.z
  have := List.mem_of_mem_take hz
  simp only [modeNames, List.mem_cons, List.not_mem_nil, or_false] at this
  rcases this with rfl | rfl | rfl <;> decide +kernel
theorem five_len {r : Str} (h : r ∈ five) : r.length ≤ 1000 := by
  simp only [five, List.mem_cons, List.not_mem_nil, or_false] at h
  rcases h with rfl | rfl | rfl | rfl | rfl <;> decide +kernel
theorem five_rule {r : Str} (h : r ∈ five) : ruleD (.str r) = true := by
  simp only [five, List.mem_cons, List.not_mem_nil, or_false] at h
  rcases h with rfl | rfl | rfl | rfl | rfl <;> decide +kernel
theorem mem_ix {α : Type} {xs : List α} {x : α} (h : x ∈ xs) : ∃ i : Nat, xs[i]? = some x := List.mem_iff_getElem?.mp h
theorem Drawn.ok {size b : Int} {many : Nat} {zs : List Str} {regs modes ends goal : List PyData} (h : Drawn size b many zs regs modes ends goal) : PartsOk (.int b) (.list regs) (.list modes) (.list ends) (.tuple goal) := by
  have s0 := h.s0
  have s1 := h.s1
  have m1 := h.m1
  have eb : sizeD (.int b) = size := by
    show (if b < 0 then -b else b) = size
    rcases h.b with rfl | rfl
    · rw [if_neg (by omega)]
    · rw [if_pos (by omega)]
      omega
  refine ⟨?_, ?_, ?_, ?_, ?_, ?_⟩
  · show (betw (.int b) (-10) 10 && decide (2 ≤ b.natAbs)) = true
    rw [Bool.and_eq_true]
    refine ⟨?_, decide_eq_true (by rcases h.b with e | e <;> omega)⟩
    show (decide (-10 ≤ b) && decide (b ≤ 10)) = true
    rw [Bool.and_eq_true]
    exact ⟨decide_eq_true (by rcases h.b with e | e <;> omega), decide_eq_true (by rcases h.b with e | e <;> omega)⟩
  · unfold partsD
    rw [Bool.and_eq_true]
    constructor
    · show (true && (decide ((1 : Int) ≤ (regs.length : Int)) && decide ((regs.length : Int) ≤ 3))) = true
      rw [h.lr]
      simp only [Bool.true_and, Bool.and_eq_true, decide_eq_true_eq]
      have := h.m0
      omega
    · show (wrongAt regD regs [] 0).isNone = true
      refine Option.isNone_iff_eq_none.mpr (wrongAt_fine (fun d hd => ?_) ?_)
      · obtain ⟨i, ei⟩ := mem_ix hd
        obtain ⟨s, c, es, rfl, c0, c1⟩ := h.regs i d ei
        have hs : nameD (.str s) = true := by
          have := List.mem_of_getElem? es
          simp only [regNames, List.mem_cons, List.not_mem_nil, or_false] at this
          rcases this with rfl | rfl | rfl <;> decide +kernel
        have e : regD (.tuple [.str s, .int c]) = (true && (true && (nameD (.str s) && (true && (true && ((decide (-1000000 ≤ c) && decide (c ≤ 1000000)) && true)))))) := rfl
        rw [e, hs, decide_eq_true (by omega : -1000000 ≤ c), decide_eq_true (by omega : c ≤ 1000000)]
        rfl
      · rw [List.nil_append]
        have : regs.map nmOf = regNames.take many := by
          refine List.ext_getElem? fun i => ?_
          rw [List.getElem?_map]
          cases e : regs[i]? with
          | none =>
            rw [List.getElem?_eq_none_iff, h.lr] at e
            rw [List.getElem?_eq_none_iff.mpr (by rw [List.length_take]; omega)]
            rfl
          | some d =>
            obtain ⟨s, c, es, rfl, _⟩ := h.regs i d e
            have := (List.getElem?_eq_some_iff.mp e).1
            rw [List.getElem?_take, if_pos (by rw [← h.lr]; exact this), es]
            rfl
        rw [this]
        exact (show regNames.Nodup by decide +kernel).sublist (List.take_sublist _ _)
  · unfold partsD
    rw [Bool.and_eq_true]
    constructor
    · show (true && (decide ((1 : Int) ≤ (modes.length : Int)) && decide ((modes.length : Int) ≤ 4))) = true
      rw [h.lm]
      simp only [Bool.true_and, Bool.and_eq_true, decide_eq_true_eq]
      have z0 := h.z0
      obtain ⟨k, e⟩ := h.z
      have : zs.length ≤ 3 := by
        rw [e, List.length_take]
        exact Nat.min_le_right _ _
      omega
    · show (wrongAt modeD modes [] 0).isNone = true
      refine Option.isNone_iff_eq_none.mpr (wrongAt_fine (fun d hd => ?_) ?_)
      · obtain ⟨i, ei⟩ := mem_ix hd
        obtain ⟨z, r, rows, ez, rfl, hr, _⟩ := h.modes i d ei
        have hs : nameD (.str z) = true := by
          obtain ⟨k, e⟩ := h.z
          have := List.mem_of_getElem? ez
          rw [e] at this
          have := List.mem_of_mem_take this
          simp only [modeNames, List.mem_cons, List.not_mem_nil, or_false] at this
          rcases this with rfl | rfl | rfl <;> decide +kernel
        have e : modeD (.tuple [.str z, .str r, .list rows]) = (true && (true && (nameD (.str z) && (ruleD (.str r) && true)))) := rfl
        rw [e, hs, five_rule hr]
        rfl
      · rw [List.nil_append, h.names]
        exact h.nodup
  · rw [eb, show itemsD (.list modes) = modes from rfl, show itemsD (.list regs) = regs from rfl, h.names, h.lr]
    refine rowsErr_fine fun d hd => ?_
    obtain ⟨i, ei⟩ := mem_ix hd
    obtain ⟨z, r, rows, ez, rfl, hr, _, _, hw⟩ := h.modes i d ei
    exact hw
  · obtain ⟨es, rfl, pw, be⟩ := h.ends
    rw [eb]
    show (true && ((es.map PyData.int).all (fun x => remD x size) && incAt (es.map PyData.int) 0)) = true
    rw [incAt_of pw, Bool.and_true, Bool.true_and]
    refine List.all_eq_true.mpr fun x hx => ?_
    obtain ⟨e, he, rfl⟩ := List.mem_map.mp hx
    obtain ⟨b1, b2⟩ := be e he
    show (decide (1 - size ≤ e) && decide (e ≤ size - 1)) = true
    rw [decide_eq_true b1, decide_eq_true b2]
    rfl
  · show (true && (decide ((goal.length : Int) = ((regs.length + 1 : Nat) : Int)) && goal.all fun x => betw x (-1000000) 1000000)) = true
    rw [h.lg, h.lr, Bool.true_and, decide_eq_true rfl, Bool.true_and]
    refine List.all_eq_true.mpr fun x hx => ?_
    obtain ⟨i, ei⟩ := mem_ix hx
    obtain ⟨c, rfl, c0, c1⟩ := h.goal i x ei
    show (decide (-1000000 ≤ c) && decide (c ≤ 1000000)) = true
    rw [decide_eq_true (by omega : -1000000 ≤ c), decide_eq_true (by omega : c ≤ 1000000)]
    rfl
theorem Drawn.sz1 {size b : Int} {many : Nat} {zs : List Str} {regs modes ends goal : List PyData} (h : Drawn size b many zs regs modes ends goal) : Sz 2 (.list regs) := by
  have m1 := h.m1
  refine ⟨by show regs.length ≤ 1000; rw [h.lr]; omega, fun s e => (by cases e), fun x hx => ?_⟩
  obtain ⟨i, ei⟩ := mem_ix hx
  obtain ⟨s, c, es, rfl, _⟩ := h.regs i x ei
  refine ⟨by show 2 ≤ 1000; decide, fun s e => (by cases e), fun y hy => ?_⟩
  have hy : y = .str s ∨ y = .int c := by simpa [itemsD] using hy
  rcases hy with rfl | rfl
  · have := List.mem_of_getElem? es
    simp only [regNames, List.mem_cons, List.not_mem_nil, or_false] at this
    exact sz_str (by rcases this with rfl | rfl | rfl <;> decide +kernel) _
  · exact sz_int _
theorem Drawn.sz2 {size b : Int} {many : Nat} {zs : List Str} {regs modes ends goal : List PyData} (h : Drawn size b many zs regs modes ends goal) : Sz 5 (.list modes) := by
  obtain ⟨k, ek⟩ := h.z
  have lz : zs.length ≤ 3 := by
    rw [ek, List.length_take]
    exact Nat.min_le_right _ _
  refine ⟨by show modes.length ≤ 1000; rw [h.lm]; omega, fun s e => (by cases e), fun x hx => ?_⟩
  obtain ⟨i, ei⟩ := mem_ix hx
  obtain ⟨z, r, rows, ez, rfl, hr, rl, l4, _⟩ := h.modes i x ei
  refine ⟨by show 3 ≤ 1000; decide, fun s e => (by cases e), fun y hy => ?_⟩
  have hy : y = .str z ∨ y = .str r ∨ y = .list rows := by simpa [itemsD] using hy
  rcases hy with rfl | rfl | rfl
  · exact sz_str (h.lz z (List.mem_of_getElem? ez)) _
  · exact sz_str (five_len hr) _
  · exact ⟨by show rows.length ≤ 1000; omega, fun s e => (by cases e), fun w hw => ((rl w hw).sz h.m1 h.lz).less⟩
theorem Drawn.few {size b : Int} {many : Nat} {zs : List Str} {regs modes ends goal : List PyData} (h : Drawn size b many zs regs modes ends goal) : ends.length ≤ 1000 ∧ goal.length ≤ 1000 := h.ok.few
end
/-! ### data without lists stays where lists change -/
section
mutual
def noL : PyData → Bool
  | .list _ => false
  | .tuple ds => noLs ds
  | _ => true
def noLs : List PyData → Bool
  | [] => true
  | d :: ds => noL d && noLs ds
end
theorem noLs_all : ∀ {ds : List PyData}, (∀ d ∈ ds, noL d = true) → noLs ds = true
  | [], _ => by simp [noLs]
  | d :: ds, h => by
    unfold noLs
    rw [h d List.mem_cons_self, noLs_all fun x hx => h x (List.mem_cons_of_mem _ hx)]
    rfl
mutual
theorem Dt.offL {Z Z' : Addr → Prop} {H : Hp} (n : ∀ q, Z' q → ∃ xs, H q = some (.lst xs)) {v : V} {d : PyData} (l : noL d = true) (h : Dt Z H v d) : Dt Z' H v d :=
  match h with
  | .non => .non
  | .bl b => .bl b
  | .int i => .int i
  | .str x => .str x
  | .lst e m t => by simp [noL] at l
  | .tup e m t => .tup e (fun z => by
      obtain ⟨xs, g⟩ := n _ z
      rw [e] at g
      cases g) (DtAll.offL n (by simpa [noL] using l) t)
theorem DtAll.offL {Z Z' : Addr → Prop} {H : Hp} (n : ∀ q, Z' q → ∃ xs, H q = some (.lst xs)) {vs : List V} {ds : List PyData} (l : noLs ds = true) (h : DtAll Z H vs ds) : DtAll Z' H vs ds :=
  match h with
  | .nil => .nil
  | .cons a b => by
    have l' := l
    unfold noLs at l'
    obtain ⟨l1, l2⟩ := Bool.and_eq_true_iff.mp l'
    exact .cons (Dt.offL n l1 a) (DtAll.offL n l2 b)
end
theorem NI.noL {d : PyData} (h : NI d) : W1.noL d = true := by
  rcases h with rfl | ⟨i, rfl⟩ <;> simp [W1.noL]
theorem RowL.noL {size : Int} {many : Nat} {zs : List Str} {r : PyData} (h : RowL size many zs r) : W1.noL r = true := by
  obtain ⟨a, b, uss, t, rfl, na, nb, _, _, ht, _⟩ := h
  have u : W1.noL (updsD uss) = true := by
    unfold updsD W1.noL
    refine noLs_all fun d hd => ?_
    obtain ⟨fs, _, rfl⟩ := List.mem_map.mp hd
    unfold W1.noL
    refine noLs_all fun e he => ?_
    obtain ⟨i, _, rfl⟩ := List.mem_map.mp he
    simp [W1.noL]
  have tt : W1.noL t = true := by
    rcases ht with rfl | ⟨z, rfl, _⟩ <;> simp [W1.noL]
  unfold W1.noL
  refine noLs_all fun d hd => ?_
  have hd : d = a ∨ d = b ∨ d = updsD uss ∨ d = t := by simpa using hd
  rcases hd with rfl | rfl | rfl | rfl
  · exact na.noL
  · exact nb.noL
  · exact u
  · exact tt
theorem betw_noL {d : PyData} {lo hi : Int} (h : betw d lo hi = true) : W1.noL d = true := by
  cases d <;> first | cases h | simp [W1.noL]
theorem factD_noL {d : PyData} {n : Int} (h : factD d n = true) : W1.noL d = true := by
  unfold factD at h
  simp only [Bool.and_eq_true] at h
  rw [isTup_eq h.1]
  unfold W1.noL
  exact noLs_all fun x hx => betw_noL (List.all_eq_true.mp h.2.2 x hx)
theorem upsD_noL {d : PyData} {n : Nat} (h : upsD d n = true) : W1.noL d = true := by
  unfold upsD at h
  simp only [Bool.and_eq_true] at h
  rw [isTup_eq h.1]
  unfold W1.noL
  exact noLs_all fun x hx => factD_noL (List.all_eq_true.mp h.2.2 x hx)
theorem rowD_noL {d : PyData} {size : Int} {n : Nat} {zs : List Str} (h : rowD d size n zs = true) : W1.noL d = true := by
  obtain ⟨t, l, n0, n1⟩ := rowD_NI h
  unfold rowD at h
  simp only [Bool.and_eq_true] at h
  obtain ⟨_, _, _, h1, h2⟩ := h
  rw [isTup_eq t, items_of l]
  unfold W1.noL
  refine noLs_all fun x hx => ?_
  have hx : x = itD d 0 ∨ x = itD d 1 ∨ x = itD d 2 ∨ x = itD d 3 := by simpa [List.range, List.range.loop] using hx
  rcases hx with rfl | rfl | rfl | rfl
  · exact n0.noL
  · exact n1.noL
  · exact upsD_noL h1
  · revert h2
    cases itD d 3 <;> intro h2 <;> first | (simp [W1.noL]; done) | cases h2
theorem str_noL {s : Str} : W1.noL (.str s) = true := by simp [W1.noL]
theorem nameD_noL {d : PyData} (h : nameD d = true) : W1.noL d = true := by
  cases d <;> first | cases h | simp [W1.noL]
theorem ruleD_noL {d : PyData} (h : ruleD d = true) : W1.noL d = true := by
  cases d <;> first | cases h | simp [W1.noL]
theorem regD_noL {d : PyData} (h : regD d = true) : W1.noL d = true := by
  unfold regD at h
  simp only [Bool.and_eq_true] at h
  obtain ⟨a, b, c, e⟩ := h
  rw [isTup_eq a, items_of (of_decide_eq_true b)]
  unfold W1.noL
  refine noLs_all fun x hx => ?_
  have hx : x = itD d 0 ∨ x = itD d 1 := by simpa [List.range, List.range.loop] using hx
  rcases hx with rfl | rfl
  · exact nameD_noL c
  · have f := e
    unfold factD at f
    simp only [Bool.and_eq_true] at f
    exact betw_noL (List.all_eq_true.mp f.2.2 (itD d 1) List.mem_cons_self)
theorem PartsOk.rowNoL {d0 d1 d2 d3 d4 : PyData} (h : PartsOk d0 d1 d2 d3 d4) {m : PyData} (hm : m ∈ itemsD d2) : noLs (itemsD (itD m 2)) = true := noLs_all fun r hr =>
  rowD_noL ((wrongRow_rows (rowsErr_none h.rows m hm)).1 r hr)
theorem PartsOk.regsNoL {d0 d1 d2 d3 d4 : PyData} (h : PartsOk d0 d1 d2 d3 d4) : noLs (itemsD d1) = true := noLs_all fun x hx => regD_noL ((partsD_all h.regs).2.2 x hx)
theorem PartsOk.endsNoL {d0 d1 d2 d3 d4 : PyData} (h : PartsOk d0 d1 d2 d3 d4) : noLs (itemsD d3) = true := noLs_all fun x hx => by
  have := h.ends
  unfold endsD at this
  simp only [Bool.and_eq_true] at this
  exact betw_noL (List.all_eq_true.mp this.2.1 x hx)
theorem PartsOk.resNoL {d0 d1 d2 d3 d4 : PyData} (h : PartsOk d0 d1 d2 d3 d4) : noL d4 = true := factD_noL h.result
end
/-! ### sums of products; the sign; the first mode and values of a program -/
section
variable {X : Cx}
def iZipTT (ta : TA) : TI := fun σ H R => ta σ H fun vs H1 => ∃ (a b : Addr) (xs ys : List V), vs = [.ref a, .ref b] ∧ H1 a = some (.tup xs) ∧ H1 b = some (.tup ys) ∧
  ∀ J, Walk J (min xs.length ys.length) (fun H => H a = some (.tup xs) ∧ H b = some (.tup ys)) (YPair (fun i => xs[i]?) (fun i => ys[i]?)) → R J H1
theorem walk_zipTT {K : PySem.W.Frag} {a b : Addr} {xs ys : List V} : Walk (RZ.ItzT K a b) (min xs.length ys.length) (fun H => H a = some (.tup xs) ∧ H b = some (.tup ys)) (YPair (fun i => xs[i]?) (fun i => ys[i]?)) :=
  ⟨fun i H hi ⟨e1, e2⟩ => ⟨xs, ys, _, _, SqT.of e1, SqT.of e2, List.getElem?_eq_getElem (by omega), List.getElem?_eq_getElem (by omega)⟩,
   fun H ⟨e1, e2⟩ => ⟨xs, ys, SqT.of e1, SqT.of e2, by omega⟩,
   fun i H x H' hi ⟨e1, e2⟩ ⟨T, y1, y2, ev, hT, e3, f1, f2⟩ => ⟨T, y1, y2, ev, hT, e3, f1 xs (SqT.of e1), f2 ys (SqT.of e2)⟩⟩
theorem pi_zipTT {e e2 : Expr} {ta : TA} {p pos tpos : Pos} {elts : List Expr} {kk : Nat} (hg : Gl X "zip") (hm : X.mg "zip" = none) (ha : PA X [e, e2] ta)
    (hs : starEach [e, e2] X.env = (false, eval e X.env) :: starEach [e2] X.env := by rfl) (hpl : (backTo pos (starEach [e2] X.env)).any (·.1) = false := by rfl) :
    PI X (.Tuple elts kk tpos) (.Call (.Name "zip" p) [e, e2] [] pos) (iZipTT ta) :=
  ⟨fun pins s σ H R I h => (RZ.pi_zipA hg hm (pa_up ha) hs hpl).run pins s σ H R I ⟨_, h, fun vs H1 ⟨a, b, xs, ys, e1, h1, h2, k⟩ => ⟨a, b, xs, ys, e1, .inr ⟨SqT.of h1, SqT.of h2, k _ walk_zipTT⟩⟩⟩⟩
end
def dotI (fs xs : List Int) : Int := (List.zipWith (· * ·) fs xs).sum
def sgnI (x : Int) : Int := if 0 < x then 1 else if x < 0 then -1 else 0
section
variable {P : Program} {w : World} {K : PySem.W.Frag} {mg : Str → Option Value} {base : Heap} {aR CP : Addr}
abbrev s_sign_of : Stmt := top 43
abbrev N_sign_of : List Str := ["x"]
theorem sc_sign_of : FnScope N_sign_of ["x"] (defScope s_sign_of) := ⟨rfl, rfl, rfl, by decide +kernel, rfl, by decide +kernel, by decide +kernel⟩
def spSign : Sp := fun vs H Q _ => ∃ x : Int, vs = [.int x] ∧ Q (.int (sgnI x)) H
theorem ok_sign_of (h : Has K mg "sign_of" s_sign_of ["x"]) : Ok P w K mg base 1 "sign_of" ["x"] spSign := by
  obtain ⟨f, fd, g, b, F⟩ := h
  refine ⟨f, fd, g, F.kp, b, F.ok sc_sign_of (fun vs H Q E h => ?_) (fun cdv A outer s H vs Q E hr h => ?_)⟩
  · obtain ⟨x, rfl, _⟩ := h
    rfl
  · obtain ⟨x, rfl, q⟩ := h
    refine ⟨_, (pss_cons (ps_if (pt_cmpR op_gt (pv 0) pe_int (nomark _))
        (pss_one (ps_ret pe_int))
        pss_nil)
      (pss_one (ps_ret (pe_ifExp (pt_cmpR op_lt (pv 0) pe_int (nomark _)) (pe_un un_neg pe_int) pe_int)))), ?_⟩
    unfold sgnI at q
    refine ⟨_, rfl, _, _, rfl, rfl, _, rfl, ?_⟩
    refine ite2 (fun c1 => ?_) (fun c1 => ?_)
    · have c1 := of_decide_eq_true c1
      rw [if_pos c1] at q
      exact q
    · have c1 := fun z => c1 (decide_eq_true z)
      rw [if_neg c1] at q
      refine ⟨_, rfl, _, _, rfl, rfl, _, rfl, ?_⟩
      refine ite2 (fun c2 => ?_) (fun c2 => ?_)
      · have c2 := of_decide_eq_true c2
        rw [if_pos c2] at q
        exact ⟨_, rfl, q⟩
      · have c2 := fun z => c2 (decide_eq_true z)
        rw [if_neg c2] at q
        exact q
abbrev s_weighed : Stmt := top 44
abbrev N_weighed : List Str := ["factors", "values", "factor", "value"]
theorem sc_weighed : FnScope N_weighed ["factors", "values"] (defScope s_weighed) := ⟨rfl, rfl, rfl, by decide +kernel, rfl, by decide +kernel, by decide +kernel⟩
def spWeighed : Sp := fun vs H Q _ => ∃ a b fs xs, vs = [.ref a, .ref b] ∧ H a = some (.tup (fs.map V.int)) ∧ H b = some (.tup (xs.map V.int)) ∧ (∀ i ∈ fs, Sm i) ∧ (∀ i ∈ xs, Sm i) ∧ fs.length < 4000 ∧ ∀ H', Same H H' → Q (.int (dotI fs xs)) H'
theorem ok_weighed (h : Has K mg "weighed" s_weighed ["factors", "values"]) (T : Txt K mg aR) : Ok P w K mg base 1 "weighed" ["factors", "values"] spWeighed := by
  obtain ⟨f, fd, g, b, F⟩ := h
  refine ⟨f, fd, g, F.kp, b, F.ok sc_weighed (fun vs H Q E h => ?_) (fun cdv A outer s H vs Q E hr h => ?_)⟩
  · obtain ⟨a, b, fs, xs, rfl, _⟩ := h
    rfl
  · obtain ⟨a, b, fs, xs, rfl, ha, hb, sf, sx, few, q⟩ := h
    refine ⟨_, (pss_one (ps_ret (pe_callB (sumT rfl) (by rfl) T.sum bb_sum (pa_cons (pe_lc (own := [("factor", 2), ("value", 3)]) (g := (gTupT 2 (gCons (gName 2) (gCons (gName 3) gNil)))) (tt := tYes) rfl sc_weighed.nd (pi_zipTT (by rfl) T.zip (pa_cons (pv 0) (pa_cons (pv 1) pa_nil))) (blkOk_by (N := N_weighed) (sc := defScope s_weighed) (by decide +kernel)) (fun _ _ _ _ _ => (pgT (n := 2) (by rfl) (pgs_cons (pg_name (i := 2) sc_weighed.nd rfl (by first | exact Or.inl rfl | exact Or.inr rfl)) (pgs_cons (pg_name (i := 3) sc_weighed.nd rfl (by first | exact Or.inl rfl | exact Or.inr rfl)) pgs_nil)))) (fun _ _ _ _ _ => pts_nil) (fun _ _ _ _ _ => (pe_op op_mulS (pv 2) (pv 3)))) pa_nil)))), ?_⟩
    refine ⟨_, rfl, _, rfl, a, b, _, _, rfl, ha, hb, fun J wk D hD => ?_⟩
    have ln : (fs.map V.int).length = fs.length := List.length_map _
    have lm : (xs.map V.int).length = xs.length := List.length_map _
    refine lc_vals wk Z0 (fun _ => True) ((List.zipWith (· * ·) fs xs).map V.int) (by simp) hD id True.intro (fun _ _ _ _ => True.intro) (Nat.lt_of_le_of_lt (show min _ _ ≤ 4000 by omega) (by decide)) (fun G f => ⟨f _ _ ha id, f _ _ hb id⟩) ?_ ?_
    · intro i y k G G' Qk ek f _ _ yy z
      obtain ⟨t, x1, x2, rfl, ht, rfl, e1, e2⟩ := yy
      have e1 : (fs.map V.int)[i]? = some x1 := e1
      have e2 : (xs.map V.int)[i]? = some x2 := e2
      rw [List.getElem?_map] at e1 e2 ek
      obtain ⟨i1, e1', rfl⟩ := Option.map_eq_some_iff.mp e1
      obtain ⟨i2, e2', rfl⟩ := Option.map_eq_some_iff.mp e2
      rw [List.getElem?_zipWith, e1', e2'] at ek
      have ek : some (V.int (i1 * i2)) = some k := ek
      cases ek
      refine ⟨t, _, rfl, upd_same, rfl, _, _, rfl, _, _, rfl, rfl, rfl, ?_⟩
      exact ⟨_, rfl, _, rfl, _, _, rfl, rfl, ⟨sf _ (List.mem_of_getElem? e1'), sx _ (List.mem_of_getElem? e2')⟩, z _ (Fm.of (Same.new ht)) True.intro⟩
    · intro G f _ hD2
      exact ⟨D, _, rfl, hD2, q G f.same⟩
end
/-! ### the way of a number through a program, by data -/
structure Rnd where
  m : Str
  x : Int
  d : Int
  row : PyData
inductive Res where
  | rests (x : Int)
  | stops (x : Int)
  | ring (i : Nat)
section
def Rnd.key (r : Rnd) : Str × Int := (r.m, r.x)
/-- the integer is one of these -/
def endIn (d3 : PyData) (x : Int) : Bool := (itemsD d3).any fun d => match d with | .int i => decide (i = x) | _ => false
/-- one round of mode m at x: the quotient, and what is noted -/
structure StepR (b : Int) (d2 : PyData) (m : Str) (x q : Int) (r : Rnd) : Prop where
  em : r.m = m
  ex : r.x = x
  at_ : ∃ md rule, modeOf (itemsD d2) m = some md ∧ itD md 1 = .str rule ∧ rule ∈ five ∧ IsDiv rule x b q r.d ∧ rowFor (itemsD (itD md 2)) (sgnI x) r.d = some r.row
/-- where the state was met first -/
def seenAt (acc : List Rnd) (m : Str) (x : Int) : Option Nat := acc.findIdx? fun r => decide (r.key = (m, x))
inductive Path (b : Int) (d2 d3 : PyData) : Nat → Str → Int → List Rnd → Res → List Rnd → Prop
  | rests {m x acc} : seenAt acc m x = none → endIn d3 x = true → Path b d2 d3 0 m x acc (.rests x) acc
  | stops {m x acc q r} : seenAt acc m x = none → endIn d3 x = false → StepR b d2 m x q r → itD r.row 3 = .none → Path b d2 d3 0 m x acc (.stops q) (acc ++ [r])
  | goes {n m x acc q r m' R acc'} : seenAt acc m x = none → endIn d3 x = false → StepR b d2 m x q r → itD r.row 3 = .str m' → Path b d2 d3 n m' q (acc ++ [r]) R acc' → Path b d2 d3 (n + 1) m x acc R acc'
  | ring {m x acc i} : seenAt acc m x = some i → Path b d2 d3 0 m x acc (.ring i) acc
theorem div_half {r : Str} {x b q d : Int} (h : IsDiv r x b q d) (hb : 2 ≤ b.natAbs) : q.natAbs - 1 ≤ (x.natAbs - 1) / 2 := by
  rcases Nat.eq_zero_or_pos q.natAbs with z | hq
  · omega
  · have e := h.eq
    have l := h.lt
    have m : q.natAbs * b.natAbs = (q * b).natAbs := (Int.natAbs_mul q b).symm
    have k : (q.natAbs - 1) * b.natAbs + b.natAbs = q.natAbs * b.natAbs := by
      rw [← Nat.succ_mul, show (q.natAbs - 1).succ = q.natAbs by omega]
    have k2 : 2 * (q.natAbs - 1) ≤ (q.natAbs - 1) * b.natAbs := by
      rw [Nat.mul_comm]
      exact Nat.mul_le_mul_left _ hb
    generalize (q.natAbs - 1) * b.natAbs = A at k k2
    generalize q.natAbs * b.natAbs = B at k m
    have : x = q * b + d := e
    generalize q * b = C at this m
    omega
/-- what every mode of a program has -/
structure ModesOk (b : Int) (many : Nat) (d2 : PyData) : Prop where
  all : ∀ md ∈ itemsD d2, modeD md = true
  rows : ∀ md ∈ itemsD d2, wrongRow (if b < 0 then -b else b) many ((itemsD d2).map nmOf) (itemsD (itD md 2)) [] 0 = none
theorem PartsOk.modesOk {b : Int} {d1 d2 d3 d4 : PyData} (h : PartsOk (.int b) d1 d2 d3 d4) : ModesOk b (itemsD d1).length d2 :=
  ⟨(partsD_all h.modes).2.2, rowsErr_none h.rows⟩
theorem rowFor_mem {rs : List PyData} {i j : Int} {r : PyData} (h : rowFor rs i j = some r) : r ∈ rs := by
  unfold rowFor at h
  rcases Option.or_eq_some_iff.mp h with h | ⟨_, h⟩
  · exact List.mem_of_find?_eq_some h
  · rcases Option.or_eq_some_iff.mp h with h | ⟨_, h⟩
    · exact List.mem_of_find?_eq_some h
    · rcases Option.or_eq_some_iff.mp h with h | ⟨_, h⟩
      · exact List.mem_of_find?_eq_some h
      · exact List.mem_of_find?_eq_some h
theorem rowFor_ex {rs : List PyData} {i j : Int} (h : ∃ r, rowAt rs [.none, .none] = some r) : ∃ r, rowFor rs i j = some r := by
  obtain ⟨r, e⟩ := h
  unfold rowFor
  rw [e]
  cases rowAt rs [.num i, .num j] with
  | some r => exact ⟨_, rfl⟩
  | none =>
    cases rowAt rs [.none, .num j] with
    | some r => exact ⟨_, rfl⟩
    | none =>
      cases rowAt rs [.num i, .none] with
      | some r => exact ⟨_, rfl⟩
      | none => exact ⟨_, rfl⟩
theorem modeOf_known {ms : List PyData} {m : Str} (h : m ∈ ms.map nmOf) : ∃ md, modeOf ms m = some md := by
  obtain ⟨md, hm, e⟩ := List.mem_map.mp h
  cases c : modeOf ms m with
  | some z => exact ⟨z, rfl⟩
  | none =>
    unfold modeOf at c
    exact absurd (decide_eq_true e) (List.find?_eq_none.mp c md hm)
theorem rule_five {md : PyData} (h : modeD md = true) : ∃ s, itD md 1 = .str s ∧ s ∈ five := by
  have r := modeD_rule h
  cases k : itD md 1 <;> rw [k] at r <;> first | cases r | skip
  rename_i s
  refine ⟨s, rfl, ?_⟩
  have r : inV (.str s) (five.map V.str) = true := r
  obtain ⟨v, hv, e⟩ := List.any_eq_true.mp r
  obtain ⟨z, hz, rfl⟩ := List.mem_map.mp hv
  have : z = s := by
    by_cases c : z = s
    · exact c
    · simp [eqV, c] at e
  rw [← this]
  exact hz
theorem div_ex {r : Str} (hr : r ∈ five) (x : Int) {b : Int} (hb : b ≠ 0) : ∃ q d, IsDiv r x b q d := by
  by_cases c : r = "zero" ∧ x.fdiv b < 0
  · by_cases g : x - x.fdiv b * b ≠ 0 ∧ Goes "up" (x - x.fdiv b * b) b
    · exact ⟨_, _, div_high hr hb rfl (.inr ⟨c.1, c.2, rfl⟩) g.1 g.2⟩
    · refine ⟨_, _, div_low hr hb rfl (.inr ⟨c.1, c.2, rfl⟩) ?_⟩
      by_cases z : x - x.fdiv b * b = 0
      · exact .inl z
      · exact .inr fun h => g ⟨z, h⟩
  · by_cases g : x - x.fdiv b * b ≠ 0 ∧ Goes r (x - x.fdiv b * b) b
    · exact ⟨_, _, div_high hr hb rfl (.inl ⟨rfl, c⟩) g.1 g.2⟩
    · refine ⟨_, _, div_low hr hb rfl (.inl ⟨rfl, c⟩) ?_⟩
      by_cases z : x - x.fdiv b * b = 0
      · exact .inl z
      · exact .inr fun h => g ⟨z, h⟩
theorem step_row {b : Int} {many : Nat} {d2 : PyData} (h : ModesOk b many d2) {m : Str} {x q : Int} {r : Rnd} (st : StepR b d2 m x q r) : rowD r.row (if b < 0 then -b else b) many ((itemsD d2).map nmOf) = true := by
  obtain ⟨md, rule, em, _, _, _, er⟩ := st.at_
  exact (wrongRow_rows (h.rows md (List.mem_of_find?_eq_some em))).1 _ (rowFor_mem er)
theorem then_known {row : PyData} {size : Int} {many : Nat} {ns : List Str} (h : rowD row size many ns = true) : itD row 3 = .none ∨ ∃ m', itD row 3 = .str m' ∧ m' ∈ ns := by
  unfold rowD at h
  simp only [Bool.and_eq_true] at h
  have t := h.2.2.2.2
  cases k : itD row 3 <;> rw [k] at t <;> first | cases t | skip
  · exact .inl rfl
  · rename_i s
    refine .inr ⟨s, rfl, ?_⟩
    have t : inV (.str s) (ns.map V.str) = true := t
    obtain ⟨v, hv, e⟩ := List.any_eq_true.mp t
    obtain ⟨z, hz, rfl⟩ := List.mem_map.mp hv
    have : z = s := by
      by_cases c : z = s
      · exact c
      · simp [eqV, c] at e
    rw [← this]
    exact hz
theorem ints_fact {d : PyData} {n : Int} (h : factD d n = true) : ∃ fs : List Int, d = .tuple (fs.map PyData.int) ∧ (fs.length : Int) = n ∧ ∀ i ∈ fs, -1000000 ≤ i ∧ i ≤ 1000000 := by
  unfold factD at h
  simp only [Bool.and_eq_true] at h
  obtain ⟨t, l, a⟩ := h
  have e := isTup_eq t
  have key : ∀ ds : List PyData, (ds.all fun x => betw x (-1000000) 1000000) = true → ∃ fs : List Int, ds = fs.map PyData.int ∧ ∀ i ∈ fs, -1000000 ≤ i ∧ i ≤ 1000000 := by
    intro ds
    induction ds with
    | nil => exact fun _ => ⟨[], rfl, fun i hi => by cases hi⟩
    | cons x xs ih =>
      intro z
      rw [List.all_cons, Bool.and_eq_true] at z
      obtain ⟨fs, e1, b1⟩ := ih z.2
      have z1 := z.1
      cases x <;> first | cases z1 | skip
      rename_i i
      have z1 : (decide (-1000000 ≤ i) && decide (i ≤ 1000000)) = true := z1
      simp only [Bool.and_eq_true, decide_eq_true_eq] at z1
      refine ⟨i :: fs, by rw [e1]; rfl, fun j hj => ?_⟩
      rcases List.mem_cons.mp hj with rfl | hj
      · exact z1
      · exact b1 j hj
  obtain ⟨fs, e1, b1⟩ := key _ a
  rw [e1] at e l
  exact ⟨fs, e, by rw [← of_decide_eq_true l, List.length_map], b1⟩
/-- updates of a fair form -/
def UpsOk (many : Nat) (uss : List (List Int)) : Prop := uss.length = many ∧ ∀ fs ∈ uss, fs.length = many + 2 ∧ ∀ i ∈ fs, -1000000 ≤ i ∧ i ≤ (1000000 : Int)
theorem upds_row {row : PyData} {size : Int} {many : Nat} {ns : List Str} (h : rowD row size many ns = true) : ∃ uss, itD row 2 = updsD uss ∧ UpsOk many uss := by
  unfold rowD at h
  simp only [Bool.and_eq_true] at h
  have u := h.2.2.2.1
  unfold upsD at u
  simp only [Bool.and_eq_true] at u
  obtain ⟨t, l, a⟩ := u
  have e := isTup_eq t
  have key : ∀ ds : List PyData, (ds.all fun x => factD x (many + 2)) = true → ∃ uss : List (List Int), ds = uss.map (fun fs => PyData.tuple (fs.map PyData.int)) ∧ ∀ fs ∈ uss, fs.length = many + 2 ∧ ∀ i ∈ fs, -1000000 ≤ i ∧ i ≤ (1000000 : Int) := by
    intro ds
    induction ds with
    | nil => exact fun _ => ⟨[], rfl, fun i hi => by cases hi⟩
    | cons x xs ih =>
      intro z
      rw [List.all_cons, Bool.and_eq_true] at z
      obtain ⟨uss, e1, b1⟩ := ih z.2
      obtain ⟨fs, ef, lf, bf⟩ := ints_fact z.1
      refine ⟨fs :: uss, by rw [ef, e1]; rfl, fun gs hg => ?_⟩
      rcases List.mem_cons.mp hg with rfl | hg
      · exact ⟨by omega, bf⟩
      · exact b1 gs hg
  obtain ⟨uss, e1, b1⟩ := key _ a
  rw [e1] at e l
  exact ⟨uss, e, by rw [← of_decide_eq_true l, List.length_map], b1⟩
/-- a known mode has a round at any integer; then it stops, or goes on in a known mode -/
theorem step_ex {b : Int} {many : Nat} {d2 : PyData} (h : ModesOk b many d2) (hb : b ≠ 0) {m : Str} (hm : m ∈ (itemsD d2).map nmOf) (x : Int) :
    ∃ q r, StepR b d2 m x q r ∧ (itD r.row 3 = .none ∨ ∃ m', itD r.row 3 = .str m' ∧ m' ∈ (itemsD d2).map nmOf) := by
  obtain ⟨md, em⟩ := modeOf_known hm
  have mm : md ∈ itemsD d2 := List.mem_of_find?_eq_some em
  obtain ⟨rule, er, h5⟩ := rule_five (h.all md mm)
  obtain ⟨q, d, dv⟩ := div_ex h5 x hb
  have rr := h.rows md mm
  obtain ⟨row, erow⟩ := rowFor_ex (i := sgnI x) (j := d) (row_last rr)
  have rd := (wrongRow_rows rr).1 row (rowFor_mem erow)
  refine ⟨q, ⟨m, x, d, row⟩, ⟨rfl, rfl, md, rule, em, er, h5, dv, erow⟩, ?_⟩
  unfold rowD at rd
  simp only [Bool.and_eq_true] at rd
  have t := rd.2.2.2.2
  show itD row 3 = .none ∨ _
  cases k : itD row 3 <;> rw [k] at t <;> first | cases t | skip
  · exact .inl rfl
  · rename_i s
    refine .inr ⟨s, rfl, ?_⟩
    have t : inV (.str s) (((itemsD d2).map nmOf).map V.str) = true := t
    obtain ⟨v, hv, e⟩ := List.any_eq_true.mp t
    obtain ⟨z, hz, rfl⟩ := List.mem_map.mp hv
    have : z = s := by
      by_cases c : z = s
      · exact c
      · simp [eqV, c] at e
    rw [← this]
    exact hz
theorem seen_none {acc : List Rnd} {m : Str} {x : Int} (h : (m, x) ∉ acc.map Rnd.key) : seenAt acc m x = none :=
  List.findIdx?_eq_none_iff.mpr fun r hr => decide_eq_false fun e => h (List.mem_map.mpr ⟨r, hr, e⟩)
theorem key_at {acc : List Rnd} {m : Str} {x : Int} (h : (m, x) ∈ acc.map Rnd.key) : ∃ i : Nat, seenAt acc m x = some i := by
  obtain ⟨r, hr, e⟩ := List.mem_map.mp h
  cases c : seenAt acc m x with
  | some i => exact ⟨i, rfl⟩
  | none =>
    have := List.findIdx?_eq_none_iff.mp c r hr
    rw [decide_eq_true e] at this
    cases this
theorem path_small {b : Int} {many : Nat} {d2 d3 : PyData} (h : ModesOk b many d2) (hb : 2 ≤ b.natAbs) : ∀ (c : Nat) (rem : List (Str × Int)) (m : Str) (x : Int) (acc : List Rnd), rem.length = c → m ∈ (itemsD d2).map nmOf → x.natAbs ≤ 1 →
    (∀ m x, m ∈ (itemsD d2).map nmOf → x.natAbs ≤ 1 → (m, x) ∈ acc.map Rnd.key ∨ (m, x) ∈ rem) → ∃ n R acc', Path b d2 d3 n m x acc R acc' ∧ acc'.length ≤ acc.length + c + 1
  | 0, rem, m, x, acc, l, hm, hx, cov => by
    rcases cov m x hm hx with z | z
    · obtain ⟨i, e⟩ := key_at z
      exact ⟨0, _, acc, .ring e, by omega⟩
    · rw [List.eq_nil_of_length_eq_zero l] at z
      cases z
  | c + 1, rem, m, x, acc, l, hm, hx, cov => by
    by_cases z : (m, x) ∈ acc.map Rnd.key
    · obtain ⟨i, e⟩ := key_at z
      exact ⟨0, _, acc, .ring e, by omega⟩
    · cases en : endIn d3 x with
      | true => exact ⟨0, _, acc, .rests (seen_none z) en, by omega⟩
      | false =>
        obtain ⟨q, r, st, t | ⟨m', t, hm'⟩⟩ := step_ex h (by omega) hm x
        · exact ⟨0, _, _, .stops (seen_none z) en st t, by rw [List.length_append, List.length_singleton]; omega⟩
        · have mr : (m, x) ∈ rem := (cov m x hm hx).resolve_left z
          obtain ⟨_, _, _, _, _, dv, _⟩ := st.at_
          have hq := div_half dv hb
          obtain ⟨n, R, acc', p, la⟩ := path_small h hb c (rem.erase (m, x)) m' q (acc ++ [r]) (by rw [List.length_erase_of_mem mr, l]; rfl) hm' (by omega) fun m2 x2 h2 g2 => by
            rw [List.map_append]
            by_cases e : (m2, x2) = (m, x)
            · refine .inl (List.mem_append_right _ ?_)
              rw [e]
              show (m, x) ∈ [(r.m, r.x)]
              rw [st.em, st.ex]
              exact List.mem_singleton.mpr rfl
            · rcases cov m2 x2 h2 g2 with w | w
              · exact .inl (List.mem_append_left _ w)
              · exact .inr ((List.mem_erase_of_ne e).mpr w)
          rw [List.length_append, List.length_singleton] at la
          exact ⟨n + 1, R, acc', .goes (seen_none z) en st t p, by omega⟩
def smalls (ns : List Str) : List (Str × Int) := ns.flatMap fun m => [(m, -1), (m, 0), (m, 1)]
theorem smalls_len : ∀ ns : List Str, (smalls ns).length = 3 * ns.length
  | [] => rfl
  | n :: ns => by
    have := smalls_len ns
    unfold smalls at this ⊢
    rw [List.flatMap_cons, List.length_append, this]
    show 3 + 3 * ns.length = 3 * (ns.length + 1)
    omega
theorem smalls_mem {ns : List Str} {m : Str} {x : Int} (h : m ∈ ns) (hx : x.natAbs ≤ 1) : (m, x) ∈ smalls ns := by
  refine List.mem_flatMap.mpr ⟨m, h, ?_⟩
  have : x = -1 ∨ x = 0 ∨ x = 1 := by omega
  rcases this with rfl | rfl | rfl <;> simp
/-- every number has its way; it has at most k rounds and three for each mode, and one -/
theorem path_ex {b : Int} {many : Nat} {d2 d3 : PyData} (h : ModesOk b many d2) (hb : 2 ≤ b.natAbs) : ∀ (k : Nat) (m : Str) (x : Int) (acc : List Rnd), m ∈ (itemsD d2).map nmOf → x.natAbs - 1 < 2 ^ k →
    ∃ n R acc', Path b d2 d3 n m x acc R acc' ∧ acc'.length ≤ acc.length + k + 3 * (itemsD d2).length + 1
  | 0, m, x, acc, hm, hx => by
    obtain ⟨n, R, acc', p, l⟩ := path_small h hb (d3 := d3) _ (smalls ((itemsD d2).map nmOf)) m x acc rfl hm (by omega) fun m2 x2 h2 g2 => .inr (smalls_mem h2 g2)
    rw [smalls_len, List.length_map] at l
    exact ⟨n, R, acc', p, by omega⟩
  | k + 1, m, x, acc, hm, hx => by
    by_cases z : (m, x) ∈ acc.map Rnd.key
    · obtain ⟨i, e⟩ := key_at z
      exact ⟨0, _, acc, .ring e, by omega⟩
    · cases en : endIn d3 x with
      | true => exact ⟨0, _, acc, .rests (seen_none z) en, by omega⟩
      | false =>
        obtain ⟨q, r, st, t | ⟨m', t, hm'⟩⟩ := step_ex h (by omega) hm x
        · exact ⟨0, _, _, .stops (seen_none z) en st t, by rw [List.length_append, List.length_singleton]; omega⟩
        · obtain ⟨_, _, _, _, _, dv, _⟩ := st.at_
          have hq := div_half dv hb
          obtain ⟨n, R, acc', p, l⟩ := path_ex h hb k m' q (acc ++ [r]) hm' (by
            have : 2 ^ (k + 1) = 2 * 2 ^ k := by rw [Nat.pow_succ, Nat.mul_comm]
            omega)
          rw [List.length_append, List.length_singleton] at l
          exact ⟨n + 1, R, acc', .goes (seen_none z) en st t p, by omega⟩
end
section
/-- own __getitem__ -/
def OwnIx (P : Program) (w : World) (K : PySem.W.Frag) (mg : Str → Option Value) (base : Heap) (C : Addr) (k : Nat) (ps : List Str) (sp : Sp) : Prop := ∃ f fd, PySem.W.findIn K (.ref C) "__getitem__" = some (some (.ref f)) ∧ PySem.W.fnIn K f = true ∧ PySem.W.isFn K (.ref f) = true ∧ Binds K fd ps [] ∧ FnOk P w K mg base (L2.CX P w) k f fd ps sp
theorem pe_ixO {X : Cx} {C : Addr} {k : Nat} {ps : List Str} {sp : Sp} {E : XK} {a b : Expr} {ta tb : TE} {pos : Pos} (ha : PE X a ta) (hb : PE X b tb) (m : OwnIx X.prog X.w X.K X.mg X.base C k ps sp) (hr : Room (k + 1) X.A) (hx : Passes (L2.CX X.prog X.w) X E)
    (hsl : ∀ v u : Value, subscripted b true v u = runValue (.builtin "lifetime.subscript" ⟨[v, u], []⟩) := by intro _ _; with_unfolding_all rfl) : PE X (.Subscript a b pos) (tOp (rIxOwn C sp E) ta tb) := by
  obtain ⟨f, fd, h1, h2, h3, h4, F⟩ := m
  exact pe_ixOwn ha hb F hr h4 hx h1 h2 h3 hsl
theorem un1 {n c : Nat} (h : n + 64 < c) : n + 1 < c := by omega
end
/-! ### path_of -/
section
def roundD (r : Rnd) : PyData := .tuple [.str r.m, .int r.x, .int r.d]
def updD (r : Rnd) : PyData := itD r.row 2
def seenT : List Rnd → Nat → List (List L2.Key × V)
  | [], _ => []
  | r :: rs, i => ([Sum.inr r.m, Sum.inl r.x], .int i) :: seenT rs (i + 1)
theorem seenT_len : ∀ (acc : List Rnd) (i : Nat), (seenT acc i).length = acc.length
  | [], _ => rfl
  | _ :: rs, i => by rw [seenT, List.length_cons, seenT_len rs, List.length_cons]
theorem seenT_app {r : Rnd} : ∀ (acc : List Rnd) (i : Nat), seenT (acc ++ [r]) i = seenT acc i ++ [([Sum.inr r.m, Sum.inl r.x], .int ((i + acc.length : Nat) : Int))]
  | [], i => rfl
  | a :: acc, i => by
    rw [List.cons_append, seenT, seenT_app acc (i + 1), seenT, List.cons_append, List.length_cons, show i + 1 + acc.length = i + (acc.length + 1) by omega]
theorem seenT_val {m : Str} {x : Int} : ∀ (acc : List Rnd) (i : Nat), valV (seenT acc i) [(Sum.inr m : L2.Key), Sum.inl x] = (seenAt acc m x).map fun j => V.int ((i + j : Nat) : Int)
  | [], _ => rfl
  | r :: acc, i => by
    have ih := seenT_val (m := m) (x := x) acc (i + 1)
    unfold seenAt at ih ⊢
    rw [seenT, List.findIdx?_cons]
    by_cases c : r.key = (m, x)
    · have c1 : r.m = m := congrArg Prod.fst c
      have c2 : r.x = x := congrArg Prod.snd c
      rw [decide_eq_true c, valV_pos (by rw [c1, c2])]
      rfl
    · rw [decide_eq_false c, valV_neg (fun z => c (by
        injection z with z1 z2
        injection z2 with z2 _
        injection z1 with z1
        injection z2 with z2
        unfold Rnd.key
        rw [z1, z2])), ih]
      cases List.findIdx? (fun r => decide (r.key = (m, x))) acc with
      | none => rfl
      | some j =>
        show some (V.int ((i + 1 + j : Nat) : Int)) = some (V.int ((i + (j + 1) : Nat) : Int))
        rw [show i + 1 + j = i + (j + 1) by omega]
theorem seenT_put {m : Str} {x : Int} {acc : List Rnd} {r : Rnd} (h : seenAt acc m x = none) (em : r.m = m) (ex : r.x = x) : putK (seenT acc 0) [(Sum.inr m : L2.Key), Sum.inl x] (.int (acc.length : Int)) = seenT (acc ++ [r]) 0 := by
  unfold putK
  rw [valV_any, seenT_val, h, seenT_app, em, ex, Nat.zero_add]
  rfl
def howR : Res → Str
  | .rests _ => "rests"
  | .stops _ => "stops"
  | .ring _ => "endless"
def lastR : Res → PyData
  | .rests x => .int x
  | .stops q => .int q
  | .ring _ => .none
def ringR (R : Res) (n : Nat) : PyData := match R with
  | .ring i => .tuple [.int i, .int ((n : Int) - i)]
  | _ => .none
def pathD (R : Res) (acc : List Rnd) : PyData := .tuple [.str (howR R), lastR R, .list (acc.map roundD), .list (acc.map updD), ringR R acc.length]
theorem Path.inv {b : Int} {d2 d3 : PyData} {n : Nat} {m : Str} {x : Int} {acc : List Rnd} {R : Res} {acc' : List Rnd} (h : Path b d2 d3 n m x acc R acc') :
    (∃ i, seenAt acc m x = some i ∧ R = .ring i ∧ acc' = acc) ∨ (seenAt acc m x = none ∧ ((endIn d3 x = true ∧ R = .rests x ∧ acc' = acc) ∨ (endIn d3 x = false ∧ ∃ q r, StepR b d2 m x q r ∧
      ((itD r.row 3 = .none ∧ R = .stops q ∧ acc' = acc ++ [r]) ∨ ∃ m' n', itD r.row 3 = .str m' ∧ n' < n ∧ Path b d2 d3 n' m' q (acc ++ [r]) R acc')))) := by
  cases h with
  | ring h => exact .inl ⟨_, h, rfl, rfl⟩
  | rests h e => exact .inr ⟨h, .inl ⟨e, rfl, rfl⟩⟩
  | stops h e st t => exact .inr ⟨h, .inr ⟨e, _, _, st, .inl ⟨t, rfl, rfl⟩⟩⟩
  | goes h e st t p => exact .inr ⟨h, .inr ⟨e, _, _, st, .inr ⟨_, _, t, Nat.lt_succ_self _, p⟩⟩⟩
def Z3 (rr cc ss : Addr) : Addr → Prop := Zu (Zu (Zu Z0 rr) cc) ss
/-- what holds at each turn of path_of -/
def PathW (H : Hp) (b : Int) (d2 d3 : PyData) (R : Res) (accF : List Rnd) (p rr cc ss : Addr) (n : Nat) (σ : L2.St) (H' : Hp) : Prop := ∃ m x acc xs ys v6 v7 v8 v9 v10, σ = [some (.ref p), some (.str m), some (.int x), some (.ref rr), some (.ref cc), some (.ref ss), v6, v7, v8, v9, v10] ∧
  Path b d2 d3 n m x acc R accF ∧ Md x ∧ m ∈ (itemsD d2).map nmOf ∧ Same H H' ∧ H' rr = some (.lst xs) ∧ DtAll (Z3 rr cc ss) H' xs (acc.map roundD) ∧ H' cc = some (.lst ys) ∧ DtAll (Z3 rr cc ss) H' ys (acc.map updD) ∧ H' ss = some (.dT (seenT acc 0))
theorem Path.le {b : Int} {d2 d3 : PyData} {n : Nat} {m : Str} {x : Int} {acc : List Rnd} {R : Res} {acc' : List Rnd} (h : Path b d2 d3 n m x acc R acc') : acc.length ≤ acc'.length := by
  induction h with
  | rests => exact Nat.le_refl _
  | stops => rw [List.length_append]; omega
  | goes _ _ _ _ _ ih => rw [List.length_append] at ih; omega
  | ring => exact Nat.le_refl _
theorem md_half {r : Str} {x b q d : Int} (h : IsDiv r x b q d) (hb : 2 ≤ b.natAbs) (m : Md x) : Md q := by
  have z := div_half h hb
  obtain ⟨m1, m2⟩ := m
  have one : (1 : Int) < 2 ^ 200 := by decide
  unfold Md
  generalize (2 : Int) ^ 200 = N at m1 m2 one ⊢
  omega
mutual
theorem Dt.offT {Z Z' : Addr → Prop} {H : Hp} (n : ∀ q xs, H q = some (.tup xs) → ¬ Z' q) {v : V} {d : PyData} (l : noL d = true) (h : Dt Z H v d) : Dt Z' H v d :=
  match h with
  | .non => .non
  | .bl b => .bl b
  | .int i => .int i
  | .str x => .str x
  | .lst e m t => by simp [noL] at l
  | .tup e m t => .tup e (n _ _ e) (DtAll.offT n (by simpa [noL] using l) t)
theorem DtAll.offT {Z Z' : Addr → Prop} {H : Hp} (n : ∀ q xs, H q = some (.tup xs) → ¬ Z' q) {vs : List V} {ds : List PyData} (l : noLs ds = true) (h : DtAll Z H vs ds) : DtAll Z' H vs ds :=
  match h with
  | .nil => .nil
  | .cons a b => by
    have l' := l
    unfold noLs at l'
    obtain ⟨l1, l2⟩ := Bool.and_eq_true_iff.mp l'
    exact .cons (Dt.offT n l1 a) (DtAll.offT n l2 b)
end
theorem noL_upds (uss : List (List Int)) : noL (updsD uss) = true := by
  unfold updsD
  have h : noLs (uss.map fun fs => PyData.tuple (fs.map PyData.int)) = true := noLs_all fun d hd => by
    obtain ⟨fs, _, rfl⟩ := List.mem_map.mp hd
    have g : noLs (fs.map PyData.int) = true := noLs_all fun d hd => by
      obtain ⟨i, _, rfl⟩ := List.mem_map.mp hd
      simp [noL]
    simpa [noL] using g
  simpa [noL] using h
theorem sgn_betw (x : Int) : betw (.int (sgnI x)) (-1) 1 = true := by
  unfold sgnI
  split
  · rfl
  · split <;> rfl
theorem rem_of {r : Str} {x b q d : Int} (h : IsDiv r x b q d) : remD (.int d) (if b < 0 then -b else b) = true := by
  have l := h.lt
  show (decide (1 - (if b < 0 then -b else b) ≤ d) && decide (d ≤ (if b < 0 then -b else b) - 1)) = true
  simp only [Bool.and_eq_true, decide_eq_true_eq]
  split <;> omega
theorem md_small {b : Int} (h : b.natAbs ≤ 10) : Md b := by
  have k : (10 : Int) < 2 ^ 200 := by decide
  unfold Md
  generalize (2 : Int) ^ 200 = N at k ⊢
  omega
theorem baseD_abs {b : Int} (h : baseD (.int b) = true) : 2 ≤ b.natAbs ∧ b.natAbs ≤ 10 := by
  have h : (betw (.int b) (-10) 10 && decide (2 ≤ b.natAbs)) = true := h
  have h : ((decide (-10 ≤ b) && decide (b ≤ 10)) && decide (2 ≤ b.natAbs)) = true := h
  simp only [Bool.and_eq_true, decide_eq_true_eq] at h
  omega
theorem ends_ints {d3 : PyData} {size : Int} (h : endsD d3 size = true) : ∃ es : List Int, itemsD d3 = es.map PyData.int ∧ isSeq d3 = true := by
  unfold endsD at h
  simp only [Bool.and_eq_true] at h
  obtain ⟨s, a, _⟩ := h
  have key : ∀ ds : List PyData, (ds.all fun x => remD x size) = true → ∃ es : List Int, ds = es.map PyData.int := by
    intro ds
    induction ds with
    | nil => exact fun _ => ⟨[], rfl⟩
    | cons x xs ih =>
      intro z
      rw [List.all_cons, Bool.and_eq_true] at z
      obtain ⟨es, e1⟩ := ih z.2
      have z1 := z.1
      cases x <;> first | cases z1 | skip
      rename_i i
      exact ⟨i :: es, by rw [e1]; rfl⟩
  obtain ⟨es, e⟩ := key _ a
  exact ⟨es, e, s⟩
theorem endIn_ints {d3 : PyData} {es : List Int} (e : itemsD d3 = es.map PyData.int) (x : Int) : inV (.int x) (es.map V.int) = endIn d3 x := by
  unfold endIn inV
  rw [e, List.any_map, List.any_map]
  congr 1
end
section
variable {P : Program} {w : World} {K : PySem.W.Frag} {mg : Str → Option Value} {base : Heap} {aR CP CU CS CN : Addr}
abbrev s_path_of : Stmt := top 46
abbrev N_path_of : List Str := ["program", "mode", "x", "rounds", "changes", "seen", "quotient", "remainder", "updates", "then", "index"]
theorem sc_path_of : FnScope N_path_of ["program", "mode", "x"] (defScope s_path_of) := ⟨rfl, rfl, rfl, by decide +kernel, rfl, by decide +kernel, by decide +kernel⟩
def spPath (P : Program) (w : World) (CP : Addr) : Sp := fun vs H Q _ => ∃ p m x b d1 d2 d3 d4 n R acc, vs = [.ref p, .str m, .int x] ∧ ProgOk P w CP H p b d1 d2 d3 d4 ∧ Md x ∧ m ∈ (itemsD d2).map nmOf ∧ Path b d2 d3 n m x [] R acc ∧ acc.length ≤ 1000 ∧
  ∀ u H', Same H H' → Dt Z0 H' u (pathD R acc) → Q u H'
theorem ok_path_of (h : Has K mg "path_of" s_path_of ["program", "mode", "x"]) (T : Txt K mg aR) (C : PCls K mg CP) (pBase : OwnP P w K mg base CP 1 "base" (spPBase P w CP)) (pEnds : OwnP P w K mg base CP 1 "ends" (spPEnds P w CP))
    (mRule : OwnMeth P w K mg base CP 4 "rule_of" ["self", "mode"] (spPRuleOf P w CP CU)) (mIx : OwnIx P w K mg base CP 4 ["self", "at"] (spPGet P w CP CU CS CN)) (O_divide : Ok P w K mg base 2 "divide" ["rule", "x", "base"] spDivide) (O_sign_of : Ok P w K mg base 1 "sign_of" ["x"] spSign) :
    Ok P w K mg base 6 "path_of" ["program", "mode", "x"] (spPath P w CP) := by
  obtain ⟨f, fd, g, b, F⟩ := h
  refine ⟨f, fd, g, F.kp, b, F.ok sc_path_of (fun vs H Q E h => ?_) (fun cdv A outer s H vs Q E hr h => ?_)⟩
  · obtain ⟨p, m, x, b, d1, d2, d3, d4, n, R, acc, rfl, _⟩ := h
    rfl
  · obtain ⟨p, m, x, b, d1, d2, d3, d4, n, R, accF, rfl, PK, mx, km, pa, few, q⟩ := h
    obtain ⟨⟨dx, vr, vm, ve, va, vt, e, a1, a2, a3, a4, a5⟩, PO, z1, z2⟩ := id PK
    have hb := baseD_abs PO.base
    have MO := PO.modesOk
    obtain ⟨es, ees, sq3⟩ := ends_ints PO.ends
    refine ⟨_, (pss_cons (ps_set (i := 3) sc_path_of.nd rfl (.inl rfl) (pe_lst pa_nil))
      (pss_cons (ps_set (i := 4) sc_path_of.nd rfl (.inl rfl) (pe_lst pa_nil))
      (pss_cons (ps_set (i := 5) sc_path_of.nd rfl (.inl rfl) pe_dnewT)
      (pss_cons (ps_while PassesOwn.never (pt_cmp (pc_dnotin (un1 hr.units) (pe_tup (pa_cons (pv 1) (pa_cons (pv 2) pa_nil))) (pv 5)))
        (pss_cons (ps_if (pt_cmpR inT (pv 2) (pe_propO (pv 0) C.cl pEnds (hr.mono (by decide)) passL) (by rfl))
          (pss_one (ps_ret (pe_tup (pa_cons pe_str (pa_cons (pv 2) (pa_cons (pv 3) (pa_cons (pv 4) (pa_cons pe_non pa_nil))))))))
          pss_nil)
        (pss_cons (ps_dput (un1 hr.units) (pv 5) (pe_tup (pa_cons (pv 1) (pa_cons (pv 2) pa_nil))) (pe_callB lenT (by rfl) T.len bb_len (pa_cons (pv 3) pa_nil)) rfl)
        (pss_cons (ps_asg (pe_cO O_divide (hr.mono (by decide)) pass0 rfl (pa_cons (pe_methO (pv 0) C.cl mRule (hr.mono (by decide)) passL (pa_cons (pv 1) pa_nil)) (pa_cons (pv 2) (pa_cons (pe_propO (pv 0) C.cl pBase (hr.mono (by decide)) passL) pa_nil)))) (pgT (n := 2) (by rfl) (pgs_cons (pg_name (i := 6) sc_path_of.nd rfl (.inl rfl)) (pgs_cons (pg_name (i := 7) sc_path_of.nd rfl (.inl rfl)) pgs_nil))))
        (pss_cons (ps_asg (pe_ixO (pv 0) (pe_tup (pa_cons (pv 1) (pa_cons (pe_cO O_sign_of (hr.mono (by decide)) pass0 rfl (pa_cons (pv 2) pa_nil)) (pa_cons (pv 7) pa_nil)))) mIx (hr.mono (by decide)) passL) (pgT (n := 2) (by rfl) (pgs_cons (pg_name (i := 8) sc_path_of.nd rfl (.inl rfl)) (pgs_cons (pg_name (i := 9) sc_path_of.nd rfl (.inl rfl)) pgs_nil))))
        (pss_cons (ps_expr (pe_bm PySem.F.plainAttrs_list PySem.F.slot_list_append PySem.F.type_list_append mt_append (pv 3) (pa_cons (pe_tup (pa_cons (pv 1) (pa_cons (pv 2) (pa_cons (pv 7) pa_nil)))) pa_nil)))
        (pss_cons (ps_expr (pe_bm PySem.F.plainAttrs_list PySem.F.slot_list_append PySem.F.type_list_append mt_append (pv 4) (pa_cons (pv 8) pa_nil)))
        (pss_cons (ps_if (pt_cmpR op_isN (pv 9) pe_non (nomark _))
          (pss_one (ps_ret (pe_tup (pa_cons pe_str (pa_cons (pv 6) (pa_cons (pv 3) (pa_cons (pv 4) (pa_cons pe_non pa_nil))))))))
          pss_nil)
        (pss_cons (ps_set (i := 1) sc_path_of.nd rfl (.inl rfl) (pv 9))
        (pss_one (ps_set (i := 2) sc_path_of.nd rfl (.inl rfl) (pv 6))))))))))))
      (pss_cons (ps_set (i := 10) sc_path_of.nd rfl (.inl rfl) (pe_dget (un1 hr.units) (pv 5) (pe_tup (pa_cons (pv 1) (pa_cons (pv 2) pa_nil))) (fun _ _ => rfl)))
      (pss_one (ps_ret (pe_tup (pa_cons pe_str (pa_cons pe_non (pa_cons (pv 3) (pa_cons (pv 4) (pa_cons (pe_tup (pa_cons (pv 10) (pa_cons (pe_op op_sub (pe_callB lenT (by rfl) T.len bb_len (pa_cons (pv 3) pa_nil)) (pv 10)) pa_nil))) pa_nil))))))))))))), ?_⟩
    refine ⟨by show 0 ≤ sizeLine; decide, fun rr n1 => ?_⟩
    refine ⟨by show 0 ≤ sizeLine; decide, fun cc n2 => ?_⟩
    refine fun ss n3 => ?_
    have hrr : H rr = none := n1
    have hcc : H cc = none := (Same.new n1).free n2
    have hss : H ss = none := ((Same.new n1).trans (Same.new n2)).free n3
    refine ⟨PathW H b d2 d3 R accF p rr cc ss, ⟨n, ?_⟩, ?_⟩
    · exact ⟨m, x, [], [], [], none, none, none, none, none, rfl, pa, mx, km, (Same.new n1).trans ((Same.new n2).trans (Same.new n3)), (Same.new n3) _ _ ((Same.new n2) _ _ upd_same), .nil, (Same.new n3) _ _ upd_same, .nil, upd_same⟩
    · have nr : rr ≠ cc := ne_of_none upd_same n2
      have nrs : rr ≠ ss := ne_of_none ((Same.new n2) _ _ upd_same) n3
      have ncs : cc ≠ ss := ne_of_none upd_same n3
      clear n1 n2 n3 pa mx km
      rintro n σ H1 ⟨m, x, acc, xs, ys, v6, v7, v8, v9, v10, rfl, pa, mx, km, s1, er, dxs, ec, dys, eS⟩
      refine ⟨_, rfl, _, rfl, by show 2 ≤ sizeLine; decide, fun t nt => ?_⟩
      have s2 : Same H1 (upd H1 t (.tup [.str m, .int x])) := Same.new nt
      have et : (upd H1 t (.tup [.str m, .int x])) t = some (.tup [.str m, .int x]) := upd_same
      generalize upd H1 t (.tup [.str m, .int x]) = H2 at s2 et ⊢
      have eS2 := s2 _ _ eS
      refine ⟨_, rfl, ss, _, rfl, DGet.t (k := [Sum.inr m, Sum.inl x]) eS2 et, ?_⟩
      rw [seenT_val]
      have s02 := s1.trans s2
      have zl : ∀ {H' : Hp} {t : Addr} {ys : List V}, (∃ a, H' rr = some (.lst a)) → (∃ a, H' cc = some (.lst a)) → (∃ a, H' ss = some (.dT a)) → H' t = some (.tup ys) → ¬ Z3 rr cc ss t := fun {H'} {t} {ys} k1 k2 k3 e m => by
        obtain ⟨_, k1⟩ := k1
        obtain ⟨_, k2⟩ := k2
        obtain ⟨_, k3⟩ := k3
        rcases m with ((m | m) | m) | m
        · exact m
        · rw [m, k1] at e; cases e
        · rw [m, k2] at e; cases e
        · rw [m, k3] at e; cases e
      have finA : ∀ {H' : Hp} {vs : List V} {ds : List PyData}, DtAll (Z3 rr cc ss) H' vs ds → DtAll Z0 H' vs ds := fun h => h.mono' fun _ m => m.elim
      have lxs : xs.length = acc.length := by rw [dxs.len, List.length_map]
      have la : acc.length ≤ 1000 := Nat.le_trans pa.le few
      rcases pa.inv with ⟨i, hs, rfl, rfl⟩ | ⟨hn, hR⟩
      · rw [hs]
        refine ⟨_, rfl, iteF ?_⟩
        refine ⟨_, rfl, _, rfl, _, rfl, by show 2 ≤ sizeLine; decide, fun t2 nt2 => ?_⟩
        have s3 : Same H2 (upd H2 t2 (.tup [.str m, .int x])) := Same.new nt2
        have et2 : (upd H2 t2 (.tup [.str m, .int x])) t2 = some (.tup [.str m, .int x]) := upd_same
        generalize upd H2 t2 (.tup [.str m, .int x]) = H3 at s3 et2 ⊢
        refine ⟨ss, .int ((0 + i : Nat) : Int), rfl, ?_, ?_⟩
        · have := DGet.t (k := [Sum.inr m, Sum.inl x]) (s3 _ _ eS2) et2
          rw [seenT_val, hs] at this
          exact this
        · rw [Nat.zero_add]
          refine ⟨_, rfl, _, rfl, _, rfl, _, rfl, rr, xs, rfl, .inl (s3 _ _ (s2 _ _ er)), _, rfl, _, _, rfl, rfl, by show 2 ≤ sizeLine; decide, fun t4 nt4 => ?_⟩
          refine ⟨by show 5 ≤ sizeLine; decide, fun u nu => ?_⟩
          rw [lxs]
          rw [lxs] at nu
          have s4 := Same.new (o := .tup [.int (i : Int), .int ((accF.length : Int) - i)]) nt4
          have s5 := s4.trans (Same.new (o := .tup [.str "endless", .non, .ref rr, .ref cc, .ref t4]) nu)
          have s6 := (s2.trans s3).trans s5
          exact q (.ref u) _ (s1.trans s6) (.tup upd_same id (.cons (.str _) (.cons .non (.cons (.lst (s6 _ _ er) id (finA (dxs.fr (Fm.of s6)))) (.cons (.lst (s6 _ _ ec) id (finA (dys.fr (Fm.of s6)))) (.cons (.tup ((Same.new nu) _ _ upd_same) id (.cons (.int _) (.cons (.int _) .nil))) .nil))))))
      · rw [hn]
        refine ⟨_, rfl, iteP rfl (hideN (Wm := fun σ' H' => ∃ m', m' < n ∧ PathW H b d2 d3 R accF p rr cc ss m' σ' H') fun D' hnx hrt => ?_)⟩
        refine ⟨_, rfl, _, rfl, p, dx, _, rfl, s02 _ _ e, p, b, d1, d2, d3, d4, rfl, PK.1.same s02, fun ve2 hve => ?_⟩
        obtain ⟨a, xe, rfl, dxe, ha, _, _⟩ := hve.tupOf rfl
        have dxe : DtAll Z0 H2 xe (itemsD d3) := dxe
        rw [ees] at dxe
        obtain rfl := dxe.ints_eq
        refine ⟨a, _, rfl, .inr ha, rfl, by simp [List.all_map, flatV], _, rfl, ?_⟩
        rw [endIn_ints ees]
        rcases hR with ⟨he, rfl, rfl⟩ | ⟨he, q0, r, st, hR⟩
        · rw [he]
          refine iteT ?_
          refine ⟨_, rfl, _, rfl, _, rfl, by show 5 ≤ sizeLine; decide, fun u nu => ?_⟩
          have s6 := s2.trans (Same.new (o := .tup [.str "rests", .int x, .ref rr, .ref cc, .non]) nu)
          exact hrt _ _ (q (.ref u) _ (s1.trans s6) (.tup upd_same id (.cons (.str _) (.cons (.int _) (.cons (.lst (s6 _ _ er) id (finA (dxs.fr (Fm.of s6)))) (.cons (.lst (s6 _ _ ec) id (finA (dys.fr (Fm.of s6)))) (.cons .non .nil)))))))
        · rw [he]
          refine iteF ?_
          refine ⟨_, rfl, rr, xs, rfl, .inl (s2 _ _ er), _, rfl, _, rfl, _, rfl, by show 2 ≤ sizeLine; decide, fun t3 nt3 => ?_⟩
          rw [lxs]
          have s3 : Same H2 (upd H2 t3 (.tup [.str m, .int x])) := Same.new nt3
          have et3 : (upd H2 t3 (.tup [.str m, .int x])) t3 = some (.tup [.str m, .int x]) := upd_same
          generalize upd H2 t3 (.tup [.str m, .int x]) = H3 at s3 et3 ⊢
          have s13 := s2.trans s3
          refine ⟨ss, _, rfl, DPut.t (k := [Sum.inr m, Sum.inl x]) (s13 _ _ eS) et3 (by rw [seenT_len]; exact Nat.lt_of_le_of_lt la (by decide)), ?_⟩
          rw [seenT_put hn st.em st.ex]
          have eS4 : (upd H3 ss (.dT (seenT (acc ++ [r]) 0))) ss = some (.dT (seenT (acc ++ [r]) 0)) := upd_same
          have er4 : (upd H3 ss (.dT (seenT (acc ++ [r]) 0))) rr = some (.lst xs) := by rw [upd_ne nrs]; exact s13 _ _ er
          have ec4 : (upd H3 ss (.dT (seenT (acc ++ [r]) 0))) cc = some (.lst ys) := by rw [upd_ne ncs]; exact s13 _ _ ec
          have f4 : Fm (Z3 rr cc ss) H1 (upd H3 ss (.dT (seenT (acc ++ [r]) 0))) := fun a o h n => by rw [upd_ne (fun m => n (.inr m))]; exact s13 _ _ h
          have s4 : Same H (upd H3 ss (.dT (seenT (acc ++ [r]) 0))) := fun a o h => by rw [upd_ne (ne_of_none h hss)]; exact s13 _ _ (s1 _ _ h)
          generalize upd H3 ss (.dT (seenT (acc ++ [r]) 0)) = H4 at eS4 er4 ec4 f4 s4 ⊢
          have row := step_row MO st
          obtain ⟨md, rule, em, er_, h5, dv, ero⟩ := id st.at_
          have hb0 : b ≠ 0 := by omega
          refine ⟨_, rfl, p, dx, _, rfl, s4 _ _ e, rfl, _, rfl, p, .str m, .str m, b, d1, d2, d3, d4, rfl, .str m, PK.same s4, fun s md' es' em' u hu => ?_, fun hh => ?_⟩
          · injection es' with es'
            subst es'
            rw [em] at em'
            cases em'
            rw [er_] at hu
            cases hu
            refine ⟨_, rfl, _, rfl, p, dx, _, rfl, s4 _ _ e, p, b, d1, d2, d3, d4, rfl, (PK.same s4).1, rule, x, b, rfl, h5, hb0, mx, md_small hb.2, fun q' d' t4 dv' nt4 => ?_⟩
            obtain ⟨rfl, rfl⟩ := dv'.uniq h5 hb0 dv
            have s5 : Same H4 (upd H4 t4 (.tup [.int q', .int r.d])) := Same.new nt4
            refine ⟨t4, _, rfl, upd_same, rfl, _, _, rfl, _, _, rfl, rfl, ?_⟩
            generalize upd H4 t4 (.tup [.int q', .int r.d]) = H5 at s5 ⊢
            have s05 := s4.trans s5
            refine ⟨_, rfl, _, rfl, _, rfl, x, rfl, _, rfl, by show 3 ≤ sizeLine; decide, fun t5 nt5 => ?_⟩
            have s6 : Same H5 (upd H5 t5 (.tup [.str m, .int (sgnI x), .int r.d])) := Same.new nt5
            have et5 : (upd H5 t5 (.tup [.str m, .int (sgnI x), .int r.d])) t5 = some (.tup [.str m, .int (sgnI x), .int r.d]) := upd_same
            generalize upd H5 t5 (.tup [.str m, .int (sgnI x), .int r.d]) = H6 at s6 et5 ⊢
            have s06 := s05.trans s6
            refine ⟨p, dx, _, rfl, s06 _ _ e, p, t5, .str m, .int (sgnI x), .int r.d, .str m, .int (sgnI x), .int r.d, b, d1, d2, d3, d4, rfl, et5, .str _, .int _, .int _, PK.same s06, fun s' md' i j row' e1 e2 e3 e4 e5 u H7 s7 hu => ?_, fun hh => ?_, fun hh => ?_, fun hh => ?_⟩
            · injection e1 with e1
              injection e3 with e3
              injection e4 with e4
              subst e1 e3 e4
              rw [em] at e2
              cases e2
              rw [ero] at e5
              cases e5
              obtain ⟨a8, xs8, rfl, dx8, h8, _, _⟩ := hu.tupOf rfl
              obtain ⟨vu, vt, c0, c1, rfl, eds, gu, gt⟩ := two_dt dx8 rfl
              have eds : [itD r.row 2, itD r.row 3] = [c0, c1] := eds
              injection eds with q0' eds
              injection eds with q1' eds
              subst q0' q1'
              refine ⟨a8, _, rfl, h8, rfl, _, _, rfl, _, _, rfl, rfl, ?_⟩
              have s07 := s06.trans s7
              have s47 : Same H4 H7 := (s5.trans s6).trans s7
              have er7 := s47 _ _ er4
              have ec7 := s47 _ _ ec4
              have eS7 := s47 _ _ eS4
              have f7 := f4.trans (Fm.of s47)
              refine ⟨_, rfl, .inl ⟨rfl, _, SqL.of er7⟩, _, rfl, _, rfl, _, rfl, by show 3 ≤ sizeLine; decide, fun t6 nt6 => ?_⟩
              have s8 : Same H7 (upd H7 t6 (.tup [.str m, .int x, .int r.d])) := Same.new nt6
              have et6 : (upd H7 t6 (.tup [.str m, .int x, .int r.d])) t6 = some (.tup [.str m, .int x, .int r.d]) := upd_same
              generalize upd H7 t6 (.tup [.str m, .int x, .int r.d]) = H8 at s8 et6 ⊢
              have big : 1001 ≤ sizeLine := by decide
              refine ⟨rr, xs, .ref t6, rfl, rfl, s8 _ _ er7, by omega, ?_⟩
              have er9 : (upd H8 rr (.lst (xs ++ [.ref t6]))) rr = some (.lst (xs ++ [.ref t6])) := upd_same
              have ec9 : (upd H8 rr (.lst (xs ++ [.ref t6]))) cc = some (.lst ys) := by rw [upd_ne (Ne.symm nr)]; exact s8 _ _ ec7
              have eS9 : (upd H8 rr (.lst (xs ++ [.ref t6]))) ss = some (.dT (seenT (acc ++ [r]) 0)) := by rw [upd_ne (Ne.symm nrs)]; exact s8 _ _ eS7
              have f9 : Fm (Z3 rr cc ss) H8 (upd H8 rr (.lst (xs ++ [.ref t6]))) := fun a o h n => by rw [upd_ne (fun z => n (.inl (.inl (.inr z))))]; exact h
              have s9 : Same H (upd H8 rr (.lst (xs ++ [.ref t6]))) := fun a o h => by rw [upd_ne (ne_of_none h hrr)]; exact s8 _ _ (s07 _ _ h)
              have zt6 : ¬ Z3 rr cc ss t6 := zl ⟨_, s8 _ _ er7⟩ ⟨_, s8 _ _ ec7⟩ ⟨_, s8 _ _ eS7⟩ et6
              generalize upd H8 rr (.lst (xs ++ [.ref t6])) = H9 at er9 ec9 eS9 f9 s9 ⊢
              have lys : ys.length = acc.length := by rw [dys.len, List.length_map]
              refine ⟨_, rfl, .inl ⟨rfl, _, SqL.of ec9⟩, _, rfl, cc, ys, vu, rfl, rfl, ec9, by omega, ?_⟩
              have er10 : (upd H9 cc (.lst (ys ++ [vu]))) rr = some (.lst (xs ++ [.ref t6])) := by rw [upd_ne nr]; exact er9
              have ec10 : (upd H9 cc (.lst (ys ++ [vu]))) cc = some (.lst (ys ++ [vu])) := upd_same
              have eS10 : (upd H9 cc (.lst (ys ++ [vu]))) ss = some (.dT (seenT (acc ++ [r]) 0)) := by rw [upd_ne (Ne.symm ncs)]; exact eS9
              have f10 : Fm (Z3 rr cc ss) H9 (upd H9 cc (.lst (ys ++ [vu]))) := fun a o h n => by rw [upd_ne (fun z => n (.inl (.inr z)))]; exact h
              have s10 : Same H (upd H9 cc (.lst (ys ++ [vu]))) := fun a o h => by rw [upd_ne (ne_of_none h hcc)]; exact s9 _ _ h
              generalize upd H9 cc (.lst (ys ++ [vu])) = H10 at er10 ec10 eS10 f10 s10 ⊢
              obtain ⟨uss, eu, uk⟩ := upds_row row
              have gu3 : Dt (Z3 rr cc ss) H7 vu (itD r.row 2) := Dt.offT (fun q xs h => zl ⟨_, er7⟩ ⟨_, ec7⟩ ⟨_, eS7⟩ h) (by rw [eu]; exact noL_upds uss) gu
              have fA : Fm (Z3 rr cc ss) H8 H10 := f9.trans f10
              have dx10 : DtAll (Z3 rr cc ss) H10 (xs ++ [.ref t6]) ((acc ++ [r]).map roundD) := by
                rw [List.map_append]
                refine DtAll.snoc ?_ (((dxs.fr f7).fr (Fm.of s8)).fr fA)
                have : Dt (Z3 rr cc ss) H8 (.ref t6) (.tuple [.str m, .int x, .int r.d]) := .tup et6 zt6 (.cons (.str _) (.cons (.int _) (.cons (.int _) .nil)))
                have := this.fr fA
                unfold roundD
                rw [st.em, st.ex]
                exact this
              have dy10 : DtAll (Z3 rr cc ss) H10 (ys ++ [vu]) ((acc ++ [r]).map updD) := by
                rw [List.map_append]
                exact DtAll.snoc ((gu3.fr (Fm.of s8)).fr fA) (((dys.fr f7).fr (Fm.of s8)).fr fA)
              rcases hR with ⟨ht, rfl, rfl⟩ | ⟨m', n', ht, hn', pa'⟩
              · rw [ht] at gt
                cases gt
                refine ⟨_, rfl, rfl, _, rfl, iteT ?_⟩
                refine ⟨_, rfl, _, rfl, _, rfl, by show 5 ≤ sizeLine; decide, fun u nu => ?_⟩
                have sU := Same.new (o := .tup [.str "stops", .int q', .ref rr, .ref cc, .non]) nu
                exact hrt _ _ (q (.ref u) _ (s10.trans sU) (.tup upd_same id (.cons (.str _) (.cons (.int _) (.cons (.lst (sU _ _ er10) id (finA (dx10.fr (Fm.of sU)))) (.cons (.lst (sU _ _ ec10) id (finA (dy10.fr (Fm.of sU)))) (.cons .non .nil)))))))
              · rw [ht] at gt
                cases gt
                refine ⟨_, rfl, rfl, _, rfl, iteF ?_⟩
                have km' : m' ∈ (itemsD d2).map nmOf := by
                  rcases then_known row with z | ⟨z, e1, e2⟩
                  · rw [ht] at z
                    cases z
                  · rw [ht] at e1
                    injection e1 with e1
                    rw [e1]
                    exact e2
                refine ⟨_, rfl, _, rfl, hnx _ _ ⟨n', hn', ?_⟩⟩
                exact ⟨m', q', acc ++ [r], xs ++ [.ref t6], ys ++ [vu], _, _, _, _, _, rfl, pa', md_half dv' hb.1 mx, km', s10, er10, dx10, ec10, dy10, eS10⟩
            · rw [hh m rfl] at em
              cases em
            · rw [sgn_betw] at hh
              cases hh
            · rw [rem_of dv] at hh
              cases hh
          · rw [hh m rfl] at em
            cases em
end
/-! ### result_of, first_mode, first_values -/
section
theorem regs_ints {ds : List PyData} (h : ∀ d ∈ ds, regD d = true) : ∀ d ∈ ds, ∃ i, itD d 1 = .int i ∧ -1000000 ≤ i ∧ i ≤ 1000000 ∧ isTup d = true ∧ (itemsD d).length = 2 := fun d hd => by
  have z := h d hd
  unfold regD at z
  simp only [Bool.and_eq_true] at z
  obtain ⟨t, l, _, f⟩ := z
  obtain ⟨fs, e1, l1, b1⟩ := ints_fact f
  match fs, l1 with
  | [i], _ =>
    injection e1 with e1
    injection e1 with e1 _
    exact ⟨i, e1, (b1 i List.mem_cons_self).1, (b1 i List.mem_cons_self).2, t, of_decide_eq_true l⟩
def firstsD (d1 : PyData) : List Int := (itemsD d1).map fun d => iOf (itD d 1)
theorem sm_of {i : Int} (h : -1000000 ≤ i ∧ i ≤ 1000000) : Sm i := by
  have k : (1000000 : Int) < 2 ^ 600 := by decide
  unfold Sm
  generalize (2 : Int) ^ 600 = N at k ⊢
  omega
end
section
variable {P : Program} {w : World} {K : PySem.W.Frag} {mg : Str → Option Value} {base : Heap} {aR CP CU CS CN : Addr}
abbrev s_result_of : Stmt := top 45
abbrev N_result_of : List Str := ["program", "registers"]
theorem sc_result_of : FnScope N_result_of ["program", "registers"] (defScope s_result_of) := ⟨rfl, rfl, rfl, by decide +kernel, rfl, by decide +kernel, by decide +kernel⟩
def spResultOf (P : Program) (w : World) (CP : Addr) : Sp := fun vs H Q _ => ∃ p r b d1 d2 d3 gs xs, vs = [.ref p, .ref r] ∧ ProgOk P w CP H p b d1 d2 d3 (.tuple (gs.map PyData.int)) ∧ H r = some (.tup (xs.map V.int)) ∧ (∀ i ∈ xs, Sm i) ∧ xs.length ≤ 1000 ∧ ∀ H', Same H H' → Q (.int (dotI gs (xs ++ [1]))) H'
theorem ok_result_of (h : Has K mg "result_of" s_result_of ["program", "registers"]) (C : PCls K mg CP) (pResult : OwnP P w K mg base CP 1 "result" (spPResult P w CP)) (O_weighed : Ok P w K mg base 1 "weighed" ["factors", "values"] spWeighed) :
    Ok P w K mg base 3 "result_of" ["program", "registers"] (spResultOf P w CP) := by
  obtain ⟨f, fd, g, b, F⟩ := h
  refine ⟨f, fd, g, F.kp, b, F.ok sc_result_of (fun vs H Q E h => ?_) (fun cdv A outer s H vs Q E hr h => ?_)⟩
  · obtain ⟨p, r, b, d1, d2, d3, gs, xs, rfl, _⟩ := h
    rfl
  · obtain ⟨p, r, b, d1, d2, d3, gs, xs, rfl, PK, er, sx, few, q⟩ := h
    obtain ⟨⟨dx, vr, vm, ve, va, vt, e, _⟩, PO, z1, z2⟩ := id PK
    refine ⟨_, (pss_one (ps_ret (pe_cO O_weighed (hr.mono (by decide)) pass0 rfl (pa_cons (pe_propO (pv 0) C.cl pResult (hr.mono (by decide)) passL) (pa_cons (pe_tup (StX.pa_star (pv 1) (pa_cons pe_int pa_nil))) pa_nil))))), ?_⟩
    refine ⟨_, rfl, p, dx, _, rfl, e, p, b, d1, d2, d3, _, rfl, PK.1, fun v hv => ?_⟩
    obtain ⟨a, xa, rfl, dxa, ha, _, _⟩ := hv.tupOf rfl
    have dxa : DtAll Z0 H xa (gs.map PyData.int) := dxa
    obtain rfl := dxa.ints_eq
    obtain ⟨gs', e1, l1, b1⟩ := ints_fact PO.result
    injection e1 with e1
    have e1 : gs = gs' := (List.map_inj_right (fun _ _ z => by injection z)).mp e1
    subst e1
    obtain ⟨l3, l4⟩ := PO.few
    have l4 : (gs.map PyData.int).length ≤ 1000 := l4
    rw [List.length_map] at l4
    refine ⟨_, rfl, r, _, rfl, .inl (SqT.of er), ?_⟩
    refine ⟨?_, fun t nt => ?_⟩
    · rw [List.length_append, List.length_map]
      have big : 1001 ≤ sizeLine := by decide
      show xs.length + 1 ≤ _
      omega
    · refine ⟨a, t, gs, xs ++ [1], rfl, (Same.new nt) _ _ ha, by rw [upd_same, List.map_append]; rfl, fun i hi => sm_of (b1 i hi), fun i hi => ?_, by omega, fun H' s' => q H' ((Same.new nt).trans s')⟩
      rcases List.mem_append.mp hi with hi | hi
      · exact sx i hi
      · rw [List.mem_singleton.mp hi]
        exact sm_of (by decide)
abbrev s_first_mode : Stmt := top 47
abbrev N_first_mode : List Str := ["program"]
theorem sc_first_mode : FnScope N_first_mode ["program"] (defScope s_first_mode) := ⟨rfl, rfl, rfl, by decide +kernel, rfl, by decide +kernel, by decide +kernel⟩
def spFirstMode (P : Program) (w : World) (CP : Addr) : Sp := fun vs H Q _ => ∃ p b d1 d2 d3 d4, vs = [.ref p] ∧ ProgOk P w CP H p b d1 d2 d3 d4 ∧ ∀ m H', Same H H' → ((itemsD d2).map nmOf)[0]? = some m → Q (.str m) H'
theorem ok_first_mode (h : Has K mg "first_mode" s_first_mode ["program"]) (C : PCls K mg CP) (mModes : OwnMeth P w K mg base CP 1 "modes" ["self"] (spPModes P w CP)) :
    Ok P w K mg base 3 "first_mode" ["program"] (spFirstMode P w CP) := by
  obtain ⟨f, fd, g, b, F⟩ := h
  refine ⟨f, fd, g, F.kp, b, F.ok sc_first_mode (fun vs H Q E h => ?_) (fun cdv A outer s H vs Q E hr h => ?_)⟩
  · obtain ⟨p, b, d1, d2, d3, d4, rfl, _⟩ := h
    rfl
  · obtain ⟨p, b, d1, d2, d3, d4, rfl, PK, q⟩ := h
    obtain ⟨⟨dx, vr, vm, ve, va, vt, e, _⟩, PO, z1, z2⟩ := id PK
    obtain ⟨_, m4, _⟩ := partsD_all PO.modes
    refine ⟨_, (pss_one (ps_ret (pe_ix ixl (pe_methO0 (pv 0) C.cl mModes (hr.mono (by decide)) passL) pe_int (fun _ _ => rfl)))), ?_⟩
    refine ⟨_, rfl, p, dx, _, rfl, e, rfl, p, b, d1, d2, d3, d4, rfl, PK, fun u H1 s1 nu hu => ?_⟩
    cases k : (itemsD d2).map nmOf with
    | nil =>
      exfalso
      have z := PO.modes
      unfold partsD listD at z
      simp only [Bool.and_eq_true, decide_eq_true_eq] at z
      have l : (itemsD d2).length = 0 := by rw [← List.length_map (f := nmOf), k]; rfl
      omega
    | cons m ms =>
      rw [k] at hu
      exact ⟨u, _, 0, _, rfl, rfl, hu, atI0, q m H1 s1 (by rw [k]; rfl)⟩
abbrev s_first_values : Stmt := top 48
abbrev N_first_values : List Str := ["program", "_", "first"]
theorem sc_first_values : FnScope N_first_values ["program"] (defScope s_first_values) := ⟨rfl, rfl, rfl, by decide +kernel, rfl, by decide +kernel, by decide +kernel⟩
def spFirstValues (P : Program) (w : World) (CP : Addr) : Sp := fun vs H Q _ => ∃ p b d1 d2 d3 d4, vs = [.ref p] ∧ ProgOk P w CP H p b d1 d2 d3 d4 ∧ ∀ t H', Same H H' → H' t = some (.tup ((firstsD d1).map V.int)) → Q (.ref t) H'
theorem ok_first_values (h : Has K mg "first_values" s_first_values ["program"]) (T : Txt K mg aR) (C : PCls K mg CP) (mRegs : OwnMeth P w K mg base CP 1 "registers" ["self"] (spPRegs P w CP)) :
    Ok P w K mg base 3 "first_values" ["program"] (spFirstValues P w CP) := by
  obtain ⟨f, fd, g, b, F⟩ := h
  refine ⟨f, fd, g, F.kp, b, F.ok sc_first_values (fun vs H Q E h => ?_) (fun cdv A outer s H vs Q E hr h => ?_)⟩
  · obtain ⟨p, b, d1, d2, d3, d4, rfl, _⟩ := h
    rfl
  · obtain ⟨p, b, d1, d2, d3, d4, rfl, PK, q⟩ := h
    obtain ⟨⟨dx, vr, vm, ve, va, vt, e, _⟩, PO, z1, z2⟩ := id PK
    have RG := regs_ints (partsD_all PO.regs).2.2
    refine ⟨_, (pss_one (ps_ret (pe_callTy tupT (by rfl) T.tuple bb_tuple (pa_cons (pe_lc (own := [("_", 1), ("first", 2)]) (g := (gTupT 2 (gCons (gName 1) (gCons (gName 2) gNil)))) (tt := tYes) rfl sc_first_values.nd (pi_seq (pe_methO0 (pv 0) C.cl mRegs (hr.mono (by decide)) passL)) (blkOk_by (N := N_first_values) (sc := defScope s_first_values) (by decide +kernel)) (fun _ _ _ _ _ => (pgT (n := 2) (by rfl) (pgs_cons (pg_name (i := 1) sc_first_values.nd rfl (by first | exact Or.inl rfl | exact Or.inr rfl)) (pgs_cons (pg_name (i := 2) sc_first_values.nd rfl (by first | exact Or.inl rfl | exact Or.inr rfl)) pgs_nil)))) (fun _ _ _ _ _ => pts_nil) (fun _ _ _ _ _ => (pv 2))) pa_nil)))), ?_⟩
    refine ⟨_, rfl, p, dx, _, rfl, e, rfl, p, b, d1, d2, d3, d4, rfl, PK.1, fun u H1 s1 nu hu => ?_⟩
    cases hu with
    | @lst _ xs _ eu _ du =>
      refine ⟨u, xs, _, rfl, .inl rfl, eu, fun J wk D hD => ?_⟩
      refine lc_vals wk Z0 (fun _ => True) ((firstsD d1).map V.int) (by unfold firstsD; simp [du.len]) hD id True.intro (fun _ _ _ _ => True.intro) (Nat.lt_of_le_of_lt (by rw [du.len]; exact z1.1) (by decide)) (fun G f => f _ _ eu id) ?_ ?_
      · intro i y k G G' Qk ek f _ _ yy z
        obtain ⟨rfl, ex⟩ := yy
        obtain ⟨di, ei, dt⟩ := du.get ex
        obtain ⟨j, e1, _, _, t1, l1⟩ := RG di (List.mem_of_getElem? ei)
        obtain ⟨a, ys, rfl, dy, ha, _, _⟩ := (dt.fr f).tupOf t1
        obtain ⟨y0, y1, c0, c1, rfl, eds, g0, g1⟩ := two_dt dy l1
        have : itD di 1 = c1 := by
          unfold itD
          rw [eds]
          rfl
        rw [← this, e1] at g1
        cases g1
        unfold firstsD at ek
        rw [List.map_map, List.getElem?_map, ei] at ek
        have ek : some (V.int (iOf (itD di 1))) = some k := ek
        rw [e1] at ek
        cases ek
        refine ⟨a, _, rfl, ha, rfl, _, _, rfl, _, _, rfl, rfl, rfl, ?_⟩
        exact ⟨_, rfl, z _ Fm.refl True.intro⟩
      · intro G f _ hD2
        refine ⟨D, _, rfl, .inl ⟨hD2, fun l nl => ?_⟩⟩
        exact q l _ ((s1.trans f.same).trans (Same.new nl)) upd_same
end
/-! ### walk, result_at -/
section
def uOf (r : Rnd) : List (List Int) := (itemsD (itD r.row 2)).map fun d => (itemsD d).map iOf
theorem uOf_of {r : Rnd} {uss : List (List Int)} (e : itD r.row 2 = updsD uss) : uOf r = uss := by
  unfold uOf
  rw [e]
  show (uss.map fun fs => PyData.tuple (fs.map PyData.int)).map (fun d => (itemsD d).map iOf) = uss
  rw [List.map_map]
  conv => rhs; rw [← List.map_id uss]
  refine List.map_congr_left fun fs _ => ?_
  show (fs.map PyData.int).map iOf = fs
  rw [List.map_map]
  conv => rhs; rw [← List.map_id fs]
  exact List.map_congr_left fun i _ => rfl
def stepV (vs : List Int) (r : Rnd) : List Int := (uOf r).map fun fs => dotI fs (vs ++ [r.d, 1])
/-- the registers at the i-th round -/
def valsAt (vs : List Int) (acc : List Rnd) (i : Nat) : List Int := (acc.take i).foldl stepV vs
theorem valsAt_succ {vs : List Int} {acc : List Rnd} {i : Nat} {r : Rnd} (h : acc[i]? = some r) : valsAt vs acc (i + 1) = stepV (valsAt vs acc i) r := by
  unfold valsAt
  rw [List.take_add_one, h, List.foldl_append]
  rfl
def keptTo (vs : List Int) (acc : List Rnd) (i : Nat) : List (List Int) := (List.range (i + 1)).map (valsAt vs acc)
theorem keptTo_succ {vs : List Int} {acc : List Rnd} {i : Nat} : keptTo vs acc (i + 1) = keptTo vs acc i ++ [valsAt vs acc (i + 1)] := by
  unfold keptTo
  rw [List.range_succ, List.map_append]
  rfl
def tupI (vs : List Int) : PyData := .tuple (vs.map PyData.int)
def WalkSm (vs : List Int) (acc : List Rnd) : Prop := ∀ i, i ≤ acc.length → ∀ v ∈ valsAt vs acc i, Sm v
/-- what every round of a program's way is -/
structure RndOk (b : Int) (many : Nat) (r : Rnd) : Prop where
  ups : ∃ uss, itD r.row 2 = updsD uss ∧ UpsOk many uss
  rem : remD (.int r.d) (if b < 0 then -b else b) = true
theorem Path.all {b : Int} {many : Nat} {d2 d3 : PyData} (h : ModesOk b many d2) {n : Nat} {m : Str} {x : Int} {acc : List Rnd} {R : Res} {acc' : List Rnd} (p : Path b d2 d3 n m x acc R acc') : (∀ r ∈ acc, RndOk b many r) → ∀ r ∈ acc', RndOk b many r := by
  have one : ∀ {m x q r}, StepR b d2 m x q r → RndOk b many r := fun st => by
    obtain ⟨_, _, _, _, _, dv, _⟩ := id st.at_
    exact ⟨upds_row (step_row h st), rem_of dv⟩
  induction p with
  | rests => exact id
  | ring => exact id
  | stops _ _ st _ =>
    intro a r hr
    rcases List.mem_append.mp hr with hr | hr
    · exact a r hr
    · rw [List.mem_singleton.mp hr]
      exact one st
  | goes _ _ st _ _ ih =>
    refine fun a => ih fun r hr => ?_
    rcases List.mem_append.mp hr with hr | hr
    · exact a r hr
    · rw [List.mem_singleton.mp hr]
      exact one st
theorem valsAt_len {b : Int} {many : Nat} {vs : List Int} {acc : List Rnd} (h : ∀ r ∈ acc, RndOk b many r) (h0 : vs.length = many) : ∀ i, i ≤ acc.length → (valsAt vs acc i).length = many
  | 0, _ => h0
  | i + 1, hi => by
    have e : acc[i]? = some acc[i] := List.getElem?_eq_getElem hi
    rw [valsAt_succ e]
    obtain ⟨⟨uss, eu, uk⟩, _⟩ := h _ (List.getElem_mem hi)
    unfold stepV
    rw [List.length_map, uOf_of eu]
    exact uk.1
def walkD (R : Res) (d1 : PyData) (acc : List Rnd) : PyData := .tuple [.str (howR R), lastR R, .list (acc.map roundD), .list ((keptTo (firstsD d1) acc acc.length).map tupI), ringR R acc.length]
theorem five_dt {Z : Addr → Prop} {H : Hp} {xs : List V} {a b c d e : PyData} (h : DtAll Z H xs [a, b, c, d, e]) : ∃ x y z u v, xs = [x, y, z, u, v] ∧ Dt Z H x a ∧ Dt Z H y b ∧ Dt Z H z c ∧ Dt Z H u d ∧ Dt Z H v e := by
  cases h with
  | cons h0 h =>
    cases h with
    | cons h1 h =>
      cases h with
      | cons h2 h =>
        cases h with
        | cons h3 h =>
          cases h with
          | cons h4 h =>
            cases h
            exact ⟨_, _, _, _, _, rfl, h0, h1, h2, h3, h4⟩
end
section
variable {P : Program} {w : World} {K : PySem.W.Frag} {mg : Str → Option Value} {base : Heap} {aR CP CU CS CN : Addr}
abbrev s_walk : Stmt := top 49
abbrev N_walk : List Str := ["program", "number", "how", "last", "rounds", "changes", "ring", "registers", "kept", "_", "remainder", "updates", "values", "update"]
theorem sc_walk : FnScope N_walk ["program", "number"] (defScope s_walk) := ⟨rfl, rfl, rfl, by decide +kernel, rfl, by decide +kernel, by decide +kernel⟩
def spWalk (P : Program) (w : World) (CP : Addr) : Sp := fun vs H Q _ => ∃ p x b d1 d2 d3 d4 n R acc m0, vs = [.ref p, .int x] ∧ ProgOk P w CP H p b d1 d2 d3 d4 ∧ Md x ∧ ((itemsD d2).map nmOf)[0]? = some m0 ∧ Path b d2 d3 n m0 x [] R acc ∧ acc.length ≤ 1000 ∧ WalkSm (firstsD d1) acc ∧
  ∀ u H', Same H H' → Dt Z0 H' u (walkD R d1 acc) → Q u H'
def WalkW (H3 : Hp) (d1 : PyData) (acc : List Rnd) (p : Addr) (x : Int) (rr cc kk : Addr) (w0 w1 w4 : V) (i : Nat) (σ : L2.St) (H' : Hp) : Prop := ∃ rg ks v9 v10 v11 v12 v13, σ = [some (.ref p), some (.int x), some w0, some w1, some (.ref rr), some (.ref cc), some w4, some (.ref rg), some (.ref kk), v9, v10, v11, v12, v13] ∧
          Same H3 H' ∧ rg ≠ kk ∧ H' rg = some (.tup ((valsAt (firstsD d1) acc i).map V.int)) ∧ H' kk = some (.lst ks) ∧ DtAll (Zu Z0 kk) H' ks ((keptTo (firstsD d1) acc i).map tupI)
theorem ok_walk (h : Has K mg "walk" s_walk ["program", "number"]) (T : Txt K mg aR) (O_path_of : Ok P w K mg base 6 "path_of" ["program", "mode", "x"] (spPath P w CP)) (O_first_mode : Ok P w K mg base 3 "first_mode" ["program"] (spFirstMode P w CP))
    (O_first_values : Ok P w K mg base 3 "first_values" ["program"] (spFirstValues P w CP)) (O_weighed : Ok P w K mg base 1 "weighed" ["factors", "values"] spWeighed) :
    Ok P w K mg base 7 "walk" ["program", "number"] (spWalk P w CP) := by
  obtain ⟨f, fd, g, b, F⟩ := h
  refine ⟨f, fd, g, F.kp, b, F.ok sc_walk (fun vs H Q E h => ?_) (fun cdv A outer s H vs Q E hr h => ?_)⟩
  · obtain ⟨p, x, b, d1, d2, d3, d4, n, R, acc, m0, rfl, _⟩ := h
    rfl
  · obtain ⟨p, x, b, d1, d2, d3, d4, n, R, acc, m0, rfl, PK, mx, em0, pa, few, ws, q⟩ := h
    obtain ⟨⟨dx, vr, vm, ve, va, vt, e, _⟩, PO, z1, z2⟩ := id PK
    have AO := pa.all PO.modesOk (fun r hr => by cases hr)
    have km0 : m0 ∈ (itemsD d2).map nmOf := List.mem_of_getElem? em0
    refine ⟨_, (pss_cons (ps_asg (pe_cO O_path_of (hr.mono (by decide)) pass0 rfl (pa_cons (pv 0) (pa_cons (pe_cO O_first_mode (hr.mono (by decide)) pass0 rfl (pa_cons (pv 0) pa_nil)) (pa_cons (pv 1) pa_nil)))) (pgT (n := 5) (by rfl) (pgs_cons (pg_name (i := 2) sc_walk.nd rfl (.inl rfl)) (pgs_cons (pg_name (i := 3) sc_walk.nd rfl (.inl rfl)) (pgs_cons (pg_name (i := 4) sc_walk.nd rfl (.inl rfl)) (pgs_cons (pg_name (i := 5) sc_walk.nd rfl (.inl rfl)) (pgs_cons (pg_name (i := 6) sc_walk.nd rfl (.inl rfl)) pgs_nil)))))))
      (pss_cons (ps_set (i := 7) sc_walk.nd rfl (.inl rfl) (pe_cO O_first_values (hr.mono (by decide)) pass0 rfl (pa_cons (pv 0) pa_nil)))
      (pss_cons (ps_set (i := 8) sc_walk.nd rfl (.inl rfl) (pe_lst (pa_cons (pv 7) pa_nil)))
      (pss_cons (ps_for PassesOwn.never rfl (pi_zipT (by rfl) T.zip (pa_cons (pv 4) (pa_cons (pv 5) pa_nil))) (pgT (n := 2) (by rfl) (pgs_cons (pgT (n := 3) (by rfl) (pgs_cons (pg_name (i := 9) sc_walk.nd rfl (.inl rfl)) (pgs_cons (pg_name (i := 9) sc_walk.nd rfl (.inl rfl)) (pgs_cons (pg_name (i := 10) sc_walk.nd rfl (.inl rfl)) pgs_nil)))) (pgs_cons (pg_name (i := 11) sc_walk.nd rfl (.inl rfl)) pgs_nil)))
        (pss_cons (ps_set (i := 12) sc_walk.nd rfl (.inr rfl) (pe_tup (StX.pa_star (pv 7) (pa_cons (pv 10) (pa_cons pe_int pa_nil)))))
        (pss_cons (ps_set (i := 7) sc_walk.nd rfl (.inl rfl) (pe_callTy tupT (by rfl) T.tuple bb_tuple (pa_cons (pe_lc (own := [("update", 13)]) (g := (gName 13)) (tt := tYes) rfl sc_walk.nd (pi_seq (pv 11)) (blkOk_by (N := N_walk) (sc := defScope s_walk) (by decide +kernel)) (fun _ _ _ _ _ => (pg_name (i := 13) sc_walk.nd rfl (by first | exact Or.inl rfl | exact Or.inr rfl))) (fun _ _ _ _ _ => pts_nil) (fun _ _ _ _ _ => (pe_cO O_weighed (hr.mono (by decide)) pass0 rfl (pa_cons (pv 13) (pa_cons (pv 12) pa_nil))))) pa_nil)))
        (pss_one (ps_expr (pe_bm PySem.F.plainAttrs_list PySem.F.slot_list_append PySem.F.type_list_append mt_append (pv 8) (pa_cons (pv 7) pa_nil)))))))
      (pss_one (ps_ret (pe_tup (pa_cons (pv 2) (pa_cons (pv 3) (pa_cons (pv 4) (pa_cons (pv 8) (pa_cons (pv 6) pa_nil)))))))))))), ?_⟩
    refine ⟨_, rfl, _, rfl, p, b, d1, d2, d3, d4, rfl, PK, fun m H1 s1 em => ?_⟩
    rw [em0] at em
    cases em
    refine ⟨_, rfl, p, m0, x, b, d1, d2, d3, d4, n, R, acc, rfl, PK.same s1, mx, km0, pa, few, fun u H2 s2 du => ?_⟩
    obtain ⟨a5, xs5, rfl, dx5, h5, _, _⟩ := du.tupOf rfl
    obtain ⟨w0, w1, w2, w3, w4, rfl, g0, g1, g2, g3, g4⟩ := five_dt dx5
    cases g2 with
    | @lst rr xs _ err _ dxs =>
      cases g3 with
      | @lst cc ys _ ecc _ dys =>
        refine ⟨a5, _, rfl, h5, rfl, _, _, rfl, _, _, rfl, _, _, rfl, _, _, rfl, _, _, rfl, rfl, ?_⟩
        refine ⟨_, rfl, p, b, d1, d2, d3, d4, rfl, PK.same (s1.trans s2), fun rg H3 s3 erg => ?_⟩
        refine ⟨_, rfl, by show 1 ≤ sizeLine; decide, fun kk nkk => ?_⟩
        have s4 : Same H3 (upd H3 kk (.lst [.ref rg])) := Same.new nkk
        have ekk : (upd H3 kk (.lst [.ref rg])) kk = some (.lst [.ref rg]) := upd_same
        generalize upd H3 kk (.lst [.ref rg]) = H4 at s4 ekk ⊢
        have s24 := s3.trans s4
        have lxs : xs.length = acc.length := by rw [dxs.len, List.length_map]
        have lys : ys.length = acc.length := by rw [dys.len, List.length_map]
        have nrk : rg ≠ kk := ne_of_none erg nkk
        refine ⟨_, rfl, _, rfl, rr, cc, xs, ys, rfl, s24 _ _ err, s24 _ _ ecc, fun J wk => for_itD wk (WalkW H3 d1 acc p x rr cc kk w0 w1 w4) ?_ ?_ ?_ ?_⟩
        · refine ⟨rg, _, _, _, _, _, _, rfl, s4, nrk, s4 _ _ erg, ekk, .cons (.tup (s4 _ _ erg) (zu_ne id nrk) (DtAll.ints _)) .nil⟩
        · rintro i σ H' hi ⟨_, _, _, _, _, _, _, _, k, _⟩
          exact ⟨k _ _ (s3 _ _ err), k _ _ (s3 _ _ ecc)⟩
        · rintro i v σ H5 H6 hi ⟨rg, ks, v9, v10, v11, v12, v13, rfl, s5, nk, eg, ek, dk⟩ ⟨T6, xa, ya, rfl, nT, rfl, exa, eya⟩ D' hnx _
          have hi' : i < acc.length := by
            rw [lxs, lys] at hi
            omega
          have er : acc[i]? = some acc[i] := List.getElem?_eq_getElem hi'
          obtain ⟨⟨uss, eu, uk⟩, remOk⟩ := AO _ (List.getElem_mem hi')
          have s25 : Same H2 H5 := s3.trans s5
          have s6 : Same H5 (upd H5 T6 (.tup [xa, ya])) := Same.new nT
          have eT : (upd H5 T6 (.tup [xa, ya])) T6 = some (.tup [xa, ya]) := upd_same
          generalize upd H5 T6 (.tup [xa, ya]) = H6 at s6 eT ⊢
          obtain ⟨dr, edr, gr⟩ := dxs.get exa
          rw [List.getElem?_map, er] at edr
          have edr : some (roundD acc[i]) = some dr := edr
          cases edr
          obtain ⟨du, edu, gu⟩ := dys.get eya
          rw [List.getElem?_map, er] at edu
          have edu : some (updD acc[i]) = some du := edu
          cases edu
          have gr : Dt Z0 H6 xa (.tuple [.str acc[i].m, .int acc[i].x, .int acc[i].d]) := gr.fr (Fm.of (s25.trans s6))
          obtain ⟨ta, x0, x1, x2, rfl, eta, y0, y1, y2⟩ := gr.three
          cases y0
          cases y1
          cases y2
          have gu : Dt Z0 H6 ya (updsD uss) := by
            have := gu.fr (Fm.of (s25.trans s6))
            unfold updD at this
            rw [eu] at this
            exact this
          obtain ⟨ua, us, rfl, dus, eua, _, _⟩ := gu.tupOf rfl
          have dus : DtAll Z0 H6 us (uss.map fun fs => PyData.tuple (fs.map PyData.int)) := dus
          refine ⟨T6, _, rfl, eT, rfl, _, _, rfl, ta, _, rfl, eta, rfl, _, _, rfl, _, _, rfl, _, _, rfl, rfl, _, _, rfl, rfl, ?_⟩
          have lv := valsAt_len (vs := firstsD d1) AO (by unfold firstsD; rw [List.length_map]) i (Nat.le_of_lt hi')
          have many : (itemsD d1).length ≤ 3 := by
            have := (partsD_all PO.regs).2.1
            omega
          have big : 1002 ≤ sizeLine := by decide
          refine ⟨_, rfl, rg, _, rfl, .inl (SqT.of (s6 _ _ eg)), _, rfl, ?_, fun tv ntv => ?_⟩
          · rw [List.length_append, List.length_map, lv]
            show (itemsD d1).length + 2 ≤ _
            omega
          · have s7 : Same H6 (upd H6 tv (.tup ((valsAt (firstsD d1) acc i).map V.int ++ [.int acc[i].d, .int 1]))) := Same.new ntv
            have etv : (upd H6 tv (.tup ((valsAt (firstsD d1) acc i).map V.int ++ [.int acc[i].d, .int 1]))) tv = some (.tup ((valsAt (firstsD d1) acc i ++ [acc[i].d, 1]).map V.int)) := by rw [upd_same, List.map_append]; rfl
            show tSeq _ _ _ _ (upd H6 tv (.tup ((valsAt (firstsD d1) acc i).map V.int ++ [.int acc[i].d, .int 1])))
            generalize upd H6 tv (.tup ((valsAt (firstsD d1) acc i).map V.int ++ [.int acc[i].d, .int 1])) = H7 at s7 etv ⊢
            refine ⟨_, rfl, ua, us, _, rfl, .inr rfl, s7 _ _ eua, fun J2 wk2 D hD => ?_⟩
            have lus : us.length = uss.length := by rw [dus.len, List.length_map]
            refine lc_vals wk2 Z0 (fun _ => True) ((uss.map fun fs => dotI fs (valsAt (firstsD d1) acc i ++ [acc[i].d, 1])).map V.int) (by simp [lus]) hD id True.intro (fun _ _ _ _ => True.intro) (by rw [lus, uk.1]; exact Nat.lt_of_le_of_lt many (by decide)) (fun G f => f _ _ (s7 _ _ eua) id) ?_ ?_
            · intro j y k G G' Qk ekk2 f _ _ yy z
              obtain ⟨rfl, ex⟩ := yy
              obtain ⟨du, edu, dt⟩ := dus.get ex
              rw [List.getElem?_map] at edu
              obtain ⟨fs, efs, rfl⟩ := Option.map_eq_some_iff.mp edu
              rw [List.map_map, List.getElem?_map, efs] at ekk2
              have ekk2 : some (V.int (dotI fs (valsAt (firstsD d1) acc i ++ [acc[i].d, 1]))) = some k := ekk2
              cases ekk2
              obtain ⟨fa, fx, rfl, dfx, efa, _, _⟩ := ((dt.fr (Fm.of s7)).fr f).tupOf rfl
              have dfx : DtAll Z0 _ fx (fs.map PyData.int) := dfx
              obtain rfl := dfx.ints_eq
              obtain ⟨lf, bf⟩ := uk.2 fs (List.mem_of_getElem? efs)
              refine ⟨rfl, _, rfl, _, rfl, fa, tv, fs, _, rfl, efa, f _ _ etv id, fun i hi => sm_of (bf i hi), fun v hv => ?_, by omega, fun H' s' => z _ (Fm.of s') True.intro⟩
              rcases List.mem_append.mp hv with hv | hv
              · exact ws i (Nat.le_of_lt hi') v hv
              · have rb : remD (.int acc[i].d) (if b < 0 then -b else b) = true := remOk
                have rb : (decide (1 - (if b < 0 then -b else b) ≤ acc[i].d) && decide (acc[i].d ≤ (if b < 0 then -b else b) - 1)) = true := rb
                have hb := baseD_abs PO.base
                simp only [Bool.and_eq_true, decide_eq_true_eq] at rb
                have : -1000000 ≤ acc[i].d ∧ acc[i].d ≤ 1000000 := by
                  split at rb <;> omega
                rcases List.mem_cons.mp hv with rfl | hv
                · exact sm_of this
                · rw [List.mem_singleton.mp hv]
                  exact sm_of (by decide)
            · intro G f _ hD2
              refine ⟨D, _, rfl, .inl ⟨hD2, fun l nl => ?_⟩⟩
              have s8 : Same H7 (upd G l (.tup ((uss.map fun fs => dotI fs (valsAt (firstsD d1) acc i ++ [acc[i].d, 1])).map V.int))) := f.same.trans (Same.new nl)
              have el : (upd G l (.tup ((uss.map fun fs => dotI fs (valsAt (firstsD d1) acc i ++ [acc[i].d, 1])).map V.int))) l = some (.tup ((valsAt (firstsD d1) acc (i + 1)).map V.int)) := by
                rw [upd_same, valsAt_succ er]
                unfold stepV
                rw [uOf_of eu]
              generalize upd G l (.tup ((uss.map fun fs => dotI fs (valsAt (firstsD d1) acc i ++ [acc[i].d, 1])).map V.int)) = H8 at s8 el ⊢
              have s58 : Same H5 H8 := (s6.trans s7).trans s8
              have ek8 := s58 _ _ ek
              have nlk : l ≠ kk := fun m => by rw [m, ek8] at el; cases el
              have lks : ks.length = i + 1 := by
                rw [dk.len, List.length_map]
                unfold keptTo
                rw [List.length_map, List.length_range]
              refine ⟨_, rfl, .inl ⟨rfl, _, SqL.of ek8⟩, _, rfl, kk, ks, .ref l, rfl, rfl, ek8, by omega, ?_⟩
              have fk : Fm (Zu Z0 kk) H8 (upd H8 kk (.lst (ks ++ [.ref l]))) := fun a o h n => by rw [upd_ne (fun m => n (.inr m))]; exact h
              refine hnx _ _ ⟨l, ks ++ [.ref l], _, _, _, _, _, rfl, fun a o h => ?_, nlk, by rw [upd_ne nlk]; exact el, upd_same, ?_⟩
              · rw [upd_ne (ne_of_none h nkk)]
                exact s58 _ _ (s5 _ _ h)
              · rw [keptTo_succ, List.map_append]
                refine DtAll.snoc (e := tupI (valsAt (firstsD d1) acc (i + 1))) ?_ ((dk.fr (Fm.of s58)).fr fk)
                exact .tup (by rw [upd_ne nlk]; exact el) (zu_ne id nlk) (DtAll.ints _)
        · rintro σ H5 ⟨rg, ks, v9, v10, v11, v12, v13, rfl, s5, nk, eg, ek, dk⟩
          rw [lxs, lys, Nat.min_self] at dk
          refine ⟨_, rfl, _, rfl, _, rfl, _, rfl, _, rfl, by show 5 ≤ sizeLine; decide, fun u nu => ?_⟩
          have sU : Same H5 (upd H5 u (.tup [w0, w1, .ref rr, .ref kk, w4])) := Same.new nu
          have s2U : Same H2 (upd H5 u (.tup [w0, w1, .ref rr, .ref kk, w4])) := (s3.trans s5).trans sU
          exact q (.ref u) _ ((s1.trans s2).trans s2U) (.tup upd_same id (.cons (g0.fr (Fm.of s2U)) (.cons (g1.fr (Fm.of s2U)) (.cons (.lst (s2U _ _ err) id (dxs.fr (Fm.of s2U))) (.cons (.lst (sU _ _ ek) id ((dk.fr (Fm.of sU)).mono' fun _ m => m.elim)) (.cons (g4.fr (Fm.of s2U)) .nil))))))
end
/-! ### result_at -/
section
/-- what a program tells of a number: None, or its result -/
def resV (R : Res) (d1 : PyData) (gs : List Int) (acc : List Rnd) : PyData := match R with
  | .ring _ => .none
  | _ => .int (dotI gs (valsAt (firstsD d1) acc acc.length ++ [1]))
theorem howR_end {R : Res} : (howR R = "endless") ↔ ∃ i, R = .ring i := by
  cases R with
  | rests x => exact ⟨fun h => absurd (show ("rests" : Str) = "endless" from h) (by decide +kernel), fun ⟨_, h⟩ => by cases h⟩
  | stops x => exact ⟨fun h => absurd (show ("stops" : Str) = "endless" from h) (by decide +kernel), fun ⟨_, h⟩ => by cases h⟩
  | ring i => exact ⟨fun _ => ⟨i, rfl⟩, fun _ => rfl⟩
theorem kept_last {vs : List Int} {acc : List Rnd} : ((keptTo vs acc acc.length).map tupI)[acc.length]? = some (tupI (valsAt vs acc acc.length)) := by
  unfold keptTo
  rw [List.map_map, List.getElem?_map, List.getElem?_range (Nat.lt_succ_self _)]
  rfl
end
section
variable {P : Program} {w : World} {K : PySem.W.Frag} {mg : Str → Option Value} {base : Heap} {aR CP CU CS CN : Addr}
abbrev s_result_at : Stmt := top 50
abbrev N_result_at : List Str := ["program", "number", "how", "_", "kept"]
theorem sc_result_at : FnScope N_result_at ["program", "number"] (defScope s_result_at) := ⟨rfl, rfl, rfl, by decide +kernel, rfl, by decide +kernel, by decide +kernel⟩
/-- the way of x through the program at p is known -/
def WayOk (P : Program) (w : World) (CP : Addr) (H : Hp) (p : Addr) (x : Int) (b : Int) (d1 d2 d3 : PyData) (gs : List Int) (R : Res) (acc : List Rnd) : Prop :=
  ∃ n m0, ProgOk P w CP H p b d1 d2 d3 (.tuple (gs.map PyData.int)) ∧ Md x ∧ ((itemsD d2).map nmOf)[0]? = some m0 ∧ Path b d2 d3 n m0 x [] R acc ∧ acc.length ≤ 1000 ∧ WalkSm (firstsD d1) acc
theorem WayOk.same {H H' : Hp} {p : Addr} {x b : Int} {d1 d2 d3 : PyData} {gs : List Int} {R : Res} {acc : List Rnd} (h : WayOk P w CP H p x b d1 d2 d3 gs R acc) (s : Same H H') : WayOk P w CP H' p x b d1 d2 d3 gs R acc := by
  obtain ⟨n, m0, PK, r⟩ := h
  exact ⟨n, m0, PK.same s, r⟩
def spResultAt (P : Program) (w : World) (CP : Addr) : Sp := fun vs H Q _ => ∃ p x b d1 d2 d3 gs R acc, vs = [.ref p, .int x] ∧ WayOk P w CP H p x b d1 d2 d3 gs R acc ∧ ∀ u H', Same H H' → Dt Z0 H' u (resV R d1 gs acc) → Q u H'
theorem ok_result_at (h : Has K mg "result_at" s_result_at ["program", "number"]) (O_walk : Ok P w K mg base 7 "walk" ["program", "number"] (spWalk P w CP)) (O_result_of : Ok P w K mg base 3 "result_of" ["program", "registers"] (spResultOf P w CP)) :
    Ok P w K mg base 8 "result_at" ["program", "number"] (spResultAt P w CP) := by
  obtain ⟨f, fd, g, b, F⟩ := h
  refine ⟨f, fd, g, F.kp, b, F.ok sc_result_at (fun vs H Q E h => ?_) (fun cdv A outer s H vs Q E hr h => ?_)⟩
  · obtain ⟨p, x, b, d1, d2, d3, gs, R, acc, rfl, _⟩ := h
    rfl
  · obtain ⟨p, x, b, d1, d2, d3, gs, R, acc, rfl, ⟨n, m0, PK, mx, em0, pa, few, ws⟩, q⟩ := h
    have PO := PK.2.1
    have AO := pa.all PO.modesOk (fun r hr => by cases hr)
    refine ⟨_, (pss_cons (ps_asg (pe_cO O_walk (hr.mono (by decide)) pass0 rfl (pa_cons (pv 0) (pa_cons (pv 1) pa_nil))) (pgT (n := 5) (by rfl) (pgs_cons (pg_name (i := 2) sc_result_at.nd rfl (.inl rfl)) (pgs_cons (pg_name (i := 3) sc_result_at.nd rfl (.inl rfl)) (pgs_cons (pg_name (i := 3) sc_result_at.nd rfl (.inl rfl)) (pgs_cons (pg_name (i := 4) sc_result_at.nd rfl (.inl rfl)) (pgs_cons (pg_name (i := 3) sc_result_at.nd rfl (.inl rfl)) pgs_nil)))))))
      (pss_one (ps_ret (pe_ifExp (pt_cmpR op_eq (pv 2) pe_str (nomark _)) pe_non (pe_cO O_result_of (hr.mono (by decide)) pass0 rfl (pa_cons (pv 0) (pa_cons (pe_ix ixl (pv 4) (pe_un un_neg pe_int) (fun _ _ => rfl)) pa_nil))))))), ?_⟩
    refine ⟨_, rfl, _, rfl, p, x, b, d1, d2, d3, _, n, R, acc, m0, rfl, PK, mx, em0, pa, few, ws, fun u H1 s1 du => ?_⟩
    obtain ⟨a5, xs5, rfl, dx5, h5, _, _⟩ := du.tupOf rfl
    obtain ⟨w0, w1, w2, w3, w4, rfl, g0, g1, g2, g3, g4⟩ := five_dt dx5
    cases g0
    cases g3 with
    | @lst kk ks _ ekk _ dks =>
      refine ⟨a5, _, rfl, h5, rfl, _, _, rfl, _, _, rfl, _, _, rfl, _, _, rfl, _, _, rfl, rfl, ?_⟩
      refine ⟨_, rfl, rfl, _, rfl, ?_⟩
      refine ite2 (fun c => ?_) (fun c => ?_)
      · obtain ⟨i, rfl⟩ := howR_end.mp (of_seq c)
        exact q _ _ s1 .non
      · have c := fun z => of_sne c (howR_end.mpr z)
        have lk : ks.length = acc.length + 1 := by
          rw [dks.len, List.length_map]
          unfold keptTo
          rw [List.length_map, List.length_range]
        have dl := kept_last (vs := firstsD d1) (acc := acc)
        have lv := valsAt_len (vs := firstsD d1) AO (by unfold firstsD; rw [List.length_map]) acc.length (Nat.le_refl _)
        have ek : ks[acc.length]? = some ks[acc.length] := List.getElem?_eq_getElem (by omega)
        obtain ⟨dl', e1, gl⟩ := dks.get ek
        rw [dl] at e1
        cases e1
        obtain ⟨ta, tx, ev, dtx, eta, _, _⟩ := gl.tupOf rfl
        have dtx : DtAll Z0 H1 tx ((valsAt (firstsD d1) acc acc.length).map PyData.int) := dtx
        obtain rfl := dtx.ints_eq
        have many : (itemsD d1).length ≤ 3 := by
          have := (partsD_all PO.regs).2.1
          omega
        have split : ks = ks.take acc.length ++ [V.ref ta] := by
          conv => lhs; rw [← List.take_append_drop acc.length ks]
          rw [List.drop_eq_getElem_cons (by omega), List.drop_eq_nil_of_le (by omega), ev]
        refine ⟨_, rfl, _, rfl, 1, rfl, kk, ks, -1, V.ref ta, rfl, rfl, ekk, ?_, p, ta, b, d1, d2, d3, gs, valsAt (firstsD d1) acc acc.length, rfl, PK.same s1, eta, ws _ (Nat.le_refl _), by omega, fun H2 s2 => ?_⟩
        · rw [split]
          exact atI_last _ _
        · refine q _ H2 (s1.trans s2) ?_
          cases R with
          | ring i => exact absurd ⟨i, rfl⟩ c
          | rests x => exact .int _
          | stops x => exact .int _
end
/-! ### xs[::-1] of a list -/
section
theorem last_of {α : Type} {xs : List α} {n : Nat} (l : xs.length = n + 1) : ∃ ys c, xs = ys ++ [c] ∧ ys.length = n := by
  have h : xs ≠ [] := fun z => by rw [z] at l; cases l
  refine ⟨xs.dropLast, xs.getLast h, (List.dropLast_concat_getLast h).symm, ?_⟩
  rw [List.length_dropLast, l]
  rfl
end
/-! ### signs, words, figures; carry -/
section
def signD (d : PyData) : Bool := betw d (-1) 1 && !(match d with | .int i => decide (i = 0) | _ => false)
def wordD (d : PyData) (size : Int) : Bool := isTup d && (itemsD d).all fun x => betw x 0 (size - 1)
def figsD (d : PyData) (size : Int) : Bool := wordD d size && match (itemsD d).getLast? with | some (.int i) => decide (i ≠ 0) | some _ => true | none => true
theorem betw_int {d : PyData} {lo hi : Int} (h : betw d lo hi = true) : ∃ i, d = .int i ∧ lo ≤ i ∧ i ≤ hi := by
  unfold betw at h
  cases d <;> first | cases h | skip
  rename_i i
  simp only [Bool.and_eq_true, decide_eq_true_eq] at h
  exact ⟨i, rfl, h⟩
end
section
variable {P : Program} {w : World} {K : PySem.W.Frag} {mg : Str → Option Value} {base : Heap} {aR CP CU CS CN CB CF : Addr}
abbrev s_is_sign : Stmt := top 22
abbrev N_is_sign : List Str := ["value"]
theorem sc_is_sign : FnScope N_is_sign ["value"] (defScope s_is_sign) := ⟨rfl, rfl, rfl, by decide +kernel, rfl, by decide +kernel, by decide +kernel⟩
def spSignD : Sp := fun vs H Q _ => ∃ v d, vs = [v] ∧ Dt Z0 H v d ∧ Q (.bl (signD d)) H
theorem ok_is_sign (h : Has K mg "is_sign" s_is_sign ["value"]) (O_is_between : Ok P w K mg base 2 "is_between" ["value", "low", "high"] spBetw) : Ok P w K mg base 3 "is_sign" ["value"] spSignD := by
  obtain ⟨f, fd, g, b, F⟩ := h
  refine ⟨f, fd, g, F.kp, b, F.ok sc_is_sign (fun vs H Q E h => ?_) (fun cdv A outer s H vs Q E hr h => ?_)⟩
  · obtain ⟨v, d, rfl, _⟩ := h
    rfl
  · obtain ⟨v, d, rfl, hd, q⟩ := h
    refine ⟨_, (pss_one (ps_ret (pe_and (pe_cO O_is_between (hr.mono (by decide)) pass0 rfl (pa_cons (pv 0) (pa_cons (pe_un un_neg pe_int) (pa_cons pe_int pa_nil)))) (pe_one (pe_cmpR op_ne (pv 0) pe_int (nomark _)))))), ?_⟩
    refine ⟨_, rfl, 1, rfl, v, d, -1, 1, rfl, hd, _, rfl, ?_⟩
    unfold signD at q
    cases e : betw d (-1) 1 with
    | false =>
      rw [e] at q
      exact iteF q
    | true =>
      rw [e] at q
      obtain ⟨i, rfl, _⟩ := betw_int e
      cases hd
      refine iteT ?_
      refine ⟨_, rfl, rfl, ?_⟩
      have e2 : (!decide (V.int i = V.int 0)) = (true && !decide (i = 0)) := by
        by_cases z : i = 0
        · rw [z]; rfl
        · rw [decide_eq_false z, decide_eq_false (fun y => z (by injection y))]; rfl
      rw [e2]
      exact q
abbrev s_is_word : Stmt := top 52
abbrev N_is_word : List Str := ["value", "size", "figure"]
theorem sc_is_word : FnScope N_is_word ["value", "size"] (defScope s_is_word) := ⟨rfl, rfl, rfl, by decide +kernel, rfl, by decide +kernel, by decide +kernel⟩
def spWordD : Sp := fun vs H Q _ => ∃ v d size, vs = [v, .int size] ∧ Dt Z0 H v d ∧ (itemsD d).length ≤ 1000 ∧ ∀ H', Same H H' → Q (.bl (wordD d size)) H'
theorem ok_is_word (h : Has K mg "is_word" s_is_word ["value", "size"]) (T : Txt K mg aR) (O_is_between : Ok P w K mg base 2 "is_between" ["value", "low", "high"] spBetw) : Ok P w K mg base 3 "is_word" ["value", "size"] spWordD := by
  obtain ⟨f, fd, g, b, F⟩ := h
  refine ⟨f, fd, g, F.kp, b, F.ok sc_is_word (fun vs H Q E h => ?_) (fun cdv A outer s H vs Q E hr h => ?_)⟩
  · obtain ⟨v, d, size, rfl, _⟩ := h
    rfl
  · obtain ⟨v, d, size, rfl, hd, few, q⟩ := h
    refine ⟨_, (pss_one (ps_ret (pe_and (pe_callB call_isi (by rfl) T.isinstance bb_isinstance (pa_cons (pv 0) (pa_cons (pe_bltn (v := .ty "tuple") (by rfl) T.tuple bb_tuple rfl) pa_nil))) (pe_one (pe_callB (allT rfl) (by rfl) T.all bb_all (pa_cons (pe_lc (own := [("figure", 2)]) (g := (gName 2)) (tt := tYes) rfl sc_is_word.nd (pi_seq (pv 0)) (blkOk_by (N := N_is_word) (sc := defScope s_is_word) (by decide +kernel)) (fun _ _ _ _ _ => (pg_name (i := 2) sc_is_word.nd rfl (by first | exact Or.inl rfl | exact Or.inr rfl))) (fun _ _ _ _ _ => pts_nil) (fun _ _ _ _ _ => (pe_cO O_is_between (hr.mono (by decide)) pass0 rfl (pa_cons (pv 2) (pa_cons pe_int (pa_cons (pe_op op_sub (pv 1) pe_int) pa_nil)))))) pa_nil)))))), ?_⟩
    refine ⟨_, rfl, _, _, _, _, _, rfl, .ty _, hd.ty, hd.kTup, _, rfl, ?_⟩
    unfold wordD at q
    cases e : isTup d with
    | false =>
      rw [e] at q
      rw [show (tyD d == "tuple") = false from e]
      exact iteF (q _ (Same.refl _))
    | true =>
      rw [e, Bool.true_and] at q
      rw [show (tyD d == "tuple") = true from e]
      refine iteT ?_
      obtain ⟨a, xs, rfl, dx, ha, _, _⟩ := hd.tupOf e
      have hl := dx.len
      refine ⟨_, rfl, a, xs, .tup xs, rfl, .inr rfl, ha, fun J wk D hD => ?_⟩
      refine lc_vals wk Z0 (fun _ => True) ((itemsD d).map fun d => V.bl (betw d 0 (size - 1))) (by simp [hl]) hD id True.intro (fun _ _ _ _ => True.intro) (by rw [hl]; exact Nat.lt_of_le_of_lt few (by decide)) (fun H f => f _ _ ha id) ?_ ?_
      · intro i x k H2 H3 Qk ek f _ _ y z
        obtain ⟨rfl, ex⟩ := y
        rw [List.getElem?_map] at ek
        obtain ⟨di, e1, rfl⟩ := Option.map_eq_some_iff.mp ek
        obtain ⟨d', e2, dt⟩ := dx.get ex
        rw [e1] at e2
        cases e2
        exact ⟨rfl, _, rfl, _, rfl, _, _, rfl, rfl, _, _, _, _, rfl, dt.fr f, z _ Fm.refl True.intro⟩
      · intro H4 f _ hD4
        refine ⟨D, (itemsD d).map fun x => betw x 0 (size - 1), rfl, by rw [hD4, List.map_map]; rfl, ?_⟩
        rw [List.all_map]
        exact q H4 f.same
abbrev s_is_figures : Stmt := top 53
abbrev N_is_figures : List Str := ["value", "size"]
theorem sc_is_figures : FnScope N_is_figures ["value", "size"] (defScope s_is_figures) := ⟨rfl, rfl, rfl, by decide +kernel, rfl, by decide +kernel, by decide +kernel⟩
def spFigsD : Sp := fun vs H Q _ => ∃ v d size, vs = [v, .int size] ∧ Dt Z0 H v d ∧ (itemsD d).length ≤ 1000 ∧ ∀ H', Same H H' → Q (.bl (figsD d size)) H'
theorem ok_is_figures (h : Has K mg "is_figures" s_is_figures ["value", "size"]) (T : Txt K mg aR) (O_is_word : Ok P w K mg base 3 "is_word" ["value", "size"] spWordD) : Ok P w K mg base 4 "is_figures" ["value", "size"] spFigsD := by
  obtain ⟨f, fd, g, b, F⟩ := h
  refine ⟨f, fd, g, F.kp, b, F.ok sc_is_figures (fun vs H Q E h => ?_) (fun cdv A outer s H vs Q E hr h => ?_)⟩
  · obtain ⟨v, d, size, rfl, _⟩ := h
    rfl
  · obtain ⟨v, d, size, rfl, hd, few, q⟩ := h
    refine ⟨_, (pss_one (ps_ret (pe_and (pe_cO O_is_word (hr.mono (by decide)) pass0 rfl (pa_cons (pv 0) (pa_cons (pv 1) pa_nil))) (pe_one (pe_or (pe_cmpR op_eq (pe_callB lenT (by rfl) T.len bb_len (pa_cons (pv 0) pa_nil)) pe_int (nomark _)) (pe_one (pe_cmpR op_ne (pe_ix ixt (pv 0) (pe_un un_neg pe_int) (fun _ _ => rfl)) pe_int (nomark _)))))))), ?_⟩
    refine ⟨_, rfl, _, rfl, v, d, size, rfl, hd, few, fun H1 s1 => ⟨_, rfl, ?_⟩⟩
    unfold figsD at q
    cases e : wordD d size with
    | false =>
      rw [e] at q
      exact iteF (q _ s1)
    | true =>
      rw [e, Bool.true_and] at q
      refine iteT ?_
      have e' := e
      unfold wordD at e'
      rw [Bool.and_eq_true] at e'
      obtain ⟨a, xs, rfl, dx, ha, _, _⟩ := (hd.fr (Fm.of s1)).tupOf e'.1
      have hl := dx.len
      refine ⟨_, rfl, a, xs, rfl, .inr ha, rfl, _, rfl, ?_⟩
      cases k : (itemsD d).getLast? with
      | none =>
        have z : itemsD d = [] := List.getLast?_eq_none_iff.mp k
        rw [z] at hl
        rw [k] at q
        have hl0 : xs.length = 0 := hl
        refine iteP (by rw [hl0]; rfl) ?_
        exact q _ s1
      | some y =>
        rw [k] at q
        obtain ⟨ys, ey⟩ := List.getLast?_eq_some_iff.mp k
        have lp : (itemsD d).length = ys.length + 1 := by rw [ey, List.length_append]; rfl
        have by_ := List.all_eq_true.mp e'.2 y (by rw [ey]; simp)
        obtain ⟨i, rfl, _⟩ := betw_int by_
        refine iteN (by rw [hl, lp]; intro z; have z := of_decide_eq_true z; injection z with z; omega) ?_
        obtain ⟨xs0, vl, rfl, lxs0⟩ := last_of (xs := xs) (n := ys.length) (by rw [hl, lp])
        obtain ⟨dl, edl, gl⟩ := dx.get (i := ys.length) (v := vl) (by rw [← lxs0, List.getElem?_append_right (Nat.le_refl _), Nat.sub_self]; rfl)
        rw [ey, List.getElem?_append_right (Nat.le_refl _), Nat.sub_self] at edl
        have edl : some (PyData.int i) = some dl := edl
        cases edl
        cases gl
        refine ⟨_, rfl, 1, rfl, a, _, -1, _, rfl, rfl, ha, atI_last _ _, rfl, ?_⟩
        have e2 : (!decide (V.int i = V.int 0)) = decide (i ≠ 0) := by
          by_cases z : i = 0
          · rw [z]; rfl
          · rw [decide_eq_true z, decide_eq_false (fun y => z (by injection y))]; rfl
        rw [e2]
        exact q _ s1
end
/-! ### xs[::-1] of a tuple -/
section
open PyProof.Rows hiding St
open PySem
section
variable {prog : Program} {w : World} {A : Around} {E : Value → Shared → Prop} {s : Shared}
theorem rev_adjust (n : Nat) : Builtin.Slice.sliceAdjust none none (-1) (n : Int) = ((n : Int) - 1, -1) := rfl
theorem rev_places (n : Nat) : Builtin.Slice.slicePlaces ((n : Int) - 1) (-1) (-1) = n := by
  unfold Builtin.Slice.slicePlaces
  rw [if_neg (by decide)]
  by_cases h : (n : Int) - 1 > -1
  · rw [if_pos h, show (-(-1 : Int)) = 1 from rfl, Int.ediv_one]
    omega
  · rw [if_neg h]
    omega
theorem rev_pick (xs : Array Value) : ((List.range xs.size).filterMap fun (m : Nat) => xs[(((xs.size : Int) - 1) + (m : Int) * (-1)).toNat]?).toArray = xs.toList.reverse.toArray := by
  congr 1
  refine List.ext_getElem? fun i => ?_
  have e : (List.range xs.size).filterMap (fun (m : Nat) => xs[(((xs.size : Int) - 1) + (m : Int) * (-1)).toNat]?) = (List.range xs.size).map fun m => xs.toList.getD (xs.size - 1 - m) .none := by
    have : ∀ l : List Nat, (∀ m ∈ l, m < xs.size) → l.filterMap (fun (m : Nat) => xs[(((xs.size : Int) - 1) + (m : Int) * (-1)).toNat]?) = l.map fun m => xs.toList.getD (xs.size - 1 - m) .none := by
      intro l
      induction l with
      | nil => intro _; rfl
      | cons m l ih =>
        intro h
        have hm := h m List.mem_cons_self
        have z : (((xs.size : Int) - 1) + (m : Int) * (-1)).toNat = xs.size - 1 - m := by omega
        have lt : xs.size - 1 - m < xs.size := by omega
        rw [List.filterMap_cons, z, Array.getElem?_eq_getElem lt, List.map_cons, ih fun k hk => h k (List.mem_cons_of_mem _ hk)]
        show _ :: _ = _ :: _
        congr 1
        rw [List.getD_eq_getElem?_getD, Array.getElem?_toList, Array.getElem?_eq_getElem lt]
        rfl
    exact this _ fun m hm => List.mem_range.mp hm
  rw [e, List.getElem?_map]
  by_cases hi : i < xs.size
  · rw [List.getElem?_range hi, List.getElem?_reverse (by simpa using hi)]
    have lt : xs.size - 1 - i < xs.size := by omega
    show some (xs.toList.getD _ _) = xs.toList[xs.toList.length - 1 - i]?
    rw [List.getD_eq_getElem?_getD, Array.length_toList, Array.getElem?_toList, Array.getElem?_eq_getElem lt]
    rfl
  · rw [List.getElem?_eq_none (by simpa using hi), List.getElem?_eq_none (by simpa using hi)]
    rfl
theorem rev_applied {sl : Addr} {n : Nat} {tk : Tok} {Q : Int × Int × Nat → Shared → Prop} (hs : s.heap.IsSliceOf sl .none .none (.int (-1) tk)) (h : Q ((n : Int) - 1, -1, n) s) : wpAny (model prog w) A (Builtin.Slice.sliceApplied (.ref sl) (pure (n : Int))) Q E s := by
  obtain ⟨os, hos, _, hds⟩ := id hs
  unfold Builtin.Slice.sliceApplied Builtin.Slice.sliceFields
  refine wpAny_bind (wpAny_bind (wpAny_field hos hds (x := .none) rfl (wpAny_bind (wpAny_field hos hds (x := .none) rfl (wpAny_bind (wpAny_field hos hds (x := .int (-1) tk) rfl (wpAny_pure ?_)))))))
  refine wpAny_bind (slicePart_int ?_)
  show wpAny _ _ (if ((-1 : Int) == 0) = true then _ else _) _ _ s
  rw [if_neg (by decide)]
  refine wpAny_bind (slicePart_none (wpAny_bind (slicePart_none (wpAny_bind (wpAny_pure ?_)))))
  show wpAny _ _ (match Builtin.Slice.sliceAdjust none none (-1) (n : Int) with | (lo, hi) => pure (lo, (-1 : Int), Builtin.Slice.slicePlaces lo hi (-1))) _ _ s
  rw [rev_adjust]
  show wpAny _ _ (pure ((n : Int) - 1, (-1 : Int), Builtin.Slice.slicePlaces ((n : Int) - 1) (-1) (-1))) _ _ s
  rw [rev_places]
  exact wpAny_pure h
theorem rev_tuple {t sl : Addr} {items : Array Value} {tk : Tok} {Q : Value → Shared → Prop} (ht : IsTup s.heap t items) (hs : s.heap.IsSliceOf sl .none .none (.int (-1) tk)) (h : Q (.ref s.heap.objs.size) { s with heap := s.heap.push { cls := .type "tuple", data := .seq items.toList.reverse.toArray } })
    (few : items.size ≤ sizeLine) : wpAny (model prog w) A (getItem (.ref t) (.ref sl)) Q E s := by
  have fits : sizeOk (.seq items.toList.reverse.toArray) := by
    show items.toList.reverse.toArray.size ≤ sizeLine
    simpa using few
  obtain ⟨os, hos, hcs, _⟩ := id hs
  have hTs : s.TypeIs (.ref sl) "slice" := ⟨os, hos, hcs⟩
  unfold getItem
  try with_reducible refine wpAny_holding ?_
  first | refine wpAny_bind (wpAny_pure ?_) | skip
  refine wpAny_bind (wpAny_sequenceKey ht.typeIs (by decide) ?_)
  refine wpAny_bind (wpAny_callSpecial?_slot (name := Str.ofString "__getitem__") ht.typeIs PyProof.Rows.slot_tuple_getitem (wpAny_call_entry PyProof.Rows.slot_tuple_getitem ht.typeIs entry_tuple_getitem ?_ (args_tuple_getitem _ _)))
  show wpAny _ _ (Builtin.Tuple.tupleItemsOf (.ref t) >>= _) _ _ s
  refine wpAny_bind (tupleItemsOf_ ht ?_)
  refine wpAny_bind (wpAny_typeOf hTs ?_)
  rw [if_pos (by decide)]
  refine wpAny_bind (rev_applied hs ?_)
  have no : ¬ ((((items.size : Int) - 1) == 0 && (-1 : Int) == 1 && items.size == items.size) = true) := by
    rw [show ((-1 : Int) == 1) = false from rfl, Bool.and_false, Bool.false_and]
    decide
  show wpAny _ _ (if ((((items.size : Int) - 1) == 0 && (-1 : Int) == 1 && items.size == items.size) = true) then _ else _) _ _ s
  rw [if_neg no, rev_pick]
  first
    | exact wpAny_bind (m := Builtin.Tuple.tupleExact _) (wpAny_newObj_type (wpAny_pure ⟨_, rfl, wpAny_pure h⟩) fits)
    | exact wpAny_bind (m := Builtin.Tuple.tupleExact _) (wpAny_newObj_type (wpAny_bind (wpAny_pure (wpAny_pure ⟨_, rfl, wpAny_pure h⟩))) fits)
    | exact wpAny_bind (wpAny_bind (m := Builtin.Tuple.tupleExact _) (wpAny_newObj_type (wpAny_pure (wpAny_pure ⟨_, rfl, wpAny_pure h⟩)) fits))
    | exact wpAny_bind (wpAny_bind (m := Builtin.Tuple.tupleExact _) (wpAny_newObj_type (wpAny_pure ⟨_, rfl, wpAny_pure h⟩) fits))
end
variable {X : Cx} {e st : Expr} {te ts : TE} {pos p2 : Pos}
def tRevT (te ts : TE) : TE := fun σ H Q => te σ H fun x H1 => ts σ H1 fun y H2 => y = .int (-1) ∧ ∃ a xs, x = .ref a ∧ H2 a = some (.tup xs) ∧ ∀ p, H2 p = none → Q (.ref p) (upd H2 p (.tup xs.reverse))
theorem pe_revT (he : PE X e te) (hst : PE X st ts) : PE X (.Subscript e (.Slice none none (some st) p2) pos) (tRevT te ts) := by
  refine ⟨fun pins s σ H Q I h => Subscript_ (thn (he.run pins s σ H _ I h) fun v s1 hz => ?_)⟩
  obtain ⟨x, H1, I1, r1, q1⟩ := hz
  refine wpAny_Slice ?_
  rw [evalPart_none]
  refine wpAny_pure (wpAny_pure ?_)
  rw [evalPart_some]
  refine thn (hst.run pins s1 σ H1 _ I1 q1) fun u s2 hz => ?_
  obtain ⟨y, H2, I2, r2, rfl, a, xs, rfl, hx, q⟩ := hz
  obtain ⟨tk, rfl⟩ := r2
  cases r1
  have I4 : Inv X pins σ H2 { s2 with heap := s2.heap.push { cls := .type "slice", data := .fields #[.none, .none, .int (-1) tk] } } := I2.kept (t' := s2.toks) fun b ob q => Heap.get?_push_of_some _ q
  obtain ⟨its, r, ht, hz⟩ := I4.tuple (SqT.of (K := X.K) hx)
  have hlen := r.length
  show wpAny (model X.prog X.w) X.A (subscriptTail e (.Slice none none (some st) p2) (.ref a) (.ref s2.heap.objs.size)) (EP X pins σ Q) X.xe { s2 with heap := s2.heap.push { cls := .type "slice", data := .fields #[.none, .none, .int (-1) tk] } }
  refine tail_any (ops := [.ref a, .ref s2.heap.objs.size]) ht.typeIs PyProof.Rows.slot_tuple_getitem.lookup ?_ (by with_unfolding_all rfl)
  refine rev_tuple ht (Heap.IsSliceOf.new ..) ?_ (by rw [List.size_toArray] <;> omega)
  refine ⟨.ref _, _, I4.laid (t' := s2.toks) (o := .tup xs.reverse) (fun b ob q => Heap.get?_push_of_some _ q) (Nat.le_refl _) ?_, rfl, q _ (I4.hok.fresh (Nat.le_refl _))⟩
  exact ⟨by rw [List.length_reverse]; exact hz, its.reverse, r.reverse, IsTup.new _ _⟩
end
/-! ### the number of figures -/
section
def valF (size : Int) (ds : List Int) : Int := ds.foldr (fun d v => v * size + d) 0
def FigsOk (size : Int) (ds : List Int) : Prop := (∀ d ∈ ds, 0 ≤ d ∧ d ≤ size - 1) ∧ ∀ x, ds.getLast? = some x → x ≠ 0
end
/-! ### carry, figures of a number, the number of figures -/
section
/-- values that are figures are a tuple of integers -/
theorem figs_of {d : PyData} {size : Int} (h : figsD d size = true) : ∃ ds : List Int, d = .tuple (ds.map PyData.int) ∧ FigsOk size ds := by
  unfold figsD wordD at h
  simp only [Bool.and_eq_true] at h
  obtain ⟨⟨h1, h2⟩, h3⟩ := h
  have hall : ∀ {xs : List PyData}, (∀ x ∈ xs, betw x 0 (size - 1) = true) → ∃ ds : List Int, xs = ds.map PyData.int ∧ ∀ e ∈ ds, 0 ≤ e ∧ e ≤ size - 1 := by
    intro xs
    induction xs with
    | nil => exact fun _ => ⟨[], rfl, fun e h => (by cases h)⟩
    | cons x xs ih =>
      intro h
      obtain ⟨ds, e1, e2⟩ := ih fun y hy => h y (List.mem_cons_of_mem _ hy)
      obtain ⟨i, rfl, e3⟩ := betw_int (h x List.mem_cons_self)
      refine ⟨i :: ds, by rw [e1]; rfl, fun e he => ?_⟩
      rcases List.mem_cons.mp he with rfl | he
      · exact e3
      · exact e2 e he
  obtain ⟨ds, e1, e2⟩ := hall (List.all_eq_true.mp h2)
  have dt : d = .tuple (itemsD d) := by
    cases d <;> first | rfl | (simp [isTup, tyD] at h1; done)
  refine ⟨ds, by rw [dt, e1], e2, fun x hx z => ?_⟩
  rw [e1, List.getLast?_map, hx] at h3
  subst z
  exact absurd h3 (by decide)
theorem figs_back {size : Int} {ds : List Int} (h : FigsOk size ds) : figsD (.tuple (ds.map PyData.int)) size = true := by
  unfold figsD wordD
  have a : (itemsD (.tuple (ds.map PyData.int))).all (fun x => betw x 0 (size - 1)) = true := by
    refine List.all_eq_true.mpr fun x hx => ?_
    obtain ⟨i, hi, rfl⟩ := List.mem_map.mp hx
    show (decide (0 ≤ i) && decide (i ≤ size - 1)) = true
    obtain ⟨b, c⟩ := h.1 i hi
    rw [decide_eq_true b, decide_eq_true c]
    rfl
  rw [a]
  show (true && true && _) = true
  cases e : ds.getLast? with
  | none =>
    rw [show (itemsD (.tuple (ds.map PyData.int))).getLast? = none by show (ds.map PyData.int).getLast? = none; rw [List.getLast?_map, e]; rfl]
    rfl
  | some i =>
    rw [show (itemsD (.tuple (ds.map PyData.int))).getLast? = some (.int i) by show (ds.map PyData.int).getLast? = _; rw [List.getLast?_map, e]; rfl]
    have := h.2 i e
    show (true && true && decide (i ≠ 0)) = true
    rw [decide_eq_true this]
    rfl
end
section
variable {P : Program} {w : World} {K : PySem.W.Frag} {mg : Str → Option Value} {base : Heap} {aR CP CU CS CN CB CF : Addr}
def NumW (H2 : Hp) (s size : Int) (ds : List Int) (a : Addr) (i k : Nat) (σ : L2.St) (H' : Hp) : Prop := i ≤ ds.length ∧ i + k = ds.length ∧ H' = H2 ∧ ∃ u, σ = [some (.int s), some (.ref a), some (.int size), some (.int (valF size (ds.drop (ds.length - i)))), u]
abbrev s_number_of : Stmt := top 54
abbrev N_number_of : List Str := ["sign", "figures", "size", "total", "figure"]
theorem sc_number_of : FnScope N_number_of ["sign", "figures", "size"] (defScope s_number_of) := ⟨rfl, rfl, rfl, by decide +kernel, rfl, by decide +kernel, by decide +kernel⟩
def spNumberOf (CS CB CF : Addr) : Sp := fun vs H Q E => ∃ v d z dz y dy, vs = [v, z, y] ∧ Dt Z0 H v d ∧ Dt Z0 H z dz ∧ Dt Z0 H y dy ∧ (itemsD dz).length ≤ 1000 ∧ (signD d = false → EX1 CS "value" v E H) ∧ (signD d = true → betw dy 2 10 = false → EX1 CB "value" y E H) ∧
  (∀ size, signD d = true → dy = .int size → 2 ≤ size → size ≤ 10 → figsD dz size = false → EX1 CF "value" z E H) ∧
  ∀ s size ds, d = .int s → (s = 1 ∨ s = -1) → dy = .int size → 2 ≤ size → size ≤ 10 → dz = .tuple (ds.map PyData.int) → FigsOk size ds → (∀ i, Sm (valF size (ds.drop i))) ∧ ∀ H', Same H H' → Q (.int (s * valF size ds)) H'
theorem ok_number_of (h : Has K mg "number_of" s_number_of ["sign", "figures", "size"]) (T : Txt K mg aR) (O_is_sign : Ok P w K mg base 3 "is_sign" ["value"] spSignD) (O_is_between : Ok P w K mg base 2 "is_between" ["value", "low", "high"] spBetw) (O_is_figures : Ok P w K mg base 4 "is_figures" ["value", "size"] spFigsD)
    (X_InvalidSign : XRz P w K mg base "InvalidSign" CS 1 (sp1n "value" CS)) (X_InvalidBase : XRz P w K mg base "InvalidBase" CB 1 (sp1n "value" CB)) (X_InvalidFigures : XRz P w K mg base "InvalidFigures" CF 1 (sp1n "value" CF)) :
    OkX P w K mg base 5 "number_of" ["sign", "figures", "size"] (spNumberOf CS CB CF) := by
  obtain ⟨f, fd, g, b, F⟩ := h
  refine ⟨f, fd, g, F.kp, b, F.okX sc_number_of (fun vs H Q E h => ?_) (fun cdv A outer s H vs Q E hr h => ?_)⟩
  · obtain ⟨v, d, z, dz, y, dy, rfl, _⟩ := h
    rfl
  · obtain ⟨v, d, z, dz, y, dy, rfl, hv, hz, hy, few, q1, q2, q3, q⟩ := h
    refine ⟨_, (pss_cons (ps_if (pt_not (pt_val (pe_cO O_is_sign (hr.mono (by decide)) pass0 rfl (pa_cons (pv 0) pa_nil))))
        (pss_one (ps_raiseN X_InvalidSign (hr.mono (by decide)) rfl (takes_of rfl rfl rfl rfl) rfl (pa_cons (pv 0) pa_nil)))
        pss_nil)
      (pss_cons (ps_if (pt_not (pt_val (pe_cO O_is_between (hr.mono (by decide)) pass0 rfl (pa_cons (pv 2) (pa_cons pe_int (pa_cons pe_int pa_nil))))))
        (pss_one (ps_raiseN X_InvalidBase (hr.mono (by decide)) rfl (takes_of rfl rfl rfl rfl) rfl (pa_cons (pv 2) pa_nil)))
        pss_nil)
      (pss_cons (ps_if (pt_not (pt_val (pe_cO O_is_figures (hr.mono (by decide)) pass0 rfl (pa_cons (pv 1) (pa_cons (pv 2) pa_nil)))))
        (pss_one (ps_raiseN X_InvalidFigures (hr.mono (by decide)) rfl (takes_of rfl rfl rfl rfl) rfl (pa_cons (pv 1) pa_nil)))
        pss_nil)
      (pss_cons (ps_set (i := 3) sc_number_of.nd rfl (.inl rfl) pe_int)
      (pss_cons (ps_for (passes_of rfl) rfl (pi_seq (pe_revT (pv 1) (pe_un un_neg pe_int))) (pg_name (i := 4) sc_number_of.nd rfl (.inl rfl))
        (pss_one (ps_set (i := 3) sc_number_of.nd rfl (.inl rfl) (pe_op op_add (pe_op op_mulS (pv 3) (pv 2)) (pv 4)))))
      (pss_one (ps_ret (pe_op op_mulS (pv 0) (pv 3))))))))), ?_⟩
    refine ⟨_, rfl, v, d, rfl, hv, _, rfl, ite2 (fun c => ?_) (fun c => ?_)⟩
    · refine ⟨_, rfl, rfl, by show 1 ≤ 1000; decide, flies1 (EX1.now (q1 ?_))⟩
      cases e : signD d
      · rfl
      · rw [e] at c
        cases c
    · have c : signD d = true := by
        cases e : signD d
        · rw [e] at c
          exact absurd rfl c
        · rfl
      refine ⟨_, rfl, _, _, _, _, rfl, hy, _, rfl, ite2 (fun c2 => ?_) (fun c2 => ?_)⟩
      · refine ⟨_, rfl, rfl, by show 1 ≤ 1000; decide, flies1 (EX1.now (q2 c ?_))⟩
        cases e : betw dy 2 10
        · rfl
        · rw [e] at c2
          cases c2
      · have c2 : betw dy 2 10 = true := by
          cases e : betw dy 2 10
          · rw [e] at c2
            exact absurd rfl c2
          · rfl
        obtain ⟨size, rfl, b2, b10⟩ := betw_int c2
        cases hy
        refine ⟨_, rfl, _, rfl, z, dz, size, rfl, hz, few, fun H1 s1 => ⟨_, rfl, ite2 (fun c3 => ?_) (fun c3 => ?_)⟩⟩
        · refine ⟨_, rfl, rfl, by show 1 ≤ 1000; decide, flies1 fun dx nd => q3 size c rfl b2 b10 ?_ H1 dx s1 nd⟩
          cases e : figsD dz size
          · rfl
          · rw [e] at c3
            cases c3
        · have c3 : figsD dz size = true := by
            cases e : figsD dz size
            · rw [e] at c3
              exact absurd rfl c3
            · rfl
          obtain ⟨ds, rfl, ok⟩ := figs_of c3
          obtain ⟨s, rfl, hs⟩ : ∃ s, d = .int s ∧ (s = 1 ∨ s = -1) := by
            have c' := c
            unfold signD at c'
            rw [Bool.and_eq_true] at c'
            obtain ⟨i, rfl, i0, i1⟩ := betw_int c'.1
            refine ⟨i, rfl, ?_⟩
            have : (!decide (i = 0)) = true := c'.2
            have : i ≠ 0 := by simpa using this
            omega
          cases hv
          obtain ⟨sm, q⟩ := q s size ds rfl hs rfl b2 b10 rfl ok
          obtain ⟨a, xs, rfl, dx, ea, _, _⟩ := (hz.fr (Fm.of s1)).tupOf rfl
          have dx : DtAll Z0 H1 xs (ds.map PyData.int) := dx
          obtain rfl := dx.ints_eq
          refine ⟨_, rfl, _, rfl, rfl, a, _, rfl, ea, fun p np => ?_⟩
          have s2 := s1.trans (Same.new (o := .tup (ds.map V.int).reverse) np)
          have ep : (upd H1 p (.tup (ds.map V.int).reverse)) p = some (.tup (ds.map V.int).reverse) := upd_same
          generalize upd H1 p (.tup (ds.map V.int).reverse) = H2 at s2 ep ⊢
          refine ⟨p, _, _, rfl, .inr rfl, ep, fun J wk => ?_⟩
          refine ⟨NumW H2 s size ds a, ⟨ds.length, by omega, by omega, rfl, none, by rw [Nat.sub_zero, List.drop_length]; rfl⟩, ?_⟩
          rintro i k σ H3 ⟨hi, ik, rfl, u, rfl⟩
          have ll : ((ds.map V.int).reverse).length = ds.length := by simp
          by_cases ci : i < ds.length
          · refine .inr ⟨wk.goes i _ (by rw [ll]; exact ci) ep, fun σ' H' => ∃ m', m' < k ∧ NumW H3 s size ds a (i + 1) m' σ' H', fun _ _ h => h, fun x H' yl => ?_⟩
            obtain ⟨rfl, ex⟩ := wk.yields i _ x H' (by rw [ll]; exact ci) ep yl
            rw [List.getElem?_reverse (by simpa using ci), List.length_map, List.getElem?_map] at ex
            obtain ⟨dd, e1, rfl⟩ := Option.map_eq_some_iff.mp ex
            have lt := (List.getElem?_eq_some_iff.mp e1).1
            have e1' : ds[ds.length - 1 - i] = dd := (List.getElem?_eq_some_iff.mp e1).2
            have dr : ds.drop (ds.length - (i + 1)) = dd :: ds.drop (ds.length - i) := by
              rw [show ds.length - (i + 1) = ds.length - 1 - i by omega, List.drop_eq_getElem_cons lt, e1', show ds.length - 1 - i + 1 = ds.length - i by omega]
            have bd := ok.1 dd (List.mem_of_getElem? e1)
            refine ⟨_, rfl, _, rfl, _, _, rfl, rfl, ⟨sm _, ⟨by omega, by omega⟩⟩, _, rfl, _, _, rfl, rfl, k - 1, by omega, by omega, by omega, rfl, some (.int dd), ?_⟩
            rw [dr]
            rfl
          · obtain rfl : i = ds.length := by omega
            refine .inl ⟨by have := wk.stops _ ep; rw [ll] at this; exact this, ?_⟩
            refine ⟨_, rfl, _, rfl, _, _, rfl, rfl, ⟨?_, sm _⟩, ?_⟩
            · rcases hs with rfl | rfl <;> exact ⟨by decide, by decide⟩
            · rw [Nat.sub_self]
              exact q _ s2
end
/-! ### check_meant, value_at, word_value -/
section
/-- a value of a way: 0 where it never ends -/
def valR (R : Res) (d1 : PyData) (gs : List Int) (acc : List Rnd) : Int := match R with
  | .ring _ => 0
  | _ => dotI gs (valsAt (firstsD d1) acc acc.length ++ [1])
theorem eqv_nilT {ds : List Int} : PyData.eqv (.tuple (ds.map PyData.int)) (.tuple []) = decide (ds = []) := by
  cases ds with
  | nil => simp [PyData.eqv, PyData.eqvAll]
  | cons d ds => simp [PyData.eqv, PyData.eqvAll]
theorem wordD_ints {dz : PyData} {size : Int} (h : wordD dz size = true) : ∃ ds : List Int, dz = .tuple (ds.map PyData.int) ∧ ∀ e ∈ ds, 0 ≤ e ∧ e ≤ size - 1 := by
  unfold wordD at h
  rw [Bool.and_eq_true] at h
  obtain ⟨h1, h2⟩ := h
  have hall : ∀ {xs : List PyData}, (∀ x ∈ xs, betw x 0 (size - 1) = true) → ∃ ds : List Int, xs = ds.map PyData.int ∧ ∀ e ∈ ds, 0 ≤ e ∧ e ≤ size - 1 := by
    intro xs
    induction xs with
    | nil => exact fun _ => ⟨[], rfl, fun e h => (by cases h)⟩
    | cons x xs ih =>
      intro h
      obtain ⟨ds, e1, e2⟩ := ih fun y hy => h y (List.mem_cons_of_mem _ hy)
      obtain ⟨i, rfl, e3⟩ := betw_int (h x List.mem_cons_self)
      refine ⟨i :: ds, by rw [e1]; rfl, fun e he => ?_⟩
      rcases List.mem_cons.mp he with rfl | he
      · exact e3
      · exact e2 e he
  obtain ⟨ds, e1, e2⟩ := hall (List.all_eq_true.mp h2)
  have dt : dz = .tuple (itemsD dz) := by
    cases dz <;> first | rfl | (simp [isTup, tyD] at h1; done)
  exact ⟨ds, by rw [dt, e1], e2⟩
theorem shp_intsT {xs : List Int} : Shp 1 (.tuple (xs.map PyData.int)) := shp_tup fun d hd => by
  obtain ⟨i, _, rfl⟩ := List.mem_map.mp hd
  exact shp_int
end
section
variable {P : Program} {w : World} {K : PySem.W.Frag} {mg : Str → Option Value} {base : Heap} {aR CP CS CB CF CI : Addr}
abbrev s_check_meant : Stmt := top 56
abbrev N_check_meant : List Str := ["program", "sign"]
theorem sc_check_meant : FnScope N_check_meant ["program", "sign"] (defScope s_check_meant) := ⟨rfl, rfl, rfl, by decide +kernel, rfl, by decide +kernel, by decide +kernel⟩
def spMeant (P : Program) (w : World) (CP CS : Addr) : Sp := fun vs H Q E => ∃ p v d b d1 d2 d3 d4, vs = [.ref p, v] ∧ Dt Z0 H v d ∧ ProgOk P w CP H p b d1 d2 d3 d4 ∧ (signD d = false → EX1 CS "value" v E H) ∧ (signD d = true → Q .non H)
theorem ok_check_meant (h : Has K mg "check_meant" s_check_meant ["program", "sign"]) (T : Txt K mg aR) (C : PCls K mg CP) (kt : PKit K CP) (O_is_sign : Ok P w K mg base 3 "is_sign" ["value"] spSignD) (X_InvalidProgram : XRz P w K mg base "InvalidProgram" CI 1 (sp1n "value" CI)) (X_InvalidSign : XRz P w K mg base "InvalidSign" CS 1 (sp1n "value" CS)) :
    OkX P w K mg base 4 "check_meant" ["program", "sign"] (spMeant P w CP CS) := by
  obtain ⟨f, fd, g, b, F⟩ := h
  refine ⟨f, fd, g, F.kp, b, F.okX sc_check_meant (fun vs H Q E h => ?_) (fun cdv A outer s H vs Q E hr h => ?_)⟩
  · obtain ⟨p, v, d, b, d1, d2, d3, d4, rfl, _⟩ := h
    rfl
  · obtain ⟨p, v, d, b, d1, d2, d3, d4, rfl, hd, PK, q1, q2⟩ := h
    obtain ⟨⟨dx, vr, vm, ve, va, vt, e, _⟩, _⟩ := id PK
    refine ⟨_, (pss_cons (ps_if (pt_not (pt_val (pe_callB call_isi (by rfl) T.isinstance bb_isinstance (pa_cons (pv 0) (pa_cons (pe_glob (v := .ref CP) (by rfl) C.at_ rfl) pa_nil)))))
        (pss_one (ps_raiseN X_InvalidProgram (hr.mono (by decide)) rfl (takes_of rfl rfl rfl rfl) rfl (pa_cons (pv 0) pa_nil)))
        pss_nil)
      (pss_one (ps_if (pt_not (pt_val (pe_cO O_is_sign (hr.mono (by decide)) pass0 rfl (pa_cons (pv 1) pa_nil))))
        (pss_one (ps_raiseN X_InvalidSign (hr.mono (by decide)) rfl (takes_of rfl rfl rfl rfl) rfl (pa_cons (pv 1) pa_nil)))
        pss_nil))), ?_⟩
    refine ⟨_, rfl, _, _, _, _, _, rfl, .own _, .base (.ins e C.cl kt.c1 kt.c2 kt.c3 kt.c4), kt.own, _, rfl, iteN (by decide) ?_⟩
    refine ⟨_, rfl, v, d, rfl, hd, _, rfl, ?_⟩
    cases c : signD d with
    | false => exact iteP rfl ⟨_, rfl, rfl, by show 1 ≤ 1000; decide, flies1 (EX1.now (q1 c))⟩
    | true => exact iteN (by decide) (q2 c)
abbrev s_value_at : Stmt := top 57
abbrev N_value_at : List Str := ["program", "number", "result"]
theorem sc_value_at : FnScope N_value_at ["program", "number"] (defScope s_value_at) := ⟨rfl, rfl, rfl, by decide +kernel, rfl, by decide +kernel, by decide +kernel⟩
def spValueAt (P : Program) (w : World) (CP : Addr) : Sp := fun vs H Q _ => ∃ p x b d1 d2 d3 gs R acc, vs = [.ref p, .int x] ∧ WayOk P w CP H p x b d1 d2 d3 gs R acc ∧ ∀ H', Same H H' → Q (.int (valR R d1 gs acc)) H'
theorem ok_value_at (h : Has K mg "value_at" s_value_at ["program", "number"]) (O_result_at : Ok P w K mg base 8 "result_at" ["program", "number"] (spResultAt P w CP)) : Ok P w K mg base 9 "value_at" ["program", "number"] (spValueAt P w CP) := by
  obtain ⟨f, fd, g, b, F⟩ := h
  refine ⟨f, fd, g, F.kp, b, F.ok sc_value_at (fun vs H Q E h => ?_) (fun cdv A outer s H vs Q E hr h => ?_)⟩
  · obtain ⟨p, x, b, d1, d2, d3, gs, R, acc, rfl, _⟩ := h
    rfl
  · obtain ⟨p, x, b, d1, d2, d3, gs, R, acc, rfl, W, q⟩ := h
    refine ⟨_, (pss_cons (ps_set (i := 2) sc_value_at.nd rfl (.inl rfl) (pe_cO O_result_at (hr.mono (by decide)) pass0 rfl (pa_cons (pv 0) (pa_cons (pv 1) pa_nil))))
      (pss_one (ps_ret (pe_ifExp (pt_cmpR op_isN (pv 2) pe_non (nomark _)) pe_int (pv 2))))), ?_⟩
    refine ⟨_, rfl, _, rfl, p, x, b, d1, d2, d3, gs, R, acc, rfl, W, fun u H1 s1 du => ?_⟩
    refine ⟨_, rfl, rfl, _, rfl, ?_⟩
    cases R with
    | ring i =>
      cases du
      exact iteT (q _ s1)
    | rests y =>
      cases du
      exact iteF ⟨_, rfl, q _ s1⟩
    | stops y =>
      cases du
      exact iteF ⟨_, rfl, q _ s1⟩
abbrev s_word_value : Stmt := top 58
abbrev N_word_value : List Str := ["program", "sign", "word"]
theorem sc_word_value : FnScope N_word_value ["program", "sign", "word"] (defScope s_word_value) := ⟨rfl, rfl, rfl, by decide +kernel, rfl, by decide +kernel, by decide +kernel⟩
def spWordValue (P : Program) (w : World) (CP CS CF : Addr) : Sp := fun vs H Q E => ∃ p v d z dz b d1 d2 d3 d4, vs = [.ref p, v, z] ∧ Dt Z0 H v d ∧ Dt Z0 H z dz ∧ (itemsD dz).length ≤ 1000 ∧ ProgOk P w CP H p b d1 d2 d3 d4 ∧ (signD d = false → EX1 CS "value" v E H) ∧
  (signD d = true → wordD dz (if b < 0 then -b else b) = false → EX1 CF "value" z E H) ∧
  ∀ s ds, d = .int s → (s = 1 ∨ s = -1) → dz = .tuple (ds.map PyData.int) → (∀ e ∈ ds, 0 ≤ e ∧ e ≤ (if b < 0 then -b else b) - 1) → (ds.getLast? = some 0 → ∀ H', Same H H' → Q (.int 0) H') ∧
    (ds.getLast? ≠ some 0 → (∀ i, Sm (valF (if b < 0 then -b else b) (ds.drop i))) ∧ ∃ gs R acc, WayOk P w CP H p (s * valF (if b < 0 then -b else b) ds) b d1 d2 d3 gs R acc ∧ ∀ H', Same H H' → Q (.int (valR R d1 gs acc)) H')
theorem ok_word_value (h : Has K mg "word_value" s_word_value ["program", "sign", "word"]) (T : Txt K mg aR) (C : PCls K mg CP) (pSize : OwnP P w K mg base CP 1 "size" (spPSize P w CP)) (O_check_meant : OkX P w K mg base 4 "check_meant" ["program", "sign"] (spMeant P w CP CS)) (O_is_word : Ok P w K mg base 3 "is_word" ["value", "size"] spWordD)
    (O_value_at : Ok P w K mg base 9 "value_at" ["program", "number"] (spValueAt P w CP)) (O_number_of : OkX P w K mg base 5 "number_of" ["sign", "figures", "size"] (spNumberOf CS CB CF)) (X_InvalidFigures : XRz P w K mg base "InvalidFigures" CF 1 (sp1n "value" CF)) :
    OkX P w K mg base 10 "word_value" ["program", "sign", "word"] (spWordValue P w CP CS CF) := by
  obtain ⟨f, fd, g, b, F⟩ := h
  refine ⟨f, fd, g, F.kp, b, F.okX sc_word_value (fun vs H Q E h => ?_) (fun cdv A outer s H vs Q E hr h => ?_)⟩
  · obtain ⟨p, v, d, z, dz, b, d1, d2, d3, d4, rfl, _⟩ := h
    rfl
  · obtain ⟨p, v, d, z, dz, b, d1, d2, d3, d4, rfl, hd, hz, few, PK, q1, q2, q⟩ := h
    have pE : Passes (L2.CX P w) (cxOf (L2.CX P w) P w K mg base N_word_value "word_value" (defScope s_word_value) f cdv A outer s H E) E := passes_call (takes_of rfl rfl rfl rfl) (fun _ _ _ _ z => z)
    obtain ⟨⟨dx, vr, vm, ve, va, vt, e, _⟩, PO, _⟩ := id PK
    have hb := baseD_abs PO.base
    refine ⟨_, (pss_cons (ps_expr (pe_cX O_check_meant (hr.mono (by decide)) pE rfl (pa_cons (pv 0) (pa_cons (pv 1) pa_nil))))
      (pss_cons (ps_if (pt_not (pt_val (pe_cO O_is_word (hr.mono (by decide)) pass0 rfl (pa_cons (pv 2) (pa_cons (pe_propO (pv 0) C.cl pSize (hr.mono (by decide)) passL) pa_nil)))))
        (pss_one (ps_raiseN X_InvalidFigures (hr.mono (by decide)) rfl (takes_of rfl rfl rfl rfl) rfl (pa_cons (pv 2) pa_nil)))
        pss_nil)
      (pss_cons (ps_if (pt_cmpR (eqD hr.units) (pv 2) (pe_tup pa_nil) (nomark _))
        (pss_one (ps_ret (pe_cO O_value_at (hr.mono (by decide)) pass0 rfl (pa_cons (pv 0) (pa_cons pe_int pa_nil)))))
        pss_nil)
      (pss_one (ps_ret (pe_ifExp (pt_cmpR op_eq (pe_ix ixt (pv 2) (pe_un un_neg pe_int) (fun _ _ => rfl)) pe_int (nomark _)) pe_int (pe_cO O_value_at (hr.mono (by decide)) pass0 rfl (pa_cons (pv 0) (pa_cons (pe_cX O_number_of (hr.mono (by decide)) pE rfl (pa_cons (pv 1) (pa_cons (pv 2) (pa_cons (pe_propO (pv 0) C.cl pSize (hr.mono (by decide)) passL) pa_nil)))) pa_nil))))))))), ?_⟩
    refine ⟨_, rfl, _, rfl, p, v, d, b, d1, d2, d3, d4, rfl, hd, PK, q1, fun c1 => ?_⟩
    refine ⟨_, rfl, _, rfl, p, dx, _, rfl, e, p, b, d1, d2, d3, d4, rfl, PK.1, z, dz, _, rfl, hz, few, fun H1 s1 => ⟨_, rfl, ?_⟩⟩
    cases c2 : wordD dz (if b < 0 then -b else b) with
    | false => exact iteP rfl ⟨_, rfl, rfl, by show 1 ≤ 1000; decide, flies1 fun dx nd => q2 c1 c2 H1 dx s1 nd⟩
    | true =>
      refine iteN (by decide) ?_
      obtain ⟨ds, rfl, hds⟩ := wordD_ints c2
      obtain ⟨s, rfl, hs⟩ : ∃ s, d = .int s ∧ (s = 1 ∨ s = -1) := by
        have c' := c1
        unfold signD at c'
        rw [Bool.and_eq_true] at c'
        obtain ⟨i, rfl, i0, i1⟩ := betw_int c'.1
        refine ⟨i, rfl, ?_⟩
        have : (!decide (i = 0)) = true := c'.2
        have : i ≠ 0 := by simpa using this
        omega
      cases hd
      obtain ⟨qa, qb⟩ := q s ds rfl hs rfl hds
      have hz1 := hz.fr (Fm.of s1)
      have PK1 := PK.same s1
      have e1 := s1 _ _ e
      refine ⟨_, rfl, by show 0 ≤ sizeLine; decide, fun t nt => ?_⟩
      have s2 : Same H1 (upd H1 t (.tup [])) := Same.new nt
      have et : (upd H1 t (.tup [])) t = some (.tup []) := upd_same
      generalize upd H1 t (.tup []) = H2 at s2 et ⊢
      have s02 := s1.trans s2
      have hz2 := hz1.fr (Fm.of s2)
      have PK2 := PK1.same s2
      have e2 := s2 _ _ e1
      refine ⟨.tuple (ds.map PyData.int), .tuple [], Z0, Z0, hz2, .tup et id .nil, shp_intsT.ok, (shp_tup (n := 0) fun d hd => by cases hd).ok, ?_⟩
      rw [eqv_nilT]
      refine ⟨_, rfl, ?_⟩
      by_cases c3 : ds = []
      · subst c3
        refine iteP rfl ?_
        obtain ⟨_, gs, R, acc, W, qv⟩ := qb (by simp)
        have W : WayOk P w CP H p 0 b d1 d2 d3 gs R acc := by
          have := W
          rw [show s * valF (if b < 0 then -b else b) [] = 0 from Int.mul_zero s] at this
          exact this
        have := W
        obtain ⟨n, m0, PK', r⟩ := this
        exact ⟨_, rfl, p, 0, b, d1, d2, d3, gs, R, acc, rfl, W.same s02, fun H3 s3 => qv H3 (s02.trans s3)⟩
      · refine iteN (by simp [c3]) ?_
        obtain ⟨a, xs, rfl, dxs, ea, _, _⟩ := hz2.tupOf rfl
        have dxs : DtAll Z0 H2 xs (ds.map PyData.int) := dxs
        obtain rfl := dxs.ints_eq
        obtain ⟨ys, y, eds⟩ : ∃ ys y, ds = ys ++ [y] := ⟨ds.dropLast, ds.getLast c3, (List.dropLast_concat_getLast c3).symm⟩
        have em : ds.map V.int = ys.map V.int ++ [.int y] := by rw [eds, List.map_append]; rfl
        have gl : ds.getLast? = some y := by rw [eds]; simp
        refine ⟨_, rfl, 1, rfl, a, _, -1, .int y, rfl, rfl, ea, by rw [em]; exact atI_last _ _, rfl, _, rfl, ?_⟩
        refine ite2 (fun c4 => ?_) (fun c4 => ?_)
        · have y0 : y = 0 := by simpa using c4
          exact qa (by rw [gl, y0]) _ s02
        · have y0 : y ≠ 0 := by simpa using c4
          obtain ⟨sm, gs, R, acc, W, qv⟩ := qb (by rw [gl]; simpa using y0)
          have fok : FigsOk (if b < 0 then -b else b) ds := ⟨hds, fun x hx z => by
            rw [gl] at hx
            cases hx
            exact y0 z⟩
          refine ⟨_, rfl, _, rfl, _, rfl, _, rfl, p, dx, _, rfl, e2, p, b, d1, d2, d3, d4, rfl, PK2.1, .int s, .int s, .ref a, _, .int _, .int (if b < 0 then -b else b), rfl, .int _, hz2, .int _, few, (fun z => absurd z (by rw [c1]; simp)), (fun _ z => absurd z ?bb), (fun size _ e1 _ _ z => absurd z ?ff), fun s' size ds' e1 _ e3 _ _ e4 _ => ?_⟩
          case bb =>
            have : betw (.int (if b < 0 then -b else b)) 2 10 = (decide ((2 : Int) ≤ (if b < 0 then -b else b)) && decide ((if b < 0 then -b else b) ≤ (10 : Int))) := rfl
            rw [this]
            simp only [Bool.and_eq_false_iff, decide_eq_false_iff_not, not_or, Classical.not_not]
            split <;> omega
          case ff =>
            injection e1 with e1
            rw [← e1, figs_back fok]
            simp
          · injection e1 with e1
            injection e3 with e3
            injection e4 with e4
            have e4 : ds = ds' := (List.map_inj_right (fun _ _ z => by injection z)).mp e4
            subst e1 e3 e4
            refine ⟨sm, fun H3 s3 => ?_⟩
            exact ⟨p, _, b, d1, d2, d3, gs, R, acc, rfl, W.same (s02.trans s3), fun H4 s4 => qv H4 ((s02.trans s3).trans s4)⟩
end
/-! ### the registers of drawn programs stay of a fair size -/
section
theorem dot_split {fs xs : List Int} {a c d : Int} (l : fs.length = xs.length) : dotI (fs ++ [a, c]) (xs ++ [d, 1]) = c + a * d + dotI fs xs := by
  unfold dotI
  rw [List.zipWith_append l, List.sum_append]
  show _ + (a * d + (c * 1 + 0)) = _
  omega
theorem two_last {α : Type} : ∀ {n : Nat} {fs : List α}, fs.length = n + 2 → ∃ gs a c, fs = gs ++ [a, c] ∧ gs.length = n
  | 0, fs, h => by
    match fs, h with
    | [a, c], _ => exact ⟨[], a, c, rfl, rfl⟩
  | n + 1, fs, h => by
    match fs, h with
    | f :: fs, h =>
      obtain ⟨gs, a, c, rfl, l⟩ := two_last (n := n) (fs := fs) (by rw [List.length_cons] at h; omega)
      exact ⟨f :: gs, a, c, rfl, by rw [List.length_cons, l]⟩
theorem dot_bound {B : Nat} : ∀ {gs xs : List Int}, (∀ x ∈ xs, x.natAbs ≤ B) → (dotI gs xs).natAbs ≤ (gs.map Int.natAbs).sum * B
  | [], xs, _ => by
    unfold dotI
    simp
  | g :: gs, [], _ => by
    unfold dotI
    simp
  | g :: gs, x :: xs, h => by
    have ih := dot_bound (gs := gs) (xs := xs) fun y hy => h y (List.mem_cons_of_mem _ hy)
    have hx := h x List.mem_cons_self
    unfold dotI at ih ⊢
    rw [List.zipWith_cons_cons, List.sum_cons, List.map_cons, List.sum_cons, Nat.add_mul]
    have e : (g * x).natAbs ≤ g.natAbs * B := by
      rw [Int.natAbs_mul]
      exact Nat.mul_le_mul_left _ hx
    have t := Int.natAbs_add_le (g * x) (List.zipWith (fun x1 x2 => x1 * x2) gs xs).sum
    omega
/-- a round of a drawn program -/
def RndSm (many : Nat) (r : Rnd) : Prop := (uOf r).length = many ∧ r.d.natAbs ≤ 9 ∧ ∀ fs ∈ uOf r, fs.length = many + 2 ∧ (∀ f ∈ fs, f.natAbs ≤ 10) ∧ ((fs.take many).map Int.natAbs).sum ≤ 10
theorem vals_bound {many : Nat} {vs : List Int} {acc : List Rnd} (h0 : ∀ v ∈ vs, v.natAbs ≤ 2) (l0 : vs.length = many) (h : ∀ r ∈ acc, RndSm many r) : ∀ i, i ≤ acc.length → (valsAt vs acc i).length = many ∧ ∀ v ∈ valsAt vs acc i, v.natAbs + 12 ≤ 14 * 10 ^ i
  | 0, _ => ⟨l0, fun v hv => by
    have := h0 v hv
    show _ ≤ 14 * 1
    omega⟩
  | i + 1, hi => by
    have e : acc[i]? = some acc[i] := List.getElem?_eq_getElem hi
    obtain ⟨l, b⟩ := vals_bound h0 l0 h i (by omega)
    obtain ⟨r1, r2, r3⟩ := h _ (List.getElem_mem hi)
    rw [valsAt_succ e]
    unfold stepV
    refine ⟨by rw [List.length_map]; exact r1, fun v hv => ?_⟩
    obtain ⟨fs, hf, rfl⟩ := List.mem_map.mp hv
    obtain ⟨lf, cf, sf⟩ := r3 fs hf
    obtain ⟨gs, a, c, rfl, lg⟩ := two_last lf
    rw [List.take_left' lg] at sf
    rw [dot_split (by rw [lg, l])]
    have d := dot_bound (gs := gs) (B := 14 * 10 ^ i - 12) (xs := valsAt vs acc i) fun x hx => by
      have := b x hx
      omega
    have ha := cf a (by simp)
    have hc := cf c (by simp)
    have m1 : (a * acc[i].d).natAbs ≤ 10 * 9 := by
      rw [Int.natAbs_mul]
      exact Nat.mul_le_mul ha r2
    have m2 : (gs.map Int.natAbs).sum * (14 * 10 ^ i - 12) ≤ 10 * (14 * 10 ^ i - 12) := Nat.mul_le_mul_right _ sf
    have p : 10 ^ (i + 1) = 10 * 10 ^ i := by rw [Nat.pow_succ, Nat.mul_comm]
    have g : 1 ≤ 10 ^ i := Nat.pow_pos (by decide)
    rw [p]
    generalize 10 ^ i = N at d m2 g ⊢
    omega
theorem walkSm_of {many : Nat} {vs : List Int} {acc : List Rnd} (h0 : ∀ v ∈ vs, v.natAbs ≤ 2) (l0 : vs.length = many) (h : ∀ r ∈ acc, RndSm many r) (few : acc.length ≤ 130) : WalkSm vs acc := fun i hi v hv => by
  have b := (vals_bound h0 l0 h i hi).2 v hv
  have p : 10 ^ i ≤ 10 ^ 130 := Nat.pow_le_pow_right (by decide) (by omega)
  have q : 14 * (10 : Nat) ^ 130 < 2 ^ 600 := by decide
  have z : v.natAbs < 2 ^ 600 := by omega
  have e : ((2 ^ 600 : Nat) : Int) = (2 : Int) ^ 600 := by norm_cast
  unfold Sm
  rw [← e]
  generalize (2 : Nat) ^ 600 = M at z ⊢
  omega
theorem Drawn.rnd {size b : Int} {many : Nat} {zs : List Str} {regs modes ends goal : List PyData} (h : Drawn size b many zs regs modes ends goal) {m : Str} {x q : Int} {r : Rnd} (st : StepR b (.list modes) m x q r) : RndSm many r := by
  obtain ⟨md, rule, em, er, h5, dv, ero⟩ := st.at_
  have mm : md ∈ modes := List.mem_of_find?_eq_some em
  obtain ⟨i, ei⟩ := List.mem_iff_getElem?.mp mm
  have im := h.modes i md ei
  have s0 := h.s0
  have s1 := h.s1
  have hb := h.b
  have l := dv.lt
  obtain ⟨z, ru, rows, _, rfl, _, rl, _, _⟩ := im
  have mem : r.row ∈ rows := rowFor_mem ero
  obtain ⟨ra, rb, uss, t, erow, _, _, _, _, _, lu, hf⟩ := rl _ mem
  have e : uOf r = uss := uOf_of (by rw [erow]; rfl)
  refine ⟨by rw [e, lu], by omega, fun fs h1 => ?_⟩
  rw [e] at h1
  obtain ⟨f1, f2, f3⟩ := hf fs h1
  exact ⟨f1, fun f h2 => by
    have : -10 ≤ f ∧ f ≤ 10 := f2 f h2
    omega, f3⟩
theorem Path.every {b : Int} {d2 d3 : PyData} {F : Rnd → Prop} (h : ∀ {m x q r}, StepR b d2 m x q r → F r) {n : Nat} {m : Str} {x : Int} {acc : List Rnd} {R : Res} {acc' : List Rnd} (p : Path b d2 d3 n m x acc R acc') : (∀ r ∈ acc, F r) → ∀ r ∈ acc', F r := by
  induction p with
  | rests => exact id
  | ring => exact id
  | stops _ _ st _ =>
    intro a r hr
    rcases List.mem_append.mp hr with hr | hr
    · exact a r hr
    · rw [List.mem_singleton.mp hr]
      exact h st
  | goes _ _ st _ _ ih =>
    refine fun a => ih fun r hr => ?_
    rcases List.mem_append.mp hr with hr | hr
    · exact a r hr
    · rw [List.mem_singleton.mp hr]
      exact h st
/-- the way of a number through a drawn program -/
theorem Drawn.way {size b : Int} {many : Nat} {zs : List Str} {regs modes ends goal : List PyData} (h : Drawn size b many zs regs modes ends goal) {x : Int} (hx : x.natAbs ≤ 10 ^ 32) {m0 : Str} (em : (modes.map nmOf)[0]? = some m0) :
    ∃ n R acc, Path b (.list modes) (.list ends) n m0 x [] R acc ∧ acc.length ≤ 130 ∧ WalkSm (firstsD (.list regs)) acc := by
  have s0 := h.s0
  have hb := h.b
  have MO := h.ok.modesOk
  have lm : modes.length ≤ 4 := by
    have := (partsD_all h.ok.modes).2.1
    exact Int.ofNat_le.mp this
  obtain ⟨n, R, acc, p, l⟩ := path_ex (d3 := .list ends) MO (by omega) 107 m0 x [] (List.mem_of_getElem? em) (by
    have : (10 : Nat) ^ 32 < 2 ^ 107 := by decide
    omega)
  have l : acc.length ≤ 0 + 107 + 3 * modes.length + 1 := l
  refine ⟨n, R, acc, p, by omega, walkSm_of (many := many) (fun v hv => ?_) ?_ (p.every (fun st => h.rnd st) (fun r hr => by cases hr)) (by omega)⟩
  · unfold firstsD at hv
    obtain ⟨d, hd, rfl⟩ := List.mem_map.mp hv
    obtain ⟨i, ei⟩ := List.mem_iff_getElem?.mp (show d ∈ regs from hd)
    obtain ⟨s, c, _, rfl, c1, c2⟩ := h.regs i d ei
    show c.natAbs ≤ 2
    omega
  · unfold firstsD
    rw [List.length_map]
    exact h.lr
end
/-! ### what the law draws: updates -/
section
theorem mem_of_take {α : Type} {xs : List α} {n : Nat} {x : α} (h : x ∈ xs.take n) : x ∈ xs := List.mem_of_mem_take h
/-- the unit row -/
def unitL (many : Nat) (at_ : Int) : List Int := (List.range many).map fun (i : Nat) => if (i : Int) = at_ then (1 : Int) else 0
theorem unitL_len {many : Nat} {at_ : Int} : (unitL many at_).length = many := by
  unfold unitL
  rw [List.length_map, List.length_range]
theorem unitL_mem {many : Nat} {at_ x : Int} (h : x ∈ unitL many at_) : x = 0 ∨ x = 1 := by
  unfold unitL at h
  obtain ⟨i, _, rfl⟩ := List.mem_map.mp h
  split
  · exact .inr rfl
  · exact .inl rfl
theorem sum_scale {c : Int} : ∀ {xs : List Int}, ((xs.map fun z => c * z).map Int.natAbs).sum = c.natAbs * (xs.map Int.natAbs).sum
  | [] => by simp
  | x :: xs => by
    have ih := sum_scale (c := c) (xs := xs)
    rw [List.map_cons, List.map_cons, List.sum_cons, ih, List.map_cons, List.sum_cons, Int.natAbs_mul, Nat.mul_add]
theorem zero_sum : ∀ {xs : List Nat}, (∀ x ∈ xs, x = 0) → xs.sum = 0
  | [], _ => rfl
  | x :: xs, h => by
    rw [List.sum_cons, h x List.mem_cons_self, zero_sum fun y hy => h y (List.mem_cons_of_mem _ hy)]
theorem unit_sum {at_ : Int} : ∀ (xs : List Nat), xs.Nodup → ((xs.map fun (i : Nat) => if (i : Int) = at_ then (1 : Int) else 0).map Int.natAbs).sum ≤ 1
  | [], _ => by simp
  | x :: xs, h => by
    rw [List.nodup_cons] at h
    have ih := unit_sum (at_ := at_) xs h.2
    rw [List.map_cons, List.map_cons, List.sum_cons]
    by_cases c : (x : Int) = at_
    · rw [if_pos c]
      have z : ((xs.map fun (i : Nat) => if (i : Int) = at_ then (1 : Int) else 0).map Int.natAbs).sum = 0 := by
        refine zero_sum fun y hy => ?_
        obtain ⟨w, hw, rfl⟩ := List.mem_map.mp hy
        obtain ⟨i, hi, rfl⟩ := List.mem_map.mp hw
        rw [if_neg (fun e => h.1 (by
          have : i = x := by omega
          rw [← this]
          exact hi))]
        rfl
      rw [z]
      decide
    · rw [if_neg c]
      simpa using ih
theorem unitL_sum {many : Nat} {at_ c : Int} : (((unitL many at_).map fun z => c * z).map Int.natAbs).sum ≤ c.natAbs := by
  rw [sum_scale]
  have := Nat.mul_le_mul_left c.natAbs (unit_sum (at_ := at_) (List.range many) List.nodup_range)
  unfold unitL
  omega
theorem few_sum : ∀ {xs : List Int}, (∀ x ∈ xs, x.natAbs ≤ 2) → (xs.map Int.natAbs).sum ≤ 2 * xs.length
  | [], _ => by simp
  | x :: xs, h => by
    have ih := few_sum fun y hy => h y (List.mem_cons_of_mem _ hy)
    have hx := h x List.mem_cons_self
    rw [List.map_cons, List.sum_cons, List.length_cons]
    omega
theorem Zp.new {H : Hp} {pp D : Addr} (P : PoolAt H pp) (n : H D = none) : ¬ Zp pp D := P.ne n
theorem pool_iS {pp D : Addr} : ∀ (H : Hp) (l : List V), PoolAt H pp → ¬ Zp pp D → PoolAt (upd H D (.lst l)) pp := fun H l P n => P.upd n
theorem Sm.of {i : Int} (a : -1000000 < i) (b : i < 1000000) : Sm i := by
  have h1 : (-(2 : Int) ^ 600) < -1000000 := by decide +kernel
  have h2 : (1000000 : Int) < 2 ^ 600 := by decide +kernel
  exact ⟨by omega, by omega⟩
/-- integers that were drawn -/
theorem drawn_ints {B : Int → Prop} {Z : Addr → Prop} {H : Hp} : ∀ {xs : List V} {ds : List PyData}, DtAll Z H xs ds → (∀ d ∈ ds, ∃ x : Int, d = .int x ∧ B x) → ∃ fs : List Int, xs = fs.map V.int ∧ fs.length = ds.length ∧ ∀ f ∈ fs, B f
  | _, _, .nil, _ => ⟨[], rfl, rfl, fun f hf => by cases hf⟩
  | _, _, .cons a t, h => by
    obtain ⟨fs, e, l, b⟩ := drawn_ints t fun d hd => h d (List.mem_cons_of_mem _ hd)
    obtain ⟨x, rfl, bx⟩ := h _ List.mem_cons_self
    cases a
    refine ⟨x :: fs, by rw [e]; rfl, by rw [List.length_cons, List.length_cons, l], fun f hf => ?_⟩
    rcases List.mem_cons.mp hf with rfl | hf
    · exact bx
    · exact b f hf
/-- an update as it is drawn -/
def UpdL (many : Nat) (fs : List Int) : Prop := fs.length = many + 2 ∧ (∀ x ∈ fs, Co x) ∧ RegsSm many fs
theorem upd_unit {many : Nat} (h : many ≤ 3) {at_ c a b : Int} (hc : 0 ≤ c ∧ c ≤ 10) (ha : Co a) (hb : Co b) : UpdL many (((unitL many at_).map fun z => c * z) ++ [a, b]) := by
  refine ⟨by rw [List.length_append, List.length_map, unitL_len]; rfl, fun x hx => ?_, ?_⟩
  · rcases List.mem_append.mp hx with hx | hx
    · obtain ⟨z, hz, rfl⟩ := List.mem_map.mp hx
      rcases unitL_mem hz with rfl | rfl <;> unfold Co <;> omega
    · simp only [List.mem_cons, List.not_mem_nil, or_false] at hx
      rcases hx with rfl | rfl
      · exact ha
      · exact hb
  · unfold RegsSm
    rw [List.take_left' (by rw [List.length_map, unitL_len])]
    have := unitL_sum (many := many) (at_ := at_) (c := c)
    omega
theorem upd_unit1 {many : Nat} (h : many ≤ 3) {at_ a b : Int} (ha : Co a) (hb : Co b) : UpdL many (unitL many at_ ++ [a, b]) := by
  have := upd_unit h (at_ := at_) (c := 1) ⟨by omega, by omega⟩ ha hb
  have e : (unitL many at_).map (fun z => 1 * z) = unitL many at_ := by
    conv => rhs; rw [← List.map_id (unitL many at_)]
    exact List.map_congr_left fun z _ => Int.one_mul z
  rw [e] at this
  exact this
theorem upd_few {many : Nat} (h : many ≤ 3) {fs : List Int} (l : fs.length = many + 2) (b : ∀ x ∈ fs, x.natAbs ≤ 2) : UpdL many fs := by
  refine ⟨l, fun x hx => ?_, ?_⟩
  · have := b x hx
    unfold Co
    omega
  · unfold RegsSm
    have := few_sum fun x hx => b x (mem_of_take (n := many) hx)
    rw [List.length_take] at this
    omega
end
section
variable {P : Program} {w : World} {K : PySem.W.Frag} {mg : Str → Option Value} {base : Heap} {aR : Addr}
abbrev s__law_update : Stmt := top 63
abbrev N__law_update : List Str := ["_law_pool_here", "_law_at", "_law_many", "_law_size", "_law_alone", "_law_place", "_law_way", "_law_turn", "_law_one"]
theorem sc__law_update : FnScope N__law_update ["_law_pool_here", "_law_at", "_law_many", "_law_size"] (defScope s__law_update) := ⟨rfl, rfl, rfl, by decide +kernel, rfl, by decide +kernel, by decide +kernel⟩
def spUpdate : Sp := fun vs H Q _ => ∃ (pp : Addr) (at_ : Int) (many : Nat) (size : Int), vs = [.ref pp, .int at_, .int many, .int size] ∧ many ≤ 3 ∧ 2 ≤ size ∧ size ≤ 10 ∧ PoolAt H pp ∧
  ∀ p fs H', PoolAt H' pp → Keep pp H H' → H p = none → H' p = some (.tup (fs.map V.int)) → UpdL many fs → Q (.ref p) H'
theorem ok__law_update (h : Has K mg "_law_update" s__law_update ["_law_pool_here", "_law_at", "_law_many", "_law_size"]) (T : Txt K mg aR) (O__law_draw : Ok P w K mg base 1 "_law_draw" ["_law_pool_here", "_law_many"] spDraw) : Ok P w K mg base 2 "_law_update" ["_law_pool_here", "_law_at", "_law_many", "_law_size"] spUpdate := by
  obtain ⟨f, fd, g, b, F⟩ := h
  refine ⟨f, fd, g, F.kp, b, F.ok sc__law_update (fun vs H Q E h => ?_) (fun cdv A outer s H vs Q E hr h => ?_)⟩
  · obtain ⟨pp, at_, many, size, rfl, _⟩ := h
    rfl
  · obtain ⟨pp, at_, many, size, rfl, m3, z2, z10, hP, q⟩ := h
    have fin : ∀ {G4 : Hp} {l5 l6 : Addr} {us : List Int} {a b : Int}, G4 l5 = none → (upd G4 l5 (.lst (us.map V.int ++ [.int a, .int b]))) l6 = none → Keep pp H G4 → PoolAt G4 pp → UpdL many (us ++ [a, b]) → Q (.ref l6) (upd (upd G4 l5 (.lst (us.map V.int ++ [.int a, .int b]))) l6 (.tup (us.map V.int ++ [.int a, .int b]))) := fun {G4 l5 l6 us a b} n5 n6 k P U => by
      have k5 := k.trans (Same.keep (Same.new (o := .lst (us.map V.int ++ [.int a, .int b])) n5))
      have P5 := P.same (Same.new (o := .lst (us.map V.int ++ [.int a, .int b])) n5)
      refine q l6 (us ++ [a, b]) _ (P5.same (Same.new n6)) (k5.trans (Same.keep (Same.new n6))) (k5.free P5 n6) ?_ U
      rw [upd_same, List.map_append]
      rfl
    refine ⟨_, (pss_cons (ps_setLc (i := 4) (own := [("_law_place", 5)]) (g := (gName 5)) (tt := tYes) rfl sc__law_update.nd rfl rfl (sw_true rfl rfl rfl (by decide +kernel)) (pi_range1 (by rfl) T.range (pa_cons (pv 2) pa_nil)) (blkOk_by (N := N__law_update) (sc := defScope s__law_update) (by decide +kernel)) (fun _ _ _ _ _ => (pg_name (i := 5) sc__law_update.nd rfl (by first | exact Or.inl rfl | exact Or.inr rfl))) (fun _ _ _ _ _ => pts_nil) (fun _ _ _ _ _ => (pe_callTy call_int1 (by rfl) T.int bb_int (pa_cons (pe_cmpR op_eq (pv 5) (pv 1) (nomark _)) pa_nil))))
      (pss_cons (ps_set (i := 6) sc__law_update.nd rfl (.inl rfl) (pe_cO O__law_draw (hr.mono (by decide)) pass0 rfl (pa_cons (pv 0) (pa_cons pe_int pa_nil))))
      (pss_cons (ps_if (pt_cmpR op_eq (pv 6) pe_int (nomark _))
        (pss_one (ps_ret (pe_callTy tupT (by rfl) T.tuple bb_tuple (pa_cons (pe_lc (own := [("_law_turn", 7)]) (g := (gName 7)) (tt := tYes) rfl sc__law_update.nd (pi_range1 (by rfl) T.range (pa_cons (pe_op op_add (pv 2) pe_int) pa_nil)) (blkOk_by (N := N__law_update) (sc := defScope s__law_update) (by decide +kernel)) (fun _ _ _ _ _ => (pg_name (i := 7) sc__law_update.nd rfl (by first | exact Or.inl rfl | exact Or.inr rfl))) (fun _ _ _ _ _ => pts_nil) (fun _ _ _ _ _ => (pe_op op_sub (pe_cO O__law_draw (hr.mono (by decide)) pass0 rfl (pa_cons (pv 0) (pa_cons pe_int pa_nil))) pe_int))) pa_nil))))
        pss_nil)
      (pss_cons (ps_if (pt_cmpR op_eq (pv 6) pe_int (nomark _))
        (pss_one (ps_ret (pe_callTy tupT (by rfl) T.tuple bb_tuple (pa_cons (pe_op op_cat (pe_lc (own := [("_law_one", 8)]) (g := (gName 8)) (tt := tYes) rfl sc__law_update.nd (pi_seq (pv 4)) (blkOk_by (N := N__law_update) (sc := defScope s__law_update) (by decide +kernel)) (fun _ _ _ _ _ => (pg_name (i := 8) sc__law_update.nd rfl (by first | exact Or.inl rfl | exact Or.inr rfl))) (fun _ _ _ _ _ => pts_nil) (fun _ _ _ _ _ => (pe_op op_mulS (pv 3) (pv 8)))) (pe_lst (pa_cons pe_int (pa_cons pe_int pa_nil)))) pa_nil))))
        pss_nil)
      (pss_cons (ps_if (pt_cmpR op_eq (pv 6) pe_int (nomark _))
        (pss_one (ps_ret (pe_callTy tupT (by rfl) T.tuple bb_tuple (pa_cons (pe_op op_cat (pe_lc (own := [("_law_place", 5)]) (g := (gName 5)) (tt := tYes) rfl sc__law_update.nd (pi_range1 (by rfl) T.range (pa_cons (pv 2) pa_nil)) (blkOk_by (N := N__law_update) (sc := defScope s__law_update) (by decide +kernel)) (fun _ _ _ _ _ => (pg_name (i := 5) sc__law_update.nd rfl (by first | exact Or.inl rfl | exact Or.inr rfl))) (fun _ _ _ _ _ => pts_nil) (fun _ _ _ _ _ => (pe_callTy call_int1 (by rfl) T.int bb_int (pa_cons (pe_cmpR op_eq (pv 5) pe_int (nomark _)) pa_nil)))) (pe_lst (pa_cons pe_int (pa_cons (pe_op op_sub (pe_cO O__law_draw (hr.mono (by decide)) pass0 rfl (pa_cons (pv 0) (pa_cons pe_int pa_nil))) pe_int) pa_nil)))) pa_nil))))
        pss_nil)
      (pss_one (ps_ret (pe_callTy tupT (by rfl) T.tuple bb_tuple (pa_cons (pe_op op_cat (pv 4) (pe_lst (pa_cons (pe_op op_sub pe_int (pv 6)) (pa_cons (pe_op op_mulS (pe_cO O__law_draw (hr.mono (by decide)) pass0 rfl (pa_cons (pv 0) (pa_cons pe_int pa_nil))) (pe_op op_sub (pv 6) pe_int)) pa_nil)))) pa_nil))))))))), ?_⟩
    refine ⟨_, rfl, many, rfl, by omega, by omega, fun D hD => ?_⟩
    refine lc_vals walk_range Z0 (fun _ => True) ((unitL many at_).map V.int) (by rw [List.length_map, unitL_len]; rfl) hD id True.intro (fun _ _ _ _ => True.intro) (by show many < sizeLine; exact Nat.lt_of_le_of_lt m3 (by decide)) (fun _ _ => True.intro) ?_ ?_
    · intro i y k G0 G' Qk ek f _ _ yy z
      obtain ⟨rfl, rfl⟩ := yy
      unfold unitL at ek
      rw [List.map_map, List.getElem?_map] at ek
      obtain ⟨i2, e1, e2⟩ := Option.map_eq_some_iff.mp ek
      have lt := (List.getElem?_eq_some_iff.mp e1).1
      rw [List.getElem?_range (by simpa using lt)] at e1
      cases e1
      refine ⟨rfl, _, rfl, _, rfl, rfl, .inr ⟨_, rfl, ?_⟩⟩
      have e3 : V.int (if decide (V.int (0 + (i : Int)) = V.int at_) = true then 1 else 0) = k := by
        rw [← e2, Int.zero_add]
        show _ = V.int (if (i : Int) = at_ then 1 else 0)
        by_cases c : (i : Int) = at_
        · rw [if_pos c, c]
          simp
        · rw [if_neg c]
          simp [c]
      exact e3 ▸ z _ Fm.refl True.intro
    · intro G1 f1 _ eD
      refine ⟨_, rfl, pp, 5, rfl, by decide, ⟨by decide, by decide⟩, hP.same f1.same, fun way H2 w0 w1 P2 k2 => ?_⟩
      have s1 := f1.same
      have k02 : Keep pp H H2 := (Same.keep s1).trans k2
      have nDp : D ≠ pp := hP.ne hD
      have eD2 : H2 D = some (.lst ((unitL many at_).map V.int)) := k2 _ _ eD nDp
      refine ⟨_, rfl, rfl, _, rfl, ite2 (fun c => ?_) (fun c => ?_)⟩
      · refine ⟨_, rfl, _, _, rfl, rfl, (many : Int) + 2, rfl, by omega, by omega, fun D2 u2 => ?_⟩
        refine lc_draw walk_range (Zp pp) (fun G => PoolAt G pp) (fun _ d => ∃ x : Int, d = .int x ∧ x.natAbs ≤ 2) u2 (Zp.new P2 u2) P2 pool_iS (by show many + 2 < sizeLine; exact Nat.lt_of_le_of_lt (by omega : _ ≤ 5) (by decide)) (fun _ _ => True.intro) ?_ ?_
        · intro i x G0 G Qk hi f PG ne yy z
          obtain ⟨rfl, rfl⟩ := yy
          refine ⟨rfl, ?_⟩
          refine ⟨_, rfl, pp, 5, rfl, by decide, ⟨by decide, by decide⟩, PG, fun d G' d0 d1 P' k' => ?_⟩
          exact ⟨_, _, rfl, rfl, z _ (.int (d - 2)) G' k'.fr P' (.int _) ⟨d - 2, rfl, by omega⟩⟩
        · intro H7 xs ds f7 P7 eD7 dD7 lds hds
          obtain ⟨fs, rfl, lfs, bfs⟩ := drawn_ints (B := fun x => x.natAbs ≤ 2) dD7 fun d hd => by
            obtain ⟨i, ei⟩ := List.mem_iff_getElem?.mp hd
            exact hds i d ei
          refine ⟨D2, _, rfl, .inl ⟨eD7, fun l nl => ?_⟩⟩
          have s8 : Same H7 (upd H7 l (.tup (fs.map V.int))) := Same.new nl
          have k08 : Keep pp H (upd H7 l (.tup (fs.map V.int))) := (k02.trans f7.keep).trans (Same.keep s8)
          exact q l fs _ (P7.same s8) k08 ((k02.trans f7.keep).free P7 nl) upd_same (upd_few m3 (by rw [lfs, lds]; rfl) bfs)
      · have c0 : way ≠ 0 := of_vne c
        refine ⟨_, rfl, rfl, _, rfl, ite2 (fun c => ?_) (fun c => ?_)⟩
        · refine ⟨_, rfl, D, _, _, rfl, .inl rfl, eD2, fun J wk D3 n3 => ?_⟩
          refine lc_vals wk Z0 (fun _ => True) (((unitL many at_).map fun z => size * z).map V.int) (by rw [List.length_map, List.length_map, List.length_map]) n3 id True.intro (fun _ _ _ _ => True.intro) (by rw [List.length_map, unitL_len]; exact Nat.lt_of_le_of_lt m3 (by decide)) (fun G f => f _ _ eD2 id) ?_ ?_
          · intro i y k G0 G' Qk ek f _ _ yy z
            obtain ⟨rfl, ex⟩ := yy
            rw [List.getElem?_map] at ex
            obtain ⟨u, e1, rfl⟩ := Option.map_eq_some_iff.mp ex
            rw [List.getElem?_map, List.getElem?_map, e1] at ek
            have ek : some (V.int (size * u)) = some k := ek
            cases ek
            have hu := unitL_mem (List.mem_of_getElem? e1)
            exact ⟨rfl, _, rfl, _, rfl, _, _, rfl, rfl, ⟨Sm.of (by omega) (by omega), Sm.of (by omega) (by omega)⟩, z _ Fm.refl True.intro⟩
          · intro G3 f3 _ eD3
            have s3 := f3.same
            refine ⟨by show 2 ≤ sizeLine; decide, fun l4 n4 => ?_⟩
            have s4 : Same G3 (upd G3 l4 (.lst [.int 1, .int 0])) := Same.new n4
            have e4 : (upd G3 l4 (.lst [.int 1, .int 0])) l4 = some (.lst [.int 1, .int 0]) := upd_same
            generalize upd G3 l4 (.lst [.int 1, .int 0]) = G4 at s4 e4 ⊢
            refine ⟨D3, l4, _, _, rfl, rfl, s4 _ _ eD3, e4, by rw [List.length_map, List.length_map, unitL_len]; exact Nat.le_trans (show many + 2 ≤ 5 by omega) (by decide), fun l5 n5 => ?_⟩
            exact ⟨l5, _, rfl, .inl ⟨upd_same, fun l6 n6 => fin n5 n6 ((k02.trans (Same.keep s3)).trans (Same.keep s4)) ((P2.same s3).same s4) (upd_unit m3 ⟨by omega, by omega⟩ ⟨by decide, by decide⟩ ⟨by decide, by decide⟩)⟩⟩
        · have c1 : way ≠ 1 := of_vne c
          refine ⟨_, rfl, rfl, _, rfl, ite2 (fun c => ?_) (fun c => ?_)⟩
          · refine ⟨_, rfl, many, rfl, by omega, by omega, fun D3 n3 => ?_⟩
            refine lc_vals walk_range Z0 (fun _ => True) ((unitL many 0).map V.int) (by rw [List.length_map, unitL_len]; rfl) n3 id True.intro (fun _ _ _ _ => True.intro) (by show many < sizeLine; exact Nat.lt_of_le_of_lt m3 (by decide)) (fun _ _ => True.intro) ?_ ?_
            · intro i y k G0 G' Qk ek f _ _ yy z
              obtain ⟨rfl, rfl⟩ := yy
              unfold unitL at ek
              rw [List.map_map, List.getElem?_map] at ek
              obtain ⟨i2, e1, e2⟩ := Option.map_eq_some_iff.mp ek
              have lt := (List.getElem?_eq_some_iff.mp e1).1
              rw [List.getElem?_range (by simpa using lt)] at e1
              cases e1
              refine ⟨rfl, _, rfl, rfl, .inr ⟨_, rfl, ?_⟩⟩
              have e3 : V.int (if decide (V.int (0 + (i : Int)) = V.int 0) = true then 1 else 0) = k := by
                rw [← e2, Int.zero_add]
                show _ = V.int (if (i : Int) = 0 then 1 else 0)
                by_cases c : (i : Int) = 0
                · rw [if_pos c, c]
                  simp
                · rw [if_neg c]
                  have c' : i ≠ 0 := by omega
                  simp [c']
              exact e3 ▸ z _ Fm.refl True.intro
            · intro G3 f3 _ eD3
              have s3 := f3.same
              have P3 := P2.same s3
              refine ⟨_, rfl, pp, 3, rfl, by decide, ⟨by decide, by decide⟩, P3, fun d G4 d0 d1 P4 k4 => ?_⟩
              have eD4 := k4 _ _ eD3 (P2.ne n3)
              refine ⟨_, _, rfl, rfl, by show 2 ≤ sizeLine; decide, fun l4 n4 => ?_⟩
              have s5 : Same G4 (upd G4 l4 (.lst [.int 0, .int (d - 1)])) := Same.new n4
              have e5 : (upd G4 l4 (.lst [.int 0, .int (d - 1)])) l4 = some (.lst [.int 0, .int (d - 1)]) := upd_same
              refine ⟨D3, l4, _, [.int 0, .int (d - 1)], rfl, rfl, s5 _ _ eD4, e5, by rw [List.length_map, unitL_len]; exact Nat.le_trans (show many + 2 ≤ 5 by omega) (by decide), fun l5 n5 => ?_⟩
              exact ⟨l5, _, rfl, .inl ⟨upd_same, fun l6 n6 => fin n5 n6 (((k02.trans (Same.keep s3)).trans k4).trans (Same.keep s5)) (P4.same s5) (upd_unit1 m3 ⟨by decide, by decide⟩ ⟨by omega, by omega⟩)⟩⟩
          · have c2 : way ≠ 2 := of_vne c
            refine ⟨_, rfl, _, rfl, _, _, rfl, rfl, _, rfl, pp, 2, rfl, by decide, ⟨by decide, by decide⟩, P2, fun d G4 d0 d1 P4 k4 => ?_⟩
            have eD4 := k4 _ _ eD2 nDp
            have dd : d = 0 ∨ d = 1 := by omega
            have ww : way = 3 ∨ way = 4 := by omega
            refine ⟨_, rfl, _, _, rfl, rfl, _, _, rfl, rfl, ⟨Sm.of (by omega) (by omega), Sm.of (by omega) (by omega)⟩, by show 2 ≤ sizeLine; decide, fun l4 n4 => ?_⟩
            have s5 : Same G4 (upd G4 l4 (.lst [.int (4 - way), .int (d * (way - 3))])) := Same.new n4
            have e5 : (upd G4 l4 (.lst [.int (4 - way), .int (d * (way - 3))])) l4 = some (.lst [.int (4 - way), .int (d * (way - 3))]) := upd_same
            refine ⟨D, l4, _, [.int (4 - way), .int (d * (way - 3))], rfl, rfl, s5 _ _ eD4, e5, by rw [List.length_map, unitL_len]; exact Nat.le_trans (show many + 2 ≤ 5 by omega) (by decide), fun l5 n5 => ?_⟩
            exact ⟨l5, _, rfl, .inl ⟨upd_same, fun l6 n6 => fin n5 n6 ((k02.trans k4).trans (Same.keep s5)) (P4.same s5) (upd_unit1 m3 ⟨by omega, by omega⟩ (by
              rcases dd with rfl | rfl <;> rcases ww with rfl | rfl <;> exact ⟨by decide, by decide⟩))⟩⟩
end
theorem room65 {k : Nat} {A : Around} (r : Room k A) : A.units + 65 < cLine := by
  have := r.un
  omega
theorem PoolAt.nep {H : Hp} {pp u : Addr} {xs : List V} (P : PoolAt H pp) (h : H u = some (.tup xs)) : u ≠ pp := fun m => by
  obtain ⟨c, z, _, _, hp⟩ := P
  rw [m, hp] at h
  cases h
theorem pick_sign {v : V} (h : v ∈ [V.non, .int (-1), .int 0, .int 1]) : ∃ a : PyData, NI a ∧ optD a (betw a (-1) 1) = true ∧ ∀ (Z : Addr → Prop) (H : Hp), Dt Z H v a := by
  simp only [List.mem_cons, List.not_mem_nil, or_false] at h
  rcases h with rfl | rfl | rfl | rfl
  · exact ⟨.none, .inl rfl, rfl, fun _ _ => .non⟩
  · exact ⟨.int (-1), .inr ⟨_, rfl⟩, by decide, fun _ _ => .int _⟩
  · exact ⟨.int 0, .inr ⟨_, rfl⟩, by decide, fun _ _ => .int _⟩
  · exact ⟨.int 1, .inr ⟨_, rfl⟩, by decide, fun _ _ => .int _⟩
theorem remD_of {i size : Int} (h1 : 1 - size ≤ i) (h2 : i ≤ size - 1) : optD (.int i) (remD (.int i) size) = true := by
  show (decide (1 - size ≤ i) && decide (i ≤ size - 1)) = true
  rw [decide_eq_true h1, decide_eq_true h2]
  rfl
theorem pick_rem {v : V} {size : Int} (z : 2 ≤ size) (h : v ∈ [V.non, .int 0, .int 1, .int (-1), .int (size - 1), .int (1 - size)]) : ∃ a : PyData, NI a ∧ optD a (remD a size) = true ∧ ∀ (Z : Addr → Prop) (H : Hp), Dt Z H v a := by
  simp only [List.mem_cons, List.not_mem_nil, or_false] at h
  rcases h with rfl | rfl | rfl | rfl | rfl | rfl
  · exact ⟨.none, .inl rfl, rfl, fun _ _ => .non⟩
  all_goals exact ⟨.int _, .inr ⟨_, rfl⟩, remD_of (by omega) (by omega), fun _ _ => .int _⟩
theorem then_dt {v : V} {zs : List Str} (h : v = .non ∨ ∃ z, v = .str z ∧ z ∈ zs) : ∃ t : PyData, (t = .none ∨ ∃ z, t = .str z ∧ z ∈ zs) ∧ ∀ (Z : Addr → Prop) (H : Hp), Dt Z H v t := by
  rcases h with rfl | ⟨z, rfl, m⟩
  · exact ⟨.none, .inl rfl, fun _ _ => .non⟩
  · exact ⟨.str z, .inr ⟨z, rfl, m⟩, fun _ _ => .str z⟩
section
variable {P : Program} {w : World} {K : PySem.W.Frag} {mg : Str → Option Value} {base : Heap} {aR : Addr}
/-- updates that were drawn -/
theorem ups_of {Z : Addr → Prop} {H : Hp} {many : Nat} : ∀ {xs : List V} {ds : List PyData}, DtAll Z H xs ds → (∀ d ∈ ds, ∃ fs : List Int, d = .tuple (fs.map PyData.int) ∧ UpdL many fs) → ∃ (us : List Addr) (uss : List (List Int)), xs = us.map V.ref ∧ UpsAt H us uss ∧ uss.length = ds.length ∧ ∀ fs ∈ uss, UpdL many fs
  | _, _, .nil, _ => ⟨[], [], rfl, ⟨rfl, fun i a r e => nomatch e⟩, rfl, fun f hf => by cases hf⟩
  | _, _, .cons a t, h => by
    obtain ⟨us, uss, e, u, l, b⟩ := ups_of t fun d hd => h d (List.mem_cons_of_mem _ hd)
    obtain ⟨fs, rfl, bx⟩ := h _ List.mem_cons_self
    obtain ⟨p, ys, rfl, dy, ep, _, _⟩ := a.tupOf rfl
    have dy : DtAll Z H ys (fs.map PyData.int) := dy
    obtain rfl := dy.ints_eq
    refine ⟨p :: us, fs :: uss, by rw [e]; rfl, ⟨by rw [List.length_cons, List.length_cons, u.1], fun i ut gs e1 e2 => ?_⟩, by rw [List.length_cons, List.length_cons, l], fun f hf => ?_⟩
    · cases i with
      | zero =>
        cases e1
        cases e2
        exact ep
      | succ i => exact u.2 i ut gs e1 e2
    · rcases List.mem_cons.mp hf with rfl | hf
      · exact bx
      · exact b f hf
/-- the next mode, drawn -/
def thenT (pp l : Addr) (zs : List Str) : TE := fun σ H Q => σ[0]? = some (some (.ref pp)) ∧ σ[3]? = some (some (.ref l)) ∧ PoolAt H pp ∧ H l = some (.lst (zs.map V.str)) ∧ l ≠ pp ∧ 0 < zs.length ∧ zs.length < 1000 ∧ ∀ v H', (v = .non ∨ ∃ z, v = .str z ∧ z ∈ zs) → PoolAt H' pp → Keep pp H H' → Q v H'
abbrev s__law_rows : Stmt := top 64
abbrev N__law_rows : List Str := ["_law_pool_here", "_law_size", "_law_many", "_law_names", "_law_found", "_law_seen", "_law_turn", "_law_key", "_law_lines", "_law_at"]
theorem sc__law_rows : FnScope N__law_rows ["_law_pool_here", "_law_size", "_law_many", "_law_names"] (defScope s__law_rows) := ⟨rfl, rfl, rfl, by decide +kernel, rfl, by decide +kernel, by decide +kernel⟩
def spLRows : Sp := fun vs H Q _ => ∃ (pp l : Addr) (size : Int) (many : Nat) (zs : List Str), vs = [.ref pp, .int size, .int (many : Nat), .ref l] ∧ 2 ≤ size ∧ size ≤ 10 ∧ many ≤ 3 ∧ H l = some (.lst (zs.map V.str)) ∧ l ≠ pp ∧ 0 < zs.length ∧ zs.length < 1000 ∧ PoolAt H pp ∧
  ∀ u rows H', H u = none → PoolAt H' pp → Keep pp H H' → Dt (Zp pp) H' (.ref u) (.list rows) → (∀ r ∈ rows, RowL size many zs r) → rows.length ≤ 4 → wrongRow size many zs rows [] 0 = none → Q (.ref u) H'
theorem ok__law_rows (h : Has K mg "_law_rows" s__law_rows ["_law_pool_here", "_law_size", "_law_many", "_law_names"]) (T : Txt K mg aR) (O__law_draw : Ok P w K mg base 1 "_law_draw" ["_law_pool_here", "_law_many"] spDraw) (O__law_choose : Ok P w K mg base 2 "_law_choose" ["_law_pool_here", "_law_items"] (spChoose K))
    (O__law_update : Ok P w K mg base 2 "_law_update" ["_law_pool_here", "_law_at", "_law_many", "_law_size"] spUpdate) : Ok P w K mg base 4 "_law_rows" ["_law_pool_here", "_law_size", "_law_many", "_law_names"] spLRows := by
  obtain ⟨f, fd, g, b, F⟩ := h
  refine ⟨f, fd, g, F.kp, b, F.ok sc__law_rows (fun vs H Q E h => ?_) (fun cdv A outer s H vs Q E hr h => ?_)⟩
  · obtain ⟨pp, l, size, many, zs, rfl, _⟩ := h
    rfl
  · obtain ⟨pp, l, size, many, zs, rfl, z0, z1, m3, hl, nl, n0, n1, hP, q⟩ := h
    refine ⟨_, (pss_cons (ps_par (by rfl) sc__law_rows.nd (i := 4) (j := 5) rfl rfl (by decide) rfl rfl (pa_cons (pe_lst pa_nil) (pa_cons (pe_lst (pa_cons (pe_tup (pa_cons pe_non (pa_cons pe_non pa_nil))) pa_nil)) pa_nil)) (by rfl))
      (pss_cons (ps_for PassesOwn.never rfl (pi_range1 (by rfl) T.range (pa_cons (pe_cO O__law_draw (hr.mono (by decide)) pass0 rfl (pa_cons (pv 0) (pa_cons pe_int pa_nil))) pa_nil)) (pg_name (i := 6) sc__law_rows.nd rfl (.inl rfl))
        (pss_cons (ps_set (i := 7) sc__law_rows.nd rfl (.inl rfl) (pe_tup (pa_cons (pe_cO O__law_choose (hr.mono (by decide)) pass0 rfl (pa_cons (pv 0) (pa_cons (pe_lst (pa_cons pe_non (pa_cons (pe_un un_neg pe_int) (pa_cons pe_int (pa_cons pe_int pa_nil))))) pa_nil))) (pa_cons (pe_cO O__law_choose (hr.mono (by decide)) pass0 rfl (pa_cons (pv 0) (pa_cons (pe_lst (pa_cons pe_non (pa_cons pe_int (pa_cons pe_int (pa_cons (pe_un un_neg pe_int) (pa_cons (pe_op op_sub (pv 1) pe_int) (pa_cons (pe_op op_sub pe_int (pv 1)) pa_nil))))))) pa_nil))) pa_nil))))
        (pss_one (ps_if (pt_cmpR (op_notInD (room65 hr)) (pv 7) (pv 5) (by rfl))
          (pss_cons (ps_expr (pe_bm PySem.F.plainAttrs_list PySem.F.slot_list_append PySem.F.type_list_append mt_append (pv 5) (pa_cons (pv 7) pa_nil)))
          (pss_cons (ps_set (i := 8) sc__law_rows.nd rfl (.inl rfl) (pe_callTy tupT (by rfl) T.tuple bb_tuple (pa_cons (pe_lc (own := [("_law_at", 9)]) (g := (gName 9)) (tt := tYes) rfl sc__law_rows.nd (pi_range1 (by rfl) T.range (pa_cons (pv 2) pa_nil)) (blkOk_by (N := N__law_rows) (sc := defScope s__law_rows) (by decide +kernel)) (fun _ _ _ _ _ => (pg_name (i := 9) sc__law_rows.nd rfl (by first | exact Or.inl rfl | exact Or.inr rfl))) (fun _ _ _ _ _ => pts_nil) (fun _ _ _ _ _ => (pe_cO O__law_update (hr.mono (by decide)) pass0 rfl (pa_cons (pv 0) (pa_cons (pv 9) (pa_cons (pv 2) (pa_cons (pv 1) pa_nil))))))) pa_nil)))
          (pss_one (ps_expr (pe_bm PySem.F.plainAttrs_list PySem.F.slot_list_append PySem.F.type_list_append mt_append (pv 4) (pa_cons (pe_op op_catT (pv 7) (pe_tup (pa_cons (pv 8) (pa_cons (PE.imp (t' := thenT pp l zs) (pe_ifExp (pt_cmpR op_eq (pe_cO O__law_draw (hr.mono (by decide)) pass0 rfl (pa_cons (pv 0) (pa_cons pe_int pa_nil))) pe_int (nomark _)) pe_non (pe_cO O__law_choose (hr.mono (by decide)) pass0 rfl (pa_cons (pv 0) (pa_cons (pv 3) pa_nil)))) (by
      rintro σ H Q ⟨e0, e3, P0, hl, nl, n0, n1, q⟩
      refine ⟨_, e0, pp, 5, rfl, by decide, ⟨by decide, by decide⟩, P0, fun d H1 d0 d1 P1 k1 => ⟨rfl, _, rfl, ite2 (fun c => q .non H1 (.inl rfl) P1 k1) (fun c => ?_)⟩⟩
      refine ⟨_, e0, _, e3, pp, l, zs.map V.str, rfl, SqL.of (k1 _ _ hl nl), nl, by rw [List.length_map]; exact n0, by rw [List.length_map]; omega, P1, fun v H2 hv P2 k2 => ?_⟩
      obtain ⟨z, hz, rfl⟩ := List.mem_map.mp hv
      exact q _ H2 (.inr ⟨z, rfl, hz⟩) P2 (k1.trans k2))) pa_nil)))) pa_nil))))))
          pss_nil))))
      (pss_cons (ps_set (i := 8) sc__law_rows.nd rfl (.inl rfl) (pe_callTy tupT (by rfl) T.tuple bb_tuple (pa_cons (pe_lc (own := [("_law_at", 9)]) (g := (gName 9)) (tt := tYes) rfl sc__law_rows.nd (pi_range1 (by rfl) T.range (pa_cons (pv 2) pa_nil)) (blkOk_by (N := N__law_rows) (sc := defScope s__law_rows) (by decide +kernel)) (fun _ _ _ _ _ => (pg_name (i := 9) sc__law_rows.nd rfl (by first | exact Or.inl rfl | exact Or.inr rfl))) (fun _ _ _ _ _ => pts_nil) (fun _ _ _ _ _ => (pe_cO O__law_update (hr.mono (by decide)) pass0 rfl (pa_cons (pv 0) (pa_cons (pv 9) (pa_cons (pv 2) (pa_cons (pv 1) pa_nil))))))) pa_nil)))
      (pss_one (ps_ret (pe_op op_cat (pv 4) (pe_lst (pa_cons (pe_tup (pa_cons pe_non (pa_cons pe_non (pa_cons (pv 8) (pa_cons (pe_cO O__law_choose (hr.mono (by decide)) pass0 rfl (pa_cons (pv 0) (pa_cons (pv 3) pa_nil))) pa_nil))))) pa_nil)))))))), ?_⟩
    refine ⟨by show 0 ≤ sizeLine; decide, fun D hD => ⟨by show 2 ≤ sizeLine; decide, fun t nt => ⟨by show 1 ≤ sizeLine; decide, fun S nS => ⟨_, _, rfl, ?_⟩⟩⟩⟩
    have s1 : Same H (upd H D (.lst [])) := Same.new hD
    have a1 : (upd H D (.lst [])) D = some (.lst []) := upd_same
    generalize upd H D (.lst []) = H1 at s1 a1 nt nS ⊢
    have s2 : Same H1 (upd H1 t (.tup [.non, .non])) := Same.new nt
    have a2 : (upd H1 t (.tup [.non, .non])) t = some (.tup [.non, .non]) := upd_same
    generalize upd H1 t (.tup [.non, .non]) = H2 at s2 a2 nS ⊢
    have s3 : Same H2 (upd H2 S (.lst [.ref t])) := Same.new nS
    have a3 : (upd H2 S (.lst [.ref t])) S = some (.lst [.ref t]) := upd_same
    generalize upd H2 S (.lst [.ref t]) = H3 at s3 a3 ⊢
    have s03 := (s1.trans s2).trans s3
    have hS : H S = none := (s1.trans s2).free nS
    have neD : D ≠ pp := hP.ne hD
    have neS : S ≠ pp := hP.ne hS
    have neDS : D ≠ S := ne_of_none (s2 _ _ a1) nS
    have netS : t ≠ S := ne_of_none a2 nS
    have netD : t ≠ D := fun m => by rw [m, a1] at nt; cases nt
    have net : t ≠ pp := hP.ne ((s1).free nt)
    have lD : l ≠ D := ne_of_none hl hD
    have lS : l ≠ S := ne_of_none hl hS
    refine ⟨_, rfl, pp, 3, rfl, by decide, ⟨by decide, by decide⟩, hP.same s03, fun d H4 d0 d1 P4 k4 => ?_⟩
    refine ⟨d, rfl, by omega, by omega, for_range (n := d.toNat) (fun i σ H' => Keep pp H H' ∧ PoolAt H' pp ∧ (∃ xs rows ks, H' D = some (.lst xs) ∧ DtAll (Zu (Zu (Zp pp) D) S) H' xs rows ∧ H' S = some (.lst ks) ∧ DtAll (Zu (Zu (Zp pp) D) S) H' ks (nnD :: rows.map keyD) ∧ (∀ r ∈ rows, RowL size many zs r) ∧ (nnD :: rows.map keyD).Nodup ∧ rows.length ≤ i) ∧ ∃ v6 v7 v8 v9 : Option V, σ = [some (.ref pp), some (.int size), some (.int (many : Nat)), some (.ref l), some (.ref D), some (.ref S), v6, v7, v8, v9])
      ⟨(Same.keep s03).trans k4, P4, ⟨[], [], [.ref t], k4 _ _ ((s2.trans s3) _ _ a1) neD, .nil, k4 _ _ a3 neS, .cons (.tup (k4 _ _ (s3 _ _ a2) net) (fun m => by
        rcases m with (m | m) | m
        · exact net m
        · exact netD m
        · exact netS m) (.cons .non (.cons .non .nil))) .nil, (fun r hr => by cases hr), by simp, Nat.zero_le _⟩, none, none, none, none, rfl⟩ ?_ ?_⟩
    · rintro i σ H5 hi ⟨k5, P5, ⟨xs, rows, ks, e1, dx, e2, dk, rl, nd, lr⟩, v6, v7, v8, v9, rfl⟩
      refine ⟨_, rfl, 1, rfl, by show 4 ≤ sizeLine; decide, fun l1 hl1 => ?_⟩
      refine ⟨pp, l1, [.non, .int (-1), .int 0, .int 1], rfl, SqL.of upd_same, P5.ne hl1, by decide, by decide, P5.same (Same.new hl1), fun v0 H6 hv0 P6 k6 => ?_⟩
      have k56 : Keep pp H5 H6 := (Same.keep (Same.new hl1)).trans k6
      refine ⟨_, rfl, 1, rfl, _, rfl, _, _, rfl, rfl, _, rfl, _, _, rfl, rfl, by show 6 ≤ sizeLine; decide, fun l2 hl2 => ?_⟩
      refine ⟨pp, l2, [.non, .int 0, .int 1, .int (-1), .int (size - 1), .int (1 - size)], rfl, SqL.of upd_same, P6.ne hl2, by simp, by simp, P6.same (Same.new hl2), fun v1 H7 hv1 P7 k7 => ?_⟩
      have k57 : Keep pp H5 H7 := k56.trans ((Same.keep (Same.new hl2)).trans k7)
      refine ⟨by show 2 ≤ sizeLine; decide, fun kt nkt => ?_⟩
      obtain ⟨a, na, oa, da⟩ := pick_sign hv0
      obtain ⟨b, nb, ob, db⟩ := pick_rem z0 hv1
      have k58 : Keep pp H5 (upd H7 kt (.tup [v0, v1])) := k57.trans (Same.keep (Same.new nkt))
      have P8 : PoolAt (upd H7 kt (.tup [v0, v1])) pp := P7.same (Same.new nkt)
      have a8 : (upd H7 kt (.tup [v0, v1])) kt = some (.tup [v0, v1]) := upd_same
      have ktD : kt ≠ D := fun m => by rw [m, k57 _ _ e1 neD] at nkt; cases nkt
      have ktS : kt ≠ S := fun m => by rw [m, k57 _ _ e2 neS] at nkt; cases nkt
      have ktp : kt ≠ pp := P7.ne nkt
      have ktZ : ¬ Zu (Zu (Zp pp) D) S kt := fun m => by
        rcases m with (m | m) | m
        · exact ktp m
        · exact ktD m
        · exact ktS m
      show tSeq _ _ _ _ (upd H7 kt (.tup [v0, v1]))
      generalize upd H7 kt (.tup [v0, v1]) = H8 at k58 P8 a8 ⊢
      have fz : ∀ {G G' : Hp}, Keep pp G G' → Fm (Zu (Zu (Zp pp) D) S) G G' := fun k c o e n => k c o e fun m => n (.inl (.inl m))
      have dx8 := DtAll.fr dx (fz k58)
      have dk8 := DtAll.fr dk (fz k58)
      have e18 := k58 _ _ e1 neD
      have e28 := k58 _ _ e2 neS
      have nikk : NIK (.tuple [a, b]) := ⟨a, b, rfl, na, nb⟩
      have shk : ∀ k ∈ nnD :: rows.map keyD, Shp 1 k := fun k hk => by
        rcases List.mem_cons.mp hk with rfl | hk
        · exact NIK.shp ⟨_, _, rfl, .inl rfl, .inl rfl⟩
        · obtain ⟨r, hr, rfl⟩ := List.mem_map.mp hk
          exact (rl r hr).nik.shp
      have nks : ∀ z ∈ nnD :: rows.map keyD, NIK z := fun k hk => by
        rcases List.mem_cons.mp hk with rfl | hk
        · exact ⟨_, _, rfl, .inl rfl, .inl rfl⟩
        · obtain ⟨r, hr, rfl⟩ := List.mem_map.mp hk
          exact (rl r hr).nik
      have dkt : Dt (Zu (Zu (Zp pp) D) S) H8 (.ref kt) (.tuple [a, b]) := .tup a8 ktZ (.cons (da _ _) (.cons (db _ _) .nil))
      refine ⟨_, rfl, _, rfl, .tuple [a, b], nnD :: rows.map keyD, dkt.dp, .lst (SqL.of e28) dk8.dp', nikk.shp.ok, (shp_list shk).ok, _, rfl, ?_⟩
      by_cases c : keyIn (.tuple [a, b]) (nnD :: rows.map keyD) = true
      · refine iteN (by unfold keyIn at c; rw [c]; decide) ?_
        exact ⟨k5.trans k58, P8, ⟨xs, rows, ks, e18, dx8, e28, dk8, rl, nd, Nat.le_succ_of_le lr⟩, _, _, _, _, rfl⟩
      · have c := Bool.eq_false_iff.mpr c
        refine iteP (by unfold keyIn at c; rw [c]; rfl) ?_
        have lks : ks.length = rows.length + 1 := by rw [dk8.len]; simp
        refine ⟨_, rfl, .inl ⟨rfl, _, SqL.of e28⟩, _, rfl, S, _, _, rfl, rfl, e28, by rw [lks]; exact Nat.lt_of_le_of_lt (Nat.succ_le_succ lr) (Nat.lt_of_lt_of_le (by omega : i + 1 < 6) (by decide)), ?_⟩
        have f9 : Fm (Zu (Zu (Zp pp) D) S) H8 (upd H8 S (.lst (ks ++ [.ref kt]))) := fun c o e n => by rw [upd_ne (fun m => n (.inr m))]; exact e
        have e29 : (upd H8 S (.lst (ks ++ [.ref kt]))) S = some (.lst (ks ++ [.ref kt])) := upd_same
        have P9 := P8.upd (p := S) (o := .lst (ks ++ [.ref kt])) neS
        have k59 : ∀ c o, H5 c = some o → c ≠ pp → c ≠ S → (upd H8 S (.lst (ks ++ [.ref kt]))) c = some o := fun c o e n1 n2 => by rw [upd_ne n2]; exact k58 c o e n1
        have kH9 : Keep pp H (upd H8 S (.lst (ks ++ [.ref kt]))) := (k5.trans k58).off hS
        show tSeq _ _ _ _ (upd H8 S (.lst (ks ++ [.ref kt])))
        generalize upd H8 S (.lst (ks ++ [.ref kt])) = H9 at f9 e29 P9 k59 kH9 ⊢
        have dx9 := DtAll.fr dx8 f9
        have dk9 := DtAll.fr dk8 f9
        have dkt9 := dkt.fr f9
        have e19 := k59 _ _ e1 neD neDS
        refine ⟨_, rfl, many, rfl, by omega, by omega, fun D2 u2 => ?_⟩
        have nz2 : ¬ Zp pp D2 := Zp.new P9 u2
        refine lc_draw walk_range (Zp pp) (fun G => PoolAt G pp) (fun _ d => ∃ fs : List Int, d = .tuple (fs.map PyData.int) ∧ UpdL many fs) u2 nz2 P9 pool_iS (by show many < sizeLine; exact Nat.lt_of_le_of_lt m3 (by decide)) (fun _ _ => True.intro) (fun i x G0 G Qk hi f PG ne yy z => by
          obtain ⟨rfl, rfl⟩ := yy
          refine ⟨rfl, ?_⟩
          refine ⟨_, rfl, _, rfl, _, rfl, _, rfl, pp, _, many, size, rfl, m3, z0, z1, PG, fun p fs G' P' k' np ep U => ?_⟩
          exact z _ (.tuple (fs.map PyData.int)) G' k'.fr P' (.tup ep (fun m => m.elim (P'.nep ep) (ne p np)) (DtAll.ints fs)) ⟨fs, rfl, U⟩) (fun G7 xs7 ds7 f7 P7 eD7 dD7 lds hds => ?_)
        obtain ⟨us, uss, rfl, hus7, lu, hb⟩ := ups_of (many := many) dD7 fun d hd => by
          obtain ⟨i, ei⟩ := List.mem_iff_getElem?.mp hd
          exact hds i d ei
        have lu : uss.length = many := by rw [lu, lds]; rfl
        refine ⟨D2, _, rfl, .inl ⟨eD7, fun u nu => ?_⟩⟩
        have s10 : Same G7 (upd G7 u (.tup (us.map V.ref))) := Same.new nu
        have hu : (upd G7 u (.tup (us.map V.ref))) u = some (.tup (us.map V.ref)) := upd_same
        have P10 := P7.same s10
        have hus := hus7.keep (Same.keep s10) P7
        have k10 : Keep pp H9 (upd G7 u (.tup (us.map V.ref))) := f7.keep.trans (Same.keep s10)
        show tSeq _ _ _ _ (upd G7 u (.tup (us.map V.ref)))
        generalize upd G7 u (.tup (us.map V.ref)) = H10 at hu P10 hus k10 ⊢
        refine ⟨_, rfl, .inl ⟨rfl, _, SqL.of (k10 _ _ e19 neD)⟩, _, rfl, _, rfl, rfl, rfl, P10, (kH9.trans k10) _ _ hl nl, nl, n0, n1, fun v H11 hv P11 k11 => ?_⟩
        refine ⟨by show 2 ≤ sizeLine; decide, fun t2 nt2 => ?_⟩
        obtain ⟨td, ht, dt⟩ := then_dt hv
        have k911 := k10.trans k11
        have s12 : Same H11 (upd H11 t2 (.tup [.ref u, v])) := Same.new nt2
        have a12 : (upd H11 t2 (.tup [.ref u, v])) t2 = some (.tup [.ref u, v]) := upd_same
        have P12 := P11.same s12
        generalize upd H11 t2 (.tup [.ref u, v]) = H12 at s12 a12 P12 ⊢
        have k912 := k911.trans (Same.keep s12)
        have upp : u ≠ pp := P10.nep hu
        have ktk : H12 kt = some (.tup [v0, v1]) := by
          cases dkt9 with
          | tup e _ d =>
            have e8 := f9 _ _ a8 ktZ
            exact k912 _ _ e8 ktp
        refine ⟨kt, t2, [v0, v1], [.ref u, v], rfl, rfl, SqT.of ktk, SqT.of a12, by simp, by show 4 ≤ sizeLine; decide, (fun h => by cases h), fun _ p hp => ?_⟩
        have s13 : Same H12 (upd H12 p (.tup ([v0, v1] ++ [.ref u, v]))) := Same.new hp
        have a13 : (upd H12 p (.tup ([v0, v1] ++ [.ref u, v]))) p = some (.tup [v0, v1, .ref u, v]) := upd_same
        have P13 := P12.same s13
        generalize upd H12 p (.tup ([v0, v1] ++ [.ref u, v])) = H13 at s13 a13 P13 ⊢
        have k913 := k912.trans (Same.keep s13)
        have e113 := k913 _ _ e19 neD
        have e213 := k913 _ _ e29 neS
        have pD : p ≠ D := fun m => by rw [m, k912 _ _ e19 neD] at hp; cases hp
        have pS : p ≠ S := fun m => by rw [m, k912 _ _ e29 neS] at hp; cases hp
        have ppp : p ≠ pp := P12.ne hp
        have lxs : xs.length = rows.length := dx9.len
        refine ⟨D, _, _, rfl, rfl, e113, by rw [lxs]; exact Nat.lt_of_le_of_lt lr (Nat.lt_of_lt_of_le (by omega : i < 6) (by decide)), ?_⟩
        have f14 : Fm (Zu (Zu (Zp pp) D) S) H13 (upd H13 D (.lst (xs ++ [.ref p]))) := fun c o e n => by rw [upd_ne (fun m => n (.inl (.inr m)))]; exact e
        have zz : ∀ {q : Addr}, q ≠ pp → q ≠ D → q ≠ S → ¬ Zu (Zu (Zp pp) D) S q := fun n1 n2 n3 m => by
          rcases m with (m | m) | m
          · exact n1 m
          · exact n2 m
          · exact n3 m
        have hu13 : H13 u = some (.tup (us.map V.ref)) := s13 _ _ (s12 _ _ (k11 _ _ hu upp))
        have tupNe : ∀ {q : Addr} {ys : List V} {zs : List V} {r : Addr}, H13 q = some (.tup ys) → H13 r = some (.lst zs) → q ≠ r := fun g1 g2 m => by rw [m, g2] at g1; cases g1
        have du : Dt (Zu (Zu (Zp pp) D) S) H13 (.ref u) (updsD uss) := by
          refine .tup hu13 (zz upp (tupNe hu13 e113) (tupNe hu13 e213)) ?_
          have hus13 := (hus.keep k11 P10).keep ((Same.keep s12).trans (Same.keep s13)) P11
          refine DtAll.of_get (by rw [List.length_map, List.length_map, hus.1]) fun j v' d' g1 g2 => ?_
          rw [List.getElem?_map] at g1 g2
          obtain ⟨u', g3, rfl⟩ := Option.map_eq_some_iff.mp g1
          obtain ⟨fs, g4, rfl⟩ := Option.map_eq_some_iff.mp g2
          have t' := hus13.2 j u' fs g3 g4
          exact .tup t' (zz (P13.nep t') (tupNe t' e113) (tupNe t' e213)) (DtAll.ints fs)
        have drow : Dt (Zu (Zu (Zp pp) D) S) H13 (.ref p) (.tuple [a, b, updsD uss, td]) := .tup a13 (zz ppp pD pS) (.cons (da _ _) (.cons (db _ _) (.cons du (.cons (dt _ _) .nil))))
        have rlN : RowL size many zs (.tuple [a, b, updsD uss, td]) := ⟨a, b, uss, td, rfl, na, nb, oa, ob, ht, lu, hb⟩
        have newk : PyData.tuple [a, b] ∉ nnD :: rows.map keyD := fun m => by
          have := List.any_eq_false.mp c _ m
          exact this (PySem.SeqAt.eqv_refl _ nikk.shp.1)
        refine ⟨((kH9.trans k913).off hD), P13.upd neD, ⟨xs ++ [.ref p], rows ++ [.tuple [a, b, updsD uss, td]], ks ++ [.ref kt], upd_same, DtAll.append (DtAll.fr (DtAll.fr dx9 (fz k913)) f14) (.cons (drow.fr f14) .nil), ?_, ?_, ?_, ?_, ?_⟩, _, _, _, _, rfl⟩
        · rw [upd_ne (Ne.symm neDS)]
          exact e213
        · rw [List.map_append]
          exact DtAll.append (DtAll.fr (DtAll.fr dk9 (fz k913)) f14) (.cons ((dkt9.fr (fz k913)).fr f14) .nil)
        · intro r hr
          rcases List.mem_append.mp hr with hr | hr
          · exact rl r hr
          · rw [List.mem_singleton.mp hr]
            exact rlN
        · rw [List.map_append, ← List.cons_append]
          exact List.nodup_append.mpr ⟨nd, by simp, fun x hx y hy => by
            rw [List.mem_singleton.mp hy]
            exact fun m => newk (by rw [← show keyD (.tuple [a, b, updsD uss, td]) = .tuple [a, b] from rfl, ← m]; exact hx)⟩
        · rw [List.length_append]
          exact Nat.succ_le_succ lr
    · rintro σ H5 ⟨k5, P5, ⟨xs, rows, ks, e1, dx, e2, dk, rl, nd, lr⟩, v6, v7, v8, v9, rfl⟩
      refine ⟨_, rfl, many, rfl, by omega, by omega, fun D2 u2 => ?_⟩
      have nz2 : ¬ Zp pp D2 := Zp.new P5 u2
      refine lc_draw walk_range (Zp pp) (fun G => PoolAt G pp) (fun _ d => ∃ fs : List Int, d = .tuple (fs.map PyData.int) ∧ UpdL many fs) u2 nz2 P5 pool_iS (by show many < sizeLine; exact Nat.lt_of_le_of_lt m3 (by decide)) (fun _ _ => True.intro) (fun i x G0 G Qk hi f PG ne yy z => by
        obtain ⟨rfl, rfl⟩ := yy
        refine ⟨rfl, ?_⟩
        refine ⟨_, rfl, _, rfl, _, rfl, _, rfl, pp, _, many, size, rfl, m3, z0, z1, PG, fun p fs G' P' k' np ep U => ?_⟩
        exact z _ (.tuple (fs.map PyData.int)) G' k'.fr P' (.tup ep (fun m => m.elim (P'.nep ep) (ne p np)) (DtAll.ints fs)) ⟨fs, rfl, U⟩) (fun G7 xs7 ds7 f7 P7' eD7 dD7 lds hds => ?_)
      obtain ⟨us, uss, rfl, hus7, lu, hb⟩ := ups_of (many := many) dD7 fun d hd => by
        obtain ⟨i, ei⟩ := List.mem_iff_getElem?.mp hd
        exact hds i d ei
      have lu : uss.length = many := by rw [lu, lds]; rfl
      refine ⟨D2, _, rfl, .inl ⟨eD7, fun u nu => ?_⟩⟩
      have s6 : Same G7 (upd G7 u (.tup (us.map V.ref))) := Same.new nu
      have hu : (upd G7 u (.tup (us.map V.ref))) u = some (.tup (us.map V.ref)) := upd_same
      have P6 := P7'.same s6
      have hus := hus7.keep (Same.keep s6) P7'
      have k6 : Keep pp H5 (upd G7 u (.tup (us.map V.ref))) := f7.keep.trans (Same.keep s6)
      generalize upd G7 u (.tup (us.map V.ref)) = H6 at hu P6 hus k6 ⊢
      have hl6 := (k5.trans k6) _ _ hl nl
      refine ⟨_, rfl, _, rfl, _, rfl, _, rfl, pp, l, zs.map V.str, rfl, SqL.of hl6, nl, by rw [List.length_map]; exact n0, by rw [List.length_map]; omega, P6, fun v H7 hv P7 k7 => ?_⟩
      obtain ⟨z, hz, rfl⟩ := List.mem_map.mp hv
      refine ⟨by show 4 ≤ sizeLine; decide, fun p hp => ?_⟩
      have s8 : Same H7 (upd H7 p (.tup [.non, .non, .ref u, .str z])) := Same.new hp
      have a8 : (upd H7 p (.tup [.non, .non, .ref u, .str z])) p = some (.tup [.non, .non, .ref u, .str z]) := upd_same
      have P8 := P7.same s8
      generalize upd H7 p (.tup [.non, .non, .ref u, .str z]) = H8 at s8 a8 P8 ⊢
      have k58 := (k6.trans k7).trans (Same.keep s8)
      have e18 := k58 _ _ e1 neD
      have lxs : xs.length = rows.length := dx.len
      have l4 : rows.length ≤ 3 := by omega
      refine ⟨by show 1 ≤ sizeLine; decide, fun l9 n9 => ?_⟩
      have s9 : Same H8 (upd H8 l9 (.lst [.ref p])) := Same.new n9
      have a9 : (upd H8 l9 (.lst [.ref p])) l9 = some (.lst [.ref p]) := upd_same
      refine ⟨D, l9, _, _, rfl, rfl, s9 _ _ e18, a9, by rw [lxs]; exact Nat.le_trans (Nat.add_le_add_right l4 1) (by decide), fun u2 n2 => ?_⟩
      have s10 : Same (upd H8 l9 (.lst [.ref p])) (upd (upd H8 l9 (.lst [.ref p])) u2 (.lst (xs ++ [.ref p]))) := Same.new n2
      have s810 := s9.trans s10
      have kH : Keep pp H (upd (upd H8 l9 (.lst [.ref p])) u2 (.lst (xs ++ [.ref p]))) := (k5.trans k58).trans (Same.keep s810)
      have P9 := P8.same s9
      have P10 := P9.same s10
      have tupNe : ∀ {q : Addr} {ys : List V} {zs : List V} {r : Addr}, H8 q = some (.tup ys) → H8 r = some (.lst zs) → q ≠ r := fun g1 g2 m => by rw [m, g2] at g1; cases g1
      have upp : u ≠ pp := P6.nep hu
      have hu8 : H8 u = some (.tup (us.map V.ref)) := s8 _ _ (k7 _ _ hu upp)
      have hus8 := (hus.keep k7 P6).keep (Same.keep s8) P7
      have du : Dt (Zu (Zp pp) D) H8 (.ref u) (updsD uss) := by
        refine .tup hu8 (fun m => m.elim upp (tupNe hu8 e18)) ?_
        refine DtAll.of_get (by rw [List.length_map, List.length_map, hus.1]) fun j v' d' g1 g2 => ?_
        rw [List.getElem?_map] at g1 g2
        obtain ⟨u', g3, rfl⟩ := Option.map_eq_some_iff.mp g1
        obtain ⟨fs, g4, rfl⟩ := Option.map_eq_some_iff.mp g2
        have t' := hus8.2 j u' fs g3 g4
        exact .tup t' (fun m => m.elim (P8.nep t') (tupNe t' e18)) (DtAll.ints fs)
      have drow : Dt (Zu (Zp pp) D) H8 (.ref p) (.tuple [.none, .none, updsD uss, .str z]) := .tup a8 (fun m => m.elim (P8.nep a8) (tupNe a8 e18)) (.cons .non (.cons .non (.cons du (.cons (.str z) .nil))))
      have rlN : RowL size many zs (.tuple [.none, .none, updsD uss, .str z]) := ⟨.none, .none, uss, .str z, rfl, .inl rfl, .inl rfl, rfl, rfl, .inr ⟨z, rfl, hz⟩, lu, hb⟩
      have fz : Fm (Zu (Zp pp) D) H5 H8 := fun c o e n => k58 c o e fun m => n (.inl m)
      have dxs : DtAll (Zu (Zp pp) D) H5 xs rows := dx.mono' fun _ m => .inl m
      have h2 : H u2 = none := ((k5.trans k58).trans (Same.keep s9)).free P9 n2
      refine q u2 (rows ++ [.tuple [.none, .none, updsD uss, .str z]]) _ h2 P10 kH (.lst upd_same (P9.ne n2) (((DtAll.append (dxs.fr fz) (.cons drow .nil)).fr (Fm.of s810)).mono' fun _ m => .inl m)) ?_ ?_ (rows_wrong rl rlN rfl nd)
      · intro r hr
        rcases List.mem_append.mp hr with hr | hr
        · exact rl r hr
        · rw [List.mem_singleton.mp hr]
          exact rlN
      · rw [List.length_append]
        show rows.length + 1 ≤ 4
        omega
end
/-! ### _law_built -/
section
def rowB (base part : Int) : PyData := .tuple [.none, .int part, updsD [[1, part, 0, 0], [0, base, 0, 0]], .str "m"]
def rowE (base : Int) : PyData := .tuple [.none, .none, updsD [[1, 0, 0, 0], [0, base, 0, 0]], .str "m"]
theorem ups_built {base part : Int} (hb : -10 ≤ base ∧ base ≤ 10) (hp : -9 ≤ part ∧ part ≤ 9) : ∀ fs ∈ [[1, part, 0, 0], [0, base, 0, 0]], UpdL 2 fs := fun fs hf => by
  simp only [List.mem_cons, List.not_mem_nil, or_false] at hf
  rcases hf with rfl | rfl
  · refine ⟨rfl, fun x hx => ?_, ?_⟩
    · simp only [List.mem_cons, List.not_mem_nil, or_false] at hx
      rcases hx with rfl | rfl | rfl | rfl <;> unfold Co <;> omega
    · show 1 + (part.natAbs + 0) ≤ 10
      omega
  · refine ⟨rfl, fun x hx => ?_, ?_⟩
    · simp only [List.mem_cons, List.not_mem_nil, or_false] at hx
      rcases hx with rfl | rfl | rfl | rfl <;> unfold Co <;> omega
    · show 0 + (base.natAbs + 0) ≤ 10
      omega
theorem rowB_ok {size base part : Int} (z : size ≤ 10) (hb : -10 ≤ base ∧ base ≤ 10) (h1 : 1 - size ≤ part) (h2 : part ≤ size - 1) : RowL size 2 ["m"] (rowB base part) :=
  ⟨.none, .int part, _, .str "m", rfl, .inl rfl, .inr ⟨_, rfl⟩, rfl, remD_of h1 h2, .inr ⟨"m", rfl, by simp⟩, rfl, ups_built hb (by omega)⟩
theorem rowE_ok {size base : Int} (hb : -10 ≤ base ∧ base ≤ 10) : RowL size 2 ["m"] (rowE base) :=
  ⟨.none, .none, _, .str "m", rfl, .inl rfl, .inl rfl, rfl, rfl, .inr ⟨"m", rfl, by simp⟩, rfl, ups_built hb (by omega)⟩
theorem built_wrong {size base : Int} {ps : List Int} (z : size ≤ 10) (hb : -10 ≤ base ∧ base ≤ 10) (pw : ps.Pairwise (· < ·)) (h : ∀ p ∈ ps, 1 - size ≤ p ∧ p ≤ size - 1) : wrongRow size 2 ["m"] (ps.map (rowB base) ++ [rowE base]) [] 0 = none := by
  refine rows_wrong (fun r hr => ?_) (rowE_ok hb) rfl ?_
  · obtain ⟨p, hp, rfl⟩ := List.mem_map.mp hr
    exact rowB_ok z hb (h p hp).1 (h p hp).2
  · rw [List.map_map, List.nodup_cons]
    constructor
    · intro m
      obtain ⟨p, _, e⟩ := List.mem_map.mp m
      have e : PyData.tuple [.none, .int p] = .tuple [.none, .none] := e
      injection e with e
      injection e with _ e
      injection e with e _
      cases e
    · unfold List.Nodup
      rw [List.pairwise_map]
      exact pw.imp fun {a b} h e => by
        have e : PyData.tuple [.none, .int a] = .tuple [.none, .int b] := e
        injection e with e
        injection e with _ e
        injection e with e _
        injection e with e
        omega
end
section
variable {P : Program} {w : World} {K : PySem.W.Frag} {mg : Str → Option Value} {base : Heap} {aR : Addr}
abbrev s__law_built : Stmt := top 65
abbrev N__law_built : List Str := ["_law_pool_here", "_law_base", "_law_size", "_law_rows_here", "_law_part"]
theorem sc__law_built : FnScope N__law_built ["_law_pool_here", "_law_base"] (defScope s__law_built) := ⟨rfl, rfl, rfl, by decide +kernel, rfl, by decide +kernel, by decide +kernel⟩
def spBuilt : Sp := fun vs H Q _ => ∃ (pp : Addr) (size b : Int), vs = [.ref pp, .int b] ∧ 2 ≤ size ∧ size ≤ 10 ∧ (b = size ∨ b = -size) ∧
  ∀ u rows H', H u = none → Same H H' → Dt Z0 H' (.ref u) (.list rows) → (∀ r ∈ rows, RowL size 2 ["m"] r) → rows.length ≤ 20 → wrongRow size 2 ["m"] rows [] 0 = none → Q (.ref u) H'
theorem ok__law_built (h : Has K mg "_law_built" s__law_built ["_law_pool_here", "_law_base"]) (T : Txt K mg aR) : Ok P w K mg base 1 "_law_built" ["_law_pool_here", "_law_base"] spBuilt := by
  obtain ⟨f, fd, g, b, F⟩ := h
  refine ⟨f, fd, g, F.kp, b, F.ok sc__law_built (fun vs H Q E h => ?_) (fun cdv A outer s H vs Q E hr h => ?_)⟩
  · obtain ⟨pp, size, b, rfl, _⟩ := h
    rfl
  · obtain ⟨pp, size, b, rfl, z2, z10, hb, q⟩ := h
    have eb : (if b < 0 then -b else b) = size := by
      rcases hb with rfl | rfl
      · rw [if_neg (by omega)]
      · rw [if_pos (by omega)]
        omega
    refine ⟨_, (pss_cons (ps_set (i := 2) sc__law_built.nd rfl (.inl rfl) (pe_callB call_abs (by rfl) T.abs bb_abs (pa_cons (pv 1) pa_nil)))
      (pss_cons (ps_setLc (i := 3) (own := [("_law_part", 4)]) (g := (gName 4)) (tt := _) rfl sc__law_built.nd rfl rfl (sw_true rfl rfl rfl (by decide +kernel)) (pi_range2 (by rfl) T.range (pa_cons (pe_op op_sub pe_int (pv 2)) (pa_cons (pv 2) pa_nil))) (blkOk_by (N := N__law_built) (sc := defScope s__law_built) (by decide +kernel)) (fun _ _ _ _ _ => (pg_name (i := 4) sc__law_built.nd rfl (by first | exact Or.inl rfl | exact Or.inr rfl))) (fun _ _ _ _ _ => (pts_one (pt_cmpR op_ne (pv 4) pe_int (nomark _)))) (fun _ _ _ _ _ => (pe_tup (pa_cons pe_non (pa_cons (pv 4) (pa_cons (pe_tup (pa_cons (pe_tup (pa_cons pe_int (pa_cons (pv 4) (pa_cons pe_int (pa_cons pe_int pa_nil))))) (pa_cons (pe_tup (pa_cons pe_int (pa_cons (pv 1) (pa_cons pe_int (pa_cons pe_int pa_nil))))) pa_nil))) (pa_cons pe_str pa_nil)))))))
      (pss_one (ps_ret (pe_op op_cat (pv 3) (pe_lst (pa_cons (pe_tup (pa_cons pe_non (pa_cons pe_non (pa_cons (pe_tup (pa_cons (pe_tup (pa_cons pe_int (pa_cons pe_int (pa_cons pe_int (pa_cons pe_int pa_nil))))) (pa_cons (pe_tup (pa_cons pe_int (pa_cons (pv 1) (pa_cons pe_int (pa_cons pe_int pa_nil))))) pa_nil))) (pa_cons pe_str pa_nil))))) pa_nil))))))), ?_⟩
    refine ⟨_, rfl, _, rfl, ?_⟩
    rw [eb]
    refine ⟨_, rfl, _, _, rfl, rfl, _, rfl, 1 - size, size, rfl, ⟨by omega, by omega, by omega, by omega⟩, fun D hD => ?_⟩
    refine lc_range (fun i G => (∀ a o, H a = some o → G a = some o) ∧ ∃ (xs : List V) (ps : List Int), G D = some (.lst xs) ∧ DtAll (Zu Z0 D) G xs (ps.map (rowB b)) ∧ ps.Pairwise (· < ·) ∧ (∀ e ∈ ps, 1 - size ≤ e ∧ e < 1 - size + (i : Nat)) ∧ ps.length ≤ i) ⟨Same.new hD, [], [], upd_same, .nil, .nil, (fun e he => by cases he), Nat.le_refl _⟩ ?_ ?_
    · rintro i G hi ⟨kG, xs, ps, hxs, dxs, pw, be, le⟩
      refine ⟨rfl, ?_⟩
      refine ⟨_, rfl, rfl, _, rfl, ite2 (fun c => ?_) (fun c => ?_)⟩
      · refine ⟨_, rfl, _, rfl, by show 4 ≤ sizeLine; decide, fun t1 n1 => ?_⟩
        have s1 : Same G (upd G t1 (.tup [.int 1, .int (1 - size + (i : Nat)), .int 0, .int 0])) := Same.new n1
        have e1 : (upd G t1 (.tup [.int 1, .int (1 - size + (i : Nat)), .int 0, .int 0])) t1 = some (.tup [.int 1, .int (1 - size + (i : Nat)), .int 0, .int 0]) := upd_same
        generalize upd G t1 (.tup [.int 1, .int (1 - size + (i : Nat)), .int 0, .int 0]) = G1 at s1 e1 ⊢
        refine ⟨_, rfl, by show 4 ≤ sizeLine; decide, fun t2 n2 => ?_⟩
        have s2 : Same G1 (upd G1 t2 (.tup [.int 0, .int b, .int 0, .int 0])) := Same.new n2
        have e2 : (upd G1 t2 (.tup [.int 0, .int b, .int 0, .int 0])) t2 = some (.tup [.int 0, .int b, .int 0, .int 0]) := upd_same
        generalize upd G1 t2 (.tup [.int 0, .int b, .int 0, .int 0]) = G2 at s2 e2 ⊢
        refine ⟨by show 2 ≤ sizeLine; decide, fun t3 n3 => ?_⟩
        have s3 : Same G2 (upd G2 t3 (.tup [.ref t1, .ref t2])) := Same.new n3
        have e3 : (upd G2 t3 (.tup [.ref t1, .ref t2])) t3 = some (.tup [.ref t1, .ref t2]) := upd_same
        generalize upd G2 t3 (.tup [.ref t1, .ref t2]) = G3 at s3 e3 ⊢
        refine ⟨by show 4 ≤ sizeLine; decide, fun t4 n4 => ?_⟩
        have s4 : Same G3 (upd G3 t4 (.tup [.non, .int (1 - size + (i : Nat)), .ref t3, .str "m"])) := Same.new n4
        have e4 : (upd G3 t4 (.tup [.non, .int (1 - size + (i : Nat)), .ref t3, .str "m"])) t4 = some (.tup [.non, .int (1 - size + (i : Nat)), .ref t3, .str "m"]) := upd_same
        generalize upd G3 t4 (.tup [.non, .int (1 - size + (i : Nat)), .ref t3, .str "m"]) = G4 at s4 e4 ⊢
        have s04 := ((s1.trans s2).trans s3).trans s4
        have hx4 := s04 _ _ hxs
        have nD : ∀ {q : Addr} {ys : List V}, G4 q = some (.tup ys) → ¬ Zu Z0 D q := fun {q ys} h m => m.elim id fun m => by rw [m, hx4] at h; cases h
        have lx : xs.length = ps.length := by rw [dxs.len, List.length_map]
        refine ⟨xs, hx4, by rw [lx]; exact Nat.lt_of_le_of_lt le (Nat.lt_of_lt_of_le (by omega : i < 20) (by decide)), fun a o ha => ?_, xs ++ [.ref t4], ps ++ [1 - size + (i : Nat)], upd_same, ?_, ?_, ?_, ?_⟩
        · rw [upd_ne (ne_of_none ha hD)]
          exact s04 _ _ (kG _ _ ha)
        · rw [List.map_append]
          have dr : Dt (Zu Z0 D) G4 (.ref t4) (rowB b (1 - size + (i : Nat))) := by
            have a1 := s4 _ _ (s3 _ _ (s2 _ _ e1))
            have a2 := s4 _ _ (s3 _ _ e2)
            have a3 := s4 _ _ e3
            exact .tup e4 (nD e4) (.cons .non (.cons (.int _) (.cons (.tup a3 (nD a3) (.cons (.tup a1 (nD a1) (DtAll.ints [1, 1 - size + (i : Nat), 0, 0])) (.cons (.tup a2 (nD a2) (DtAll.ints [0, b, 0, 0])) .nil))) (.cons (.str _) .nil))))
          exact DtAll.append ((dxs.fr (Fm.of s04)).fr Fm.at_zu) (.cons (dr.fr Fm.at_zu) .nil)
        · refine List.pairwise_append.mpr ⟨pw, by simp, fun a ha b hb => ?_⟩
          rw [List.mem_singleton.mp hb]
          exact (be a ha).2
        · intro e he
          rcases List.mem_append.mp he with he | he
          · have := be e he
            omega
          · rw [List.mem_singleton.mp he]
            omega
        · rw [List.length_append]
          exact Nat.succ_le_succ le
      · exact ⟨kG, xs, ps, hxs, dxs, pw, fun e he => by have := be e he; omega, Nat.le_succ_of_le le⟩
    · rintro G ⟨kG, xs, ps, hxs, dxs, pw, be, le⟩
      refine ⟨_, rfl, by show 4 ≤ sizeLine; decide, fun t1 n1 => ?_⟩
      have s1 : Same G (upd G t1 (.tup [.int 1, .int 0, .int 0, .int 0])) := Same.new n1
      have e1 : (upd G t1 (.tup [.int 1, .int 0, .int 0, .int 0])) t1 = some (.tup [.int 1, .int 0, .int 0, .int 0]) := upd_same
      generalize upd G t1 (.tup [.int 1, .int 0, .int 0, .int 0]) = G1 at s1 e1 ⊢
      refine ⟨_, rfl, by show 4 ≤ sizeLine; decide, fun t2 n2 => ?_⟩
      have s2 : Same G1 (upd G1 t2 (.tup [.int 0, .int b, .int 0, .int 0])) := Same.new n2
      have e2 : (upd G1 t2 (.tup [.int 0, .int b, .int 0, .int 0])) t2 = some (.tup [.int 0, .int b, .int 0, .int 0]) := upd_same
      generalize upd G1 t2 (.tup [.int 0, .int b, .int 0, .int 0]) = G2 at s2 e2 ⊢
      refine ⟨by show 2 ≤ sizeLine; decide, fun t3 n3 => ?_⟩
      have s3 : Same G2 (upd G2 t3 (.tup [.ref t1, .ref t2])) := Same.new n3
      have e3 : (upd G2 t3 (.tup [.ref t1, .ref t2])) t3 = some (.tup [.ref t1, .ref t2]) := upd_same
      generalize upd G2 t3 (.tup [.ref t1, .ref t2]) = G3 at s3 e3 ⊢
      refine ⟨by show 4 ≤ sizeLine; decide, fun t4 n4 => ?_⟩
      have s4 : Same G3 (upd G3 t4 (.tup [.non, .non, .ref t3, .str "m"])) := Same.new n4
      have e4 : (upd G3 t4 (.tup [.non, .non, .ref t3, .str "m"])) t4 = some (.tup [.non, .non, .ref t3, .str "m"]) := upd_same
      generalize upd G3 t4 (.tup [.non, .non, .ref t3, .str "m"]) = G4 at s4 e4 ⊢
      refine ⟨by show 1 ≤ sizeLine; decide, fun l5 n5 => ?_⟩
      have s5 : Same G4 (upd G4 l5 (.lst [.ref t4])) := Same.new n5
      have e5 : (upd G4 l5 (.lst [.ref t4])) l5 = some (.lst [.ref t4]) := upd_same
      generalize upd G4 l5 (.lst [.ref t4]) = G5 at s5 e5 ⊢
      have s05 := (((s1.trans s2).trans s3).trans s4).trans s5
      have lx : xs.length = ps.length := by rw [dxs.len, List.length_map]
      have lp : ps.length ≤ 19 := by omega
      refine ⟨D, l5, xs, [.ref t4], rfl, rfl, s05 _ _ hxs, e5, by rw [lx]; exact Nat.le_trans (Nat.add_le_add_right lp 1) (by decide), fun u nu => ?_⟩
      have s6 : Same G5 (upd G5 u (.lst (xs ++ [.ref t4]))) := Same.new nu
      have sH : Same H (upd G5 u (.lst (xs ++ [.ref t4]))) := fun a o ha => s6 _ _ (s05 _ _ (kG _ _ ha))
      have hu : H u = none := by
        cases c : H u with
        | none => rfl
        | some o =>
          rw [s05 _ _ (kG _ _ c)] at nu
          cases nu
      have hb10 : -10 ≤ b ∧ b ≤ 10 := by rcases hb with rfl | rfl <;> omega
      have bp : ∀ p ∈ ps, 1 - size ≤ p ∧ p ≤ size - 1 := fun p hp => by
        have := be p hp
        omega
      refine q u (ps.map (rowB b) ++ [rowE b]) _ hu sH (.lst upd_same id ?_) (fun r hr => ?_) (by rw [List.length_append, List.length_map]; exact Nat.add_le_add_right lp 1) (built_wrong z10 hb10 pw bp)
      · have d1 : DtAll Z0 G5 xs (ps.map (rowB b)) := (dxs.fr (Fm.of s05)).mono' fun _ m => m.elim
        have dE : Dt Z0 G5 (.ref t4) (rowE b) := by
          have a1 := s5 _ _ (s4 _ _ (s3 _ _ (s2 _ _ e1)))
          have a2 := s5 _ _ (s4 _ _ (s3 _ _ e2))
          have a3 := s5 _ _ (s4 _ _ e3)
          exact .tup (s5 _ _ e4) id (.cons .non (.cons .non (.cons (.tup a3 id (.cons (.tup a1 id (DtAll.ints [1, 0, 0, 0])) (.cons (.tup a2 id (DtAll.ints [0, b, 0, 0])) .nil))) (.cons (.str _) .nil))))
        exact (DtAll.append d1 (.cons dE .nil)).fr (Fm.of s6)
      · rcases List.mem_append.mp hr with hr | hr
        · obtain ⟨p, hp, rfl⟩ := List.mem_map.mp hr
          exact rowB_ok z10 hb10 (bp p hp).1 (bp p hp).2
        · rw [List.mem_singleton.mp hr]
          exact rowE_ok hb10
end
/-! ### what the law draws: parts -/
section
variable {P : Program} {w : World} {K : PySem.W.Frag} {mg : Str → Option Value} {base : Heap} {aR : Addr}
abbrev s__law_parts : Stmt := top 66
abbrev N__law_parts : List Str := ["_law_pool_here", "_law_sizes", "_law_most", "_law_built_here", "_law_size", "_law_base", "_law_rules", "_law_ends", "_law_x", "_law_modes", "_law_many", "_law_names", "_law_starts", "_law_at", "_law_name", "_law_turn"]
theorem sc__law_parts : FnScope N__law_parts ["_law_pool_here", "_law_sizes", "_law_most", "_law_built_here"] (defScope s__law_parts) := ⟨rfl, rfl, rfl, by decide +kernel, rfl, by decide +kernel, by decide +kernel⟩
def spLParts : Sp := fun vs H Q _ => ∃ (pp sl : Addr) (sizes : List Int) (most bu : Int), vs = [.ref pp, .ref sl, .int most, .int bu] ∧ H sl = some (.lst (sizes.map V.int)) ∧ sl ≠ pp ∧ (∀ s ∈ sizes, 2 ≤ s ∧ s ≤ 10) ∧ 0 < sizes.length ∧ sizes.length < 1000 ∧ 1 ≤ most ∧ most ≤ 3 ∧ PoolAt H pp ∧
  ∀ u size b many zs regs modes ends goal H', size ∈ sizes → H u = none → PoolAt H' pp → Keep pp H H' → Drawn size b many zs regs modes ends goal → Dt (Zp pp) H' (.ref u) (.list [.int b, .list regs, .list modes, .list ends, .tuple goal]) → Q (.ref u) H'
theorem ok__law_parts (h : Has K mg "_law_parts" s__law_parts ["_law_pool_here", "_law_sizes", "_law_most", "_law_built_here"]) (T : Txt K mg aR) (O__law_draw : Ok P w K mg base 1 "_law_draw" ["_law_pool_here", "_law_many"] spDraw) (O__law_choose : Ok P w K mg base 2 "_law_choose" ["_law_pool_here", "_law_items"] (spChoose K))
    (O__law_rows : Ok P w K mg base 4 "_law_rows" ["_law_pool_here", "_law_size", "_law_many", "_law_names"] spLRows) (O__law_built : Ok P w K mg base 1 "_law_built" ["_law_pool_here", "_law_base"] spBuilt) : Ok P w K mg base 5 "_law_parts" ["_law_pool_here", "_law_sizes", "_law_most", "_law_built_here"] spLParts := by
  obtain ⟨f, fd, g, b, F⟩ := h
  refine ⟨f, fd, g, F.kp, b, F.ok sc__law_parts (fun vs H Q E h => ?_) (fun cdv A outer s H vs Q E hr h => ?_)⟩
  · obtain ⟨pp, sl, sizes, most, bu, rfl, _⟩ := h
    rfl
  · obtain ⟨pp, sl, sizes, most, bu, rfl, hsl, nsl, hsz, sp0, sp1, mo0, mo1, hP, q⟩ := h
    refine ⟨_, (pss_cons (ps_set (i := 4) sc__law_parts.nd rfl (.inr rfl) (pe_cO O__law_choose (hr.mono (by decide)) pass0 rfl (pa_cons (pv 0) (pa_cons (pv 1) pa_nil))))
      (pss_cons (ps_set (i := 5) sc__law_parts.nd rfl (.inl rfl) (pe_cO O__law_choose (hr.mono (by decide)) pass0 rfl (pa_cons (pv 0) (pa_cons (pe_lst (pa_cons (pv 4) (pa_cons (pv 4) (pa_cons (pe_op op_sub pe_int (pv 4)) pa_nil)))) pa_nil))))
      (pss_cons (ps_set (i := 6) sc__law_parts.nd rfl (.inr rfl) (pe_lst (pa_cons pe_str (pa_cons pe_str (pa_cons pe_str (pa_cons pe_str (pa_cons pe_str pa_nil)))))))
      (pss_cons (ps_setLc (i := 7) (own := [("_law_x", 8)]) (g := (gName 8)) (tt := _) rfl sc__law_parts.nd rfl rfl (sw_true rfl rfl rfl (by decide +kernel)) (pi_range2 (by rfl) T.range (pa_cons (pe_op op_sub pe_int (pv 4)) (pa_cons (pv 4) pa_nil))) (blkOk_by (N := N__law_parts) (sc := defScope s__law_parts) (by decide +kernel)) (fun _ _ _ _ _ => (pg_name (i := 8) sc__law_parts.nd rfl (by first | exact Or.inl rfl | exact Or.inr rfl))) (fun _ _ _ _ _ => (pts_one (pt_cmpR op_gt (pe_cO O__law_draw (hr.mono (by decide)) pass0 rfl (pa_cons (pv 0) (pa_cons pe_int pa_nil))) (pe_op op_mulS pe_int (pe_callTy call_int1 (by rfl) T.int bb_int (pa_cons (pe_cmpR op_ne (pv 8) pe_int (nomark _)) pa_nil))) (nomark _)))) (fun _ _ _ _ _ => (pv 8)))
      (pss_cons (ps_if (pt_cmpR op_lt (pe_cO O__law_draw (hr.mono (by decide)) pass0 rfl (pa_cons (pv 0) (pa_cons pe_int pa_nil))) (pv 3) (nomark _))
        (pss_cons (ps_set (i := 9) sc__law_parts.nd rfl (.inl rfl) (pe_lst (pa_cons (pe_tup (pa_cons pe_str (pa_cons (pe_cO O__law_choose (hr.mono (by decide)) pass0 rfl (pa_cons (pv 0) (pa_cons (pv 6) pa_nil))) (pa_cons (pe_cO O__law_built (hr.mono (by decide)) pass0 rfl (pa_cons (pv 0) (pa_cons (pv 5) pa_nil))) pa_nil)))) pa_nil)))
        (pss_one (ps_ret (pe_lst (pa_cons (pv 5) (pa_cons (pe_lst (pa_cons (pe_tup (pa_cons pe_str (pa_cons pe_int pa_nil))) (pa_cons (pe_tup (pa_cons pe_str (pa_cons pe_int pa_nil))) pa_nil))) (pa_cons (pv 9) (pa_cons (pv 7) (pa_cons (pe_tup (pa_cons pe_int (pa_cons (pe_op op_sub (pe_cO O__law_draw (hr.mono (by decide)) pass0 rfl (pa_cons (pv 0) (pa_cons pe_int pa_nil))) pe_int) (pa_cons pe_int pa_nil)))) pa_nil)))))))))
        pss_nil)
      (pss_cons (ps_set (i := 10) sc__law_parts.nd rfl (.inr rfl) (pe_op op_add pe_int (pe_cO O__law_draw (hr.mono (by decide)) pass0 rfl (pa_cons (pv 0) (pa_cons pe_int pa_nil)))))
      (pss_cons (ps_set (i := 11) sc__law_parts.nd rfl (.inr rfl) (pe_slice sll (pe_lst (pa_cons pe_str (pa_cons pe_str (pa_cons pe_str pa_nil)))) po_none (po_some (pe_op op_add pe_int (pe_cO O__law_draw (hr.mono (by decide)) pass0 rfl (pa_cons (pv 0) (pa_cons (pv 2) pa_nil)))))))
      (pss_cons (ps_setLc (i := 12) (own := [("_law_at", 13)]) (g := (gName 13)) (tt := tYes) rfl sc__law_parts.nd rfl rfl (sw_true rfl rfl rfl (by decide +kernel)) (pi_range1 (by rfl) T.range (pa_cons (pv 10) pa_nil)) (blkOk_by (N := N__law_parts) (sc := defScope s__law_parts) (by decide +kernel)) (fun _ _ _ _ _ => (pg_name (i := 13) sc__law_parts.nd rfl (by first | exact Or.inl rfl | exact Or.inr rfl))) (fun _ _ _ _ _ => pts_nil) (fun _ _ _ _ _ => (pe_tup (pa_cons (pe_ix ixl (pe_lst (pa_cons pe_str (pa_cons pe_str (pa_cons pe_str pa_nil)))) (pv 13) (fun _ _ => rfl)) (pa_cons (pe_op op_sub (pe_cO O__law_draw (hr.mono (by decide)) pass0 rfl (pa_cons (pv 0) (pa_cons pe_int pa_nil))) pe_int) pa_nil)))))
      (pss_cons (ps_setLc (i := 9) (own := [("_law_name", 14)]) (g := (gName 14)) (tt := tYes) rfl sc__law_parts.nd rfl rfl (sw_true rfl rfl rfl (by decide +kernel)) (pi_seq (pv 11)) (blkOk_by (N := N__law_parts) (sc := defScope s__law_parts) (by decide +kernel)) (fun _ _ _ _ _ => (pg_name (i := 14) sc__law_parts.nd rfl (by first | exact Or.inl rfl | exact Or.inr rfl))) (fun _ _ _ _ _ => pts_nil) (fun _ _ _ _ _ => (pe_tup (pa_cons (pv 14) (pa_cons (pe_cO O__law_choose (hr.mono (by decide)) pass0 rfl (pa_cons (pv 0) (pa_cons (pv 6) pa_nil))) (pa_cons (pe_cO O__law_rows (hr.mono (by decide)) pass0 rfl (pa_cons (pv 0) (pa_cons (pv 4) (pa_cons (pv 10) (pa_cons (pv 11) pa_nil))))) pa_nil))))))
      (pss_one (ps_ret (pe_lst (pa_cons (pv 5) (pa_cons (pv 12) (pa_cons (pv 9) (pa_cons (pv 7) (pa_cons (pe_callTy tupT (by rfl) T.tuple bb_tuple (pa_cons (pe_op op_cat (pe_lc (own := [("_law_turn", 15)]) (g := (gName 15)) (tt := tYes) rfl sc__law_parts.nd (pi_range1 (by rfl) T.range (pa_cons (pv 10) pa_nil)) (blkOk_by (N := N__law_parts) (sc := defScope s__law_parts) (by decide +kernel)) (fun _ _ _ _ _ => (pg_name (i := 15) sc__law_parts.nd rfl (by first | exact Or.inl rfl | exact Or.inr rfl))) (fun _ _ _ _ _ => pts_nil) (fun _ _ _ _ _ => (pe_op op_sub (pe_cO O__law_draw (hr.mono (by decide)) pass0 rfl (pa_cons (pv 0) (pa_cons pe_int pa_nil))) pe_int))) (pe_lst (pa_cons (pe_cO O__law_draw (hr.mono (by decide)) pass0 rfl (pa_cons (pv 0) (pa_cons pe_int pa_nil))) pa_nil))) pa_nil)) pa_nil))))))))))))))))), ?_⟩
    -- the size
    refine ⟨_, rfl, _, rfl, pp, sl, sizes.map V.int, rfl, SqL.of hsl, nsl, by rw [List.length_map]; exact sp0, by rw [List.length_map]; omega, hP, fun v H1 hv P1 k1 => ?_⟩
    obtain ⟨size, hs, rfl⟩ := List.mem_map.mp hv
    have hsize := hs
    obtain ⟨z0, z1⟩ := hsz size hs
    -- the base
    refine ⟨_, rfl, _, rfl, _, rfl, _, rfl, _, _, rfl, rfl, by show 3 ≤ sizeLine; decide, fun l2 hl2 => ?_⟩
    have s2 : Same H1 (upd H1 l2 (.lst [.int size, .int size, .int (0 - size)])) := Same.new hl2
    refine ⟨pp, l2, [.int size, .int size, .int (0 - size)], rfl, SqL.of upd_same, P1.ne hl2, by simp, by simp, P1.same s2, fun v H3 hv P3 k3 => ?_⟩
    obtain ⟨bs, rfl, eb⟩ : ∃ b : Int, v = .int b ∧ (b = size ∨ b = -size) := by
      simp only [List.mem_cons, List.not_mem_nil, or_false] at hv
      rcases hv with rfl | rfl | rfl
      · exact ⟨_, rfl, .inl rfl⟩
      · exact ⟨_, rfl, .inl rfl⟩
      · exact ⟨_, rfl, .inr (by omega)⟩
    have k03 : Keep pp H H3 := (k1.trans (Same.keep s2)).trans k3
    -- the rules
    refine ⟨by show 5 ≤ sizeLine; decide, fun l6 hl6 => ?_⟩
    have s4 : Same H3 (upd H3 l6 (.lst (five.map V.str))) := Same.new hl6
    have a4 : (upd H3 l6 (.lst (five.map V.str))) l6 = some (.lst (five.map V.str)) := upd_same
    have P4 := P3.same s4
    have n6 := P3.ne hl6
    show tSeq _ _ _ _ (upd H3 l6 (.lst (five.map V.str)))
    generalize upd H3 l6 (.lst (five.map V.str)) = H4 at s4 a4 P4 ⊢
    have k04 := k03.trans (Same.keep s4)
    -- the ends
    refine ⟨_, rfl, _, _, rfl, rfl, _, rfl, 1 - size, size, rfl, ⟨by omega, by omega, by omega, by omega⟩, fun D7 hD7 => ?_⟩
    have n7 : D7 ≠ pp := P4.ne hD7
    refine lc_range (fun i G => Keep pp H4 G ∧ PoolAt G pp ∧ ∃ es : List Int, G D7 = some (.lst (es.map V.int)) ∧ es.Pairwise (· < ·) ∧ (∀ e ∈ es, 1 - size ≤ e ∧ e < 1 - size + (i : Nat)) ∧ es.length ≤ i) ⟨Same.keep (Same.new hD7), P4.same (Same.new hD7), [], upd_same, .nil, (fun e he => by cases he), Nat.le_refl _⟩ ?_ ?_
    · rintro i G hi ⟨kG, PG, es, hes, pw, be, le⟩
      refine ⟨rfl, ?_⟩
      have lt : (es.map V.int).length < sizeLine := by
        rw [List.length_map]
        exact Nat.lt_of_le_of_lt le (Nat.lt_of_lt_of_le (by omega : i < 20) (by decide))
      refine ⟨_, rfl, pp, 4, rfl, by decide, ⟨by decide, by decide⟩, PG, fun d G2 d0 d1 P2 k2 => ?_⟩
      have step : ∀ {G2 : Hp}, Keep pp G G2 → PoolAt G2 pp → Keep pp H4 (upd G2 D7 (.lst (es.map V.int ++ [.int (1 - size + (i : Nat))]))) ∧ PoolAt (upd G2 D7 (.lst (es.map V.int ++ [.int (1 - size + (i : Nat))]))) pp ∧ ∃ es' : List Int, (upd G2 D7 (.lst (es.map V.int ++ [.int (1 - size + (i : Nat))]))) D7 = some (.lst (es'.map V.int)) ∧ es'.Pairwise (· < ·) ∧ (∀ e ∈ es', 1 - size ≤ e ∧ e < 1 - size + ((i + 1 : Nat) : Int)) ∧ es'.length ≤ i + 1 := fun k2 P2 => by
        refine ⟨(kG.trans k2).off hD7, P2.upd n7, es ++ [1 - size + (i : Nat)], ?_, ?_, ?_, ?_⟩
        · rw [upd_same, List.map_append]
          rfl
        · refine List.pairwise_append.mpr ⟨pw, by simp, fun a ha b hb => ?_⟩
          rw [List.mem_singleton.mp hb]
          exact (be a ha).2
        · intro e he
          rcases List.mem_append.mp he with he | he
          · have := be e he
            omega
          · rw [List.mem_singleton.mp he]
            omega
        · rw [List.length_append]
          exact Nat.succ_le_succ le
      refine ⟨_, rfl, rfl, .inr ⟨_, rfl, _, _, rfl, rfl, ⟨⟨by decide, by decide⟩, ?_⟩, _, _, rfl, rfl, _, rfl, ite2 (fun c => ?_) (fun c => ?_)⟩⟩
      · split <;> exact ⟨by decide, by decide⟩
      · exact ⟨_, rfl, _, k2 _ _ hes n7, lt, step k2 P2⟩
      · exact ⟨kG.trans k2, P2, es, k2 _ _ hes n7, pw, fun e he => by have := be e he; omega, Nat.le_succ_of_le le⟩
    · rintro H5 ⟨k5, P5, es, hes, pw, be, le⟩
      have dE : Dt (Zp pp) H5 (.ref D7) (.list (es.map PyData.int)) := .lst hes n7 (DtAll.ints es)
      have a5 := k5 _ _ a4 n6
      have k05 := k04.trans k5
      have ends_ok : ∃ es' : List Int, es.map PyData.int = es'.map PyData.int ∧ es'.Pairwise (· < ·) ∧ ∀ e ∈ es', 1 - size ≤ e ∧ e ≤ size - 1 := ⟨es, rfl, pw, fun e he => by
        have := be e he
        omega⟩
      refine ⟨_, rfl, pp, 3, rfl, by decide, ⟨by decide, by decide⟩, P5, fun d6 H6 d60 d61 P6 k6 => ⟨_, rfl, _, _, rfl, rfl, _, rfl, ite2 (fun c => ?_) (fun c => ?_)⟩⟩
      · -- built
        have a6 := k6 _ _ a5 n6
        refine ⟨_, rfl, _, rfl, pp, l6, five.map V.str, rfl, SqL.of a6, n6, by decide, by decide, P6, fun v H7 hv P7 k7 => ?_⟩
        obtain ⟨r, hr5, rfl⟩ := List.mem_map.mp hv
        refine ⟨_, rfl, _, rfl, pp, size, bs, rfl, z0, z1, eb, fun u8 rows H8 nu8 s8 du8 rl lr wr => ?_⟩
        have P8 := P7.same s8
        refine ⟨by show 3 ≤ sizeLine; decide, fun t9 nt9 => ?_⟩
        have s9 : Same H8 (upd H8 t9 (.tup [.str "m", .str r, .ref u8])) := Same.new nt9
        have e9 : (upd H8 t9 (.tup [.str "m", .str r, .ref u8])) t9 = some (.tup [.str "m", .str r, .ref u8]) := upd_same
        generalize upd H8 t9 (.tup [.str "m", .str r, .ref u8]) = H9 at s9 e9 ⊢
        refine ⟨by show 1 ≤ sizeLine; decide, fun l10 nl10 => ?_⟩
        have s10 : Same H9 (upd H9 l10 (.lst [.ref t9])) := Same.new nl10
        have e10 : (upd H9 l10 (.lst [.ref t9])) l10 = some (.lst [.ref t9]) := upd_same
        generalize upd H9 l10 (.lst [.ref t9]) = H10 at s10 e10 ⊢
        have s710 := (s8.trans s9).trans s10
        have dM8 : Dt (Zp pp) H8 (.ref u8) (.list rows) := by
          cases du8 with
          | lst e n t' =>
            exact .lst e (P7.ne nu8) (DtAll.offL (fun q m => by
              obtain ⟨c, z, _, _, hp⟩ := P8
              exact ⟨_, by rw [show q = pp from m]; exact hp⟩) (noLs_all fun d hd => (rl d hd).noL) t')
        have P9 := P8.same s9
        have P10 := P9.same s10
        have dM : Dt (Zp pp) H10 (.ref l10) (.list [.tuple [.str "m", .str r, .list rows]]) := .lst e10 (P9.ne nl10) (.cons (.tup (s10 _ _ e9) (P8.ne nt9) (.cons (.str _) (.cons (.str _) (.cons ((dM8.fr (Fm.of s9)).fr (Fm.of s10)) .nil)))) .nil)
        refine ⟨_, rfl, by show 2 ≤ sizeLine; decide, fun t11 n11 => ?_⟩
        have s11 : Same H10 (upd H10 t11 (.tup [.str "s", .int 0])) := Same.new n11
        have e11 : (upd H10 t11 (.tup [.str "s", .int 0])) t11 = some (.tup [.str "s", .int 0]) := upd_same
        generalize upd H10 t11 (.tup [.str "s", .int 0]) = H11 at s11 e11 ⊢
        refine ⟨by show 2 ≤ sizeLine; decide, fun t12 n12 => ?_⟩
        have s12 : Same H11 (upd H11 t12 (.tup [.str "p", .int 1])) := Same.new n12
        have e12 : (upd H11 t12 (.tup [.str "p", .int 1])) t12 = some (.tup [.str "p", .int 1]) := upd_same
        generalize upd H11 t12 (.tup [.str "p", .int 1]) = H12 at s12 e12 ⊢
        refine ⟨by show 2 ≤ sizeLine; decide, fun l13 n13 => ?_⟩
        have s13 : Same H12 (upd H12 l13 (.lst [.ref t11, .ref t12])) := Same.new n13
        have e13 : (upd H12 l13 (.lst [.ref t11, .ref t12])) l13 = some (.lst [.ref t11, .ref t12]) := upd_same
        have P11 := P10.same s11
        have P12 := P11.same s12
        have P13 := P12.same s13
        have dR : Dt (Zp pp) (upd H12 l13 (.lst [.ref t11, .ref t12])) (.ref l13) (.list [.tuple [.str "s", .int 0], .tuple [.str "p", .int 1]]) := .lst e13 (P12.ne n13) (.cons (.tup (s13 _ _ (s12 _ _ e11)) (P10.ne n11) (.cons (.str _) (.cons (.int _) .nil))) (.cons (.tup (s13 _ _ e12) (P11.ne n12) (.cons (.str _) (.cons (.int _) .nil))) .nil))
        have s1013 := (s11.trans s12).trans s13
        generalize upd H12 l13 (.lst [.ref t11, .ref t12]) = H13 at s13 e13 P13 dR s1013 ⊢
        refine ⟨_, rfl, _, rfl, _, rfl, pp, 3, rfl, by decide, ⟨by decide, by decide⟩, P13, fun d H14 d0 d1 P14 k14 => ⟨_, _, rfl, rfl, by show 3 ≤ sizeLine; decide, fun t15 n15 => ?_⟩⟩
        have s15 : Same H14 (upd H14 t15 (.tup [.int 1, .int (d - 1), .int 0])) := Same.new n15
        have e15 : (upd H14 t15 (.tup [.int 1, .int (d - 1), .int 0])) t15 = some (.tup [.int 1, .int (d - 1), .int 0]) := upd_same
        have P15 := P14.same s15
        have dG : Dt (Zp pp) (upd H14 t15 (.tup [.int 1, .int (d - 1), .int 0])) (.ref t15) (.tuple [.int 1, .int (d - 1), .int 0]) := .tup e15 (P14.ne n15) (DtAll.ints [1, d - 1, 0])
        generalize upd H14 t15 (.tup [.int 1, .int (d - 1), .int 0]) = H15 at s15 e15 P15 dG ⊢
        refine ⟨by show 5 ≤ sizeLine; decide, fun u nu => ?_⟩
        have s16 : Same H15 (upd H15 u (.lst [.int bs, .ref l13, .ref l10, .ref D7, .ref t15])) := Same.new nu
        have k715 : Keep pp H7 H15 := (((Same.keep s710).trans (Same.keep s1013)).trans k14).trans (Same.keep s15)
        have k515 : Keep pp H5 H15 := (k6.trans k7).trans k715
        have fE := k515.fr.trans (Fm.of s16)
        have fM : Fm (Zp pp) H10 (upd H15 u (.lst [.int bs, .ref l13, .ref l10, .ref D7, .ref t15])) := (((Same.keep s1013).trans k14).trans (Same.keep s15)).fr.trans (Fm.of s16)
        have fR : Fm (Zp pp) H13 (upd H15 u (.lst [.int bs, .ref l13, .ref l10, .ref D7, .ref t15])) := (k14.trans (Same.keep s15)).fr.trans (Fm.of s16)
        refine q u size bs 2 ["m"] [.tuple [.str "s", .int 0], .tuple [.str "p", .int 1]] [.tuple [.str "m", .str r, .list rows]] (es.map PyData.int) [.int 1, .int (d - 1), .int 0] _ hsize ((k05.trans k515).free P15 nu) (P15.same s16) ((k05.trans k515).trans (Same.keep s16)) ?_ ?_
        · refine ⟨z0, z1, eb, by decide, by decide, by decide, ⟨1, rfl⟩, rfl, fun i dd e => ?_, rfl, fun i dd e => ?_, ends_ok, rfl, fun i dd e => ?_⟩
          · match i, e with
            | 0, e => cases e; exact ⟨"s", 0, rfl, rfl, by decide, by decide⟩
            | 1, e => cases e; exact ⟨"p", 1, rfl, rfl, by decide, by decide⟩
          · match i, e with
            | 0, e => cases e; exact ⟨"m", r, rows, rfl, rfl, hr5, rl, lr, wr⟩
          · match i, e with
            | 0, e => cases e; exact ⟨1, rfl, by decide, by decide⟩
            | 1, e => cases e; exact ⟨d - 1, rfl, by omega, by omega⟩
            | 2, e => cases e; exact ⟨0, rfl, by decide, by decide⟩
        · exact .lst upd_same (P15.ne nu) (.cons (.int bs) (.cons (dR.fr fR) (.cons (dM.fr fM) (.cons (dE.fr fE) (.cons (dG.fr (Fm.of s16)) .nil)))))
      · -- drawn
        refine ⟨_, rfl, pp, 3, rfl, by decide, ⟨by decide, by decide⟩, P6, fun dm H7 dm0 dm1 P7 k7 => ⟨_, _, rfl, rfl, ?_⟩⟩
        obtain ⟨m, rfl⟩ : ∃ m : Nat, dm = m := ⟨dm.toNat, by omega⟩
        have m2 : m ≤ 2 := by omega
        show tSeq _ _ _ (List.set _ 10 (some (.int (1 + (m : Int))))) H7
        rw [show (1 + (m : Int)) = ((m + 1 : Nat) : Int) by omega]
        -- names
        refine ⟨by show 3 ≤ sizeLine; decide, fun l3 hl3 => ?_⟩
        have s8 : Same H7 (upd H7 l3 (.lst [.str "m", .str "k", .str "z"])) := Same.new hl3
        have a8 : (upd H7 l3 (.lst [.str "m", .str "k", .str "z"])) l3 = some (.lst [.str "m", .str "k", .str "z"]) := upd_same
        have P8 := P7.same s8
        have n3 := P7.ne hl3
        generalize upd H7 l3 (.lst [.str "m", .str "k", .str "z"]) = H8 at s8 a8 P8 ⊢
        refine ⟨_, rfl, _, rfl, pp, most, rfl, by omega, Sm.of (by omega) (by omega), P8, fun d4 H9 d40 d41 P9 k9 => ⟨_, _, rfl, rfl, _, rfl, ?_⟩⟩
        obtain ⟨nz, rfl⟩ : ∃ nz : Nat, d4 = nz := ⟨d4.toNat, by omega⟩
        refine ⟨l3, _, rfl, k9 _ _ a8 n3, fun l5 hl5 => ?_⟩
        have s10 : Same H9 (upd H9 l5 (.lst (cutV [.str "m", .str "k", .str "z"] none (some (1 + (nz : Int)))))) := Same.new hl5
        have a10 : (upd H9 l5 (.lst (cutV [.str "m", .str "k", .str "z"] none (some (1 + (nz : Int)))))) l5 = some (.lst ((modeNames.take (nz + 1)).map V.str)) := by
          rw [upd_same, show (1 + (nz : Int)) = ((nz + 1 : Nat) : Int) by omega, cut_to, List.map_take]
          rfl
        have P10 := P9.same s10
        have n5 := P9.ne hl5
        show tSeq _ _ _ _ (upd H9 l5 (.lst (cutV [.str "m", .str "k", .str "z"] none (some (1 + (nz : Int))))))
        generalize upd H9 l5 (.lst (cutV [.str "m", .str "k", .str "z"] none (some (1 + (nz : Int))))) = H10 at s10 a10 P10 ⊢
        have k510 : Keep pp H5 H10 := (((k6.trans k7).trans (Same.keep s8)).trans k9).trans (Same.keep s10)
        -- the registers
        refine ⟨_, rfl, ((m + 1 : Nat) : Int), rfl, by omega, by omega, fun D6 hD6 => ?_⟩
        refine lc_draw walk_range (Zp pp) (fun G => PoolAt G pp) IsReg hD6 (Zp.new P10 hD6) P10 pool_iS (by show ((m + 1 : Nat) : Int).toNat < sizeLine; exact Nat.lt_of_lt_of_le (by omega : ((m + 1 : Nat) : Int).toNat < 4) (by decide)) (fun _ _ => True.intro) ?_ ?_
        · intro i x G0 G' Qk hi f iG ne y z
          obtain ⟨rfl, rfl⟩ := y
          refine ⟨rfl, ?_⟩
          refine ⟨by show 3 ≤ sizeLine; decide, fun l7 hl7 => ?_⟩
          have s7 : Same G' (upd G' l7 (.lst [.str "s", .str "p", .str "q"])) := Same.new hl7
          have a7 : (upd G' l7 (.lst [.str "s", .str "p", .str "q"])) l7 = some (.lst [.str "s", .str "p", .str "q"]) := upd_same
          have iG7 := iG.same s7
          generalize upd G' l7 (.lst [.str "s", .str "p", .str "q"]) = G7 at s7 a7 iG7 ⊢
          have i3 : i < 3 := by omega
          obtain ⟨sn, es'⟩ : ∃ sn, regNames[i]? = some sn := ⟨_, List.getElem?_eq_getElem i3⟩
          refine ⟨_, rfl, l7, _, _, .str sn, rfl, rfl, a7, ?_, ?_⟩
          · rw [show (0 : Int) + (i : Int) = ((i : Nat) : Int) by omega]
            refine atI_nat ?_
            show (regNames.map V.str)[i]? = _
            rw [List.getElem?_map, es']
            rfl
          refine ⟨_, rfl, pp, 4, rfl, by decide, Sm.of (by decide) (by decide), iG7, fun d H8 d0 d1 P8 k8 => ⟨_, _, rfl, rfl, by show 2 ≤ sizeLine; decide, fun t nt => ?_⟩⟩
          have fm : Fm (Zp pp) G' (upd H8 t (.tup [.str sn, .int (d - 1)])) := ((Fm.of s7).trans k8.fr).trans (Fm.new nt)
          have nD : t ≠ D6 := fun m => ne t (((Same.keep s7).trans k8).free P8 nt) m
          exact z _ (.tuple [.str sn, .int (d - 1)]) _ fm (P8.same (Same.new nt)) (.tup upd_same (zu_ne (P8.ne nt) nD) (.cons (.str _) (.cons (.int _) .nil))) ⟨sn, d - 1, es', rfl, by omega, by omega⟩
        · intro H11 xs6 regs f11 P11 e6 d6 l6' g6
          have dR : Dt (Zp pp) H11 (.ref D6) (.list regs) := .lst e6 (Zp.new P10 hD6) (d6.mono' fun _ m => .inl m)
          have a11 := f11 _ _ a10 n5
          have k511 := k510.trans f11.keep
          have a6 := k511 _ _ a5 n6
          have lzs : (modeNames.take (nz + 1)).length = nz + 1 := by
            rw [List.length_take]
            exact Nat.min_eq_left (by show nz + 1 ≤ 3; omega)
          -- the modes
          refine ⟨_, rfl, l5, (modeNames.take (nz + 1)).map V.str, _, rfl, .inl rfl, a11, fun J wk D9 hD9 => ?_⟩
          refine lc_draw wk (Zp pp) (fun G => PoolAt G pp ∧ (G D9 = none ∨ ∃ acc, G D9 = some (.lst acc))) (IsMode size (m + 1) (modeNames.take (nz + 1))) hD9 (Zp.new P11 hD9) ⟨P11, .inl hD9⟩ (fun G l a n => ⟨a.1.upd n, .inr ⟨l, upd_same⟩⟩) (by rw [List.length_map, lzs]; exact Nat.lt_of_lt_of_le (by omega : nz + 1 < 4) (by decide)) (fun G fG => fG _ _ a11 n5) ?_ ?_
          · intro i x G0 G' Qk hi f iG2 ne y z
            obtain ⟨iG, iD⟩ := iG2
            obtain ⟨rfl, ex⟩ := y
            rw [List.getElem?_map] at ex
            obtain ⟨zn, ez, rfl⟩ := Option.map_eq_some_iff.mp ex
            refine ⟨rfl, ?_⟩
            refine ⟨_, rfl, _, rfl, _, rfl, pp, l6, five.map V.str, rfl, SqL.of (f _ _ a6 n6), n6, by decide, by decide, iG, fun v G8 hv Q8 k8 => ?_⟩
            obtain ⟨r, hr5, rfl⟩ := List.mem_map.mp hv
            have f8 := f.trans k8.fr
            refine ⟨_, rfl, _, rfl, _, rfl, _, rfl, pp, l5, size, m + 1, modeNames.take (nz + 1), rfl, z0, z1, by omega, f8 _ _ a11 n5, n5, by omega, by omega, Q8, fun u rows G9 hu Q9 k9 du rl l4 wr => ?_⟩
            refine ⟨by show 3 ≤ sizeLine; decide, fun t nt => ?_⟩
            have uG : G' u = none := k8.free Q8 hu
            have s12 : Same G9 (upd G9 t (.tup [.str zn, .str r, .ref u])) := Same.new nt
            have nD : t ≠ D9 := ne t ((k8.trans k9).free Q9 nt)
            obtain ⟨acc, eD⟩ : ∃ acc, G' D9 = some (.lst acc) := iD.elim (fun h => absurd rfl (ne D9 h)) id
            have nDp : D9 ≠ pp := P11.ne hD9
            have eD9 := k9 _ _ (k8 _ _ eD nDp) nDp
            have uD : u ≠ D9 := ne u uG
            have du2 : Dt (Zu (Zp pp) D9) G9 (.ref u) (.list rows) := by
              cases du with
              | lst e n t' =>
                refine .lst e (zu_ne n uD) (DtAll.offL (fun q m => ?_) (noLs_all fun d hd => (rl d hd).noL) t')
                rcases m with m | m
                · obtain ⟨c, z, _, _, hp⟩ := Q9
                  exact ⟨_, by rw [show q = pp from m]; exact hp⟩
                · exact ⟨_, by rw [m]; exact eD9⟩
            exact z _ (.tuple [.str zn, .str r, .list rows]) _ ((k8.fr.trans k9.fr).trans (Fm.of s12)) ⟨Q9.same s12, .inr ⟨acc, s12 _ _ eD9⟩⟩ (.tup upd_same (zu_ne (Q9.ne nt) nD) (.cons (.str _) (.cons (.str _) (.cons (du2.fr (Fm.of s12)) .nil)))) ⟨zn, r, rows, ez, rfl, hr5, rl, Nat.le_trans l4 (by decide), wr⟩
          · intro H12 xs9 modes f12 P12' e9 d9 l9 g9
            have P12 := P12'.1
            have dR12 := dR.fr f12
            have dM : Dt (Zp pp) H12 (.ref D9) (.list modes) := .lst e9 (Zp.new P11 hD9) (d9.mono' fun _ m => .inl m)
            have k512 := k511.trans f12.keep
            -- the return
            refine ⟨_, rfl, _, rfl, _, rfl, _, rfl, ?_⟩
            refine ⟨_, rfl, ((m + 1 : Nat) : Int), rfl, by omega, by omega, fun D15 hD15 => ?_⟩
            refine lc_draw walk_range (Zp pp) (fun G => PoolAt G pp) (fun _ d => ∃ x : Int, d = .int x ∧ (-2 ≤ x ∧ x ≤ 2)) hD15 (Zp.new P12 hD15) P12 pool_iS (by show ((m + 1 : Nat) : Int).toNat < sizeLine; exact Nat.lt_of_lt_of_le (by omega : ((m + 1 : Nat) : Int).toNat < 5) (by decide)) (fun _ _ => True.intro) ?_ ?_
            · intro i x G0 G' Qk hi f iG ne y z
              obtain ⟨rfl, rfl⟩ := y
              refine ⟨rfl, ?_⟩
              exact ⟨_, rfl, pp, 4, rfl, by decide, Sm.of (by decide) (by decide), iG, fun d G2 d0 d1 P2 k2 => ⟨_, _, rfl, rfl, z _ (.int (d - 1)) _ k2.fr P2 (.int _) ⟨d - 1, rfl, by omega, by omega⟩⟩⟩
            · intro H16 xs15 ds15 f16 P16 e15 d15 l15 g15
              obtain ⟨gs, rfl, lgs, bgs⟩ := drawn_ints (B := fun x => -2 ≤ x ∧ x ≤ 2) d15 fun d hd => by
                obtain ⟨i, ei⟩ := List.mem_iff_getElem?.mp hd
                exact g15 i d ei
              have lgs : gs.length = m + 1 := by rw [lgs, l15]; rfl
              refine ⟨_, rfl, pp, 2, rfl, by decide, Sm.of (by decide) (by decide), P16, fun d H17 d0 d1 P17 k17 => ?_⟩
              have e17 := k17 _ _ e15 (P12.ne hD15)
              refine ⟨by show 1 ≤ sizeLine; decide, fun l18 n18 => ?_⟩
              have s18 : Same H17 (upd H17 l18 (.lst [.int d])) := Same.new n18
              have e18 : (upd H17 l18 (.lst [.int d])) l18 = some (.lst [.int d]) := upd_same
              generalize upd H17 l18 (.lst [.int d]) = H18 at s18 e18 ⊢
              refine ⟨D15, l18, _, _, rfl, rfl, s18 _ _ e17, e18, by rw [List.length_map, lgs]; exact Nat.le_trans (show m + 1 + 1 ≤ 5 by omega) (by decide), fun l19 n19 => ?_⟩
              have s19 : Same H18 (upd H18 l19 (.lst (gs.map V.int ++ [.int d]))) := Same.new n19
              have e19 : (upd H18 l19 (.lst (gs.map V.int ++ [.int d]))) l19 = some (.lst ((gs ++ [d]).map V.int)) := by rw [upd_same, List.map_append]; rfl
              have em : gs.map V.int ++ [V.int d] = (gs ++ [d]).map V.int := by rw [List.map_append]; rfl
              have P18 := P17.same s18
              have P19 := P18.same s19
              generalize upd H18 l19 (.lst (gs.map V.int ++ [.int d])) = H19 at s19 e19 P19 ⊢
              refine ⟨l19, _, rfl, .inl ⟨e19, fun l20 n20 => ?_⟩⟩
              have s20 : Same H19 (upd H19 l20 (.tup ((gs ++ [d]).map V.int))) := Same.new n20
              have P20 := P19.same s20
              have dG : Dt (Zp pp) (upd H19 l20 (.tup ((gs ++ [d]).map V.int))) (.ref l20) (.tuple ((gs ++ [d]).map PyData.int)) := .tup upd_same (P19.ne n20) (DtAll.ints _)
              generalize upd H19 l20 (.tup ((gs ++ [d]).map V.int)) = H20 at s20 P20 dG ⊢
              refine ⟨by show 5 ≤ sizeLine; decide, fun u nu => ?_⟩
              have s21 : Same H20 (upd H20 u (.lst [.int bs, .ref D6, .ref D9, .ref D7, .ref l20])) := Same.new nu
              have k1220 : Keep pp H12 H20 := (((f16.keep.trans k17).trans (Same.keep s18)).trans (Same.keep s19)).trans (Same.keep s20)
              have f1221 := k1220.fr.trans (Fm.of s21)
              have k020 := (k05.trans k512).trans k1220
              refine q u size bs (m + 1) (modeNames.take (nz + 1)) regs modes (es.map PyData.int) ((gs ++ [d]).map PyData.int) _ hsize (k020.free P20 nu) (P20.same s21) (k020.trans (Same.keep s21)) ⟨z0, z1, eb, by omega, by omega, by omega, ⟨_, rfl⟩, by rw [l6']; omega, g6, by rw [l9, List.length_map], g9, ends_ok, by rw [List.length_map, List.length_append, lgs]; rfl, fun i dd e => ?_⟩ ?_
              · rw [List.getElem?_map] at e
                obtain ⟨x, ex, rfl⟩ := Option.map_eq_some_iff.mp e
                have mx := List.mem_of_getElem? ex
                rcases List.mem_append.mp mx with mx | mx
                · obtain ⟨b1, b2⟩ := bgs x mx
                  exact ⟨x, rfl, b1, b2⟩
                · rw [List.mem_singleton.mp mx]
                  exact ⟨d, rfl, by omega, by omega⟩
              · exact .lst upd_same (P20.ne nu) (.cons (.int bs) (.cons (dR12.fr f1221) (.cons (dM.fr f1221) (.cons ((dE.fr (k512.fr)).fr f1221) (.cons (dG.fr (Fm.of s21)) .nil)))))
end
/-! ### the program of drawn parts -/
section
variable {P : Program} {w : World} {K : PySem.W.Frag} {mg : Str → Option Value} {base : Heap} {aR CP CB CG CM CI CE CR : Addr}
abbrev s__law_made : Stmt := top 67
abbrev N__law_made : List Str := ["_law_parts_here"]
theorem sc__law_made : FnScope N__law_made ["_law_parts_here"] (defScope s__law_made) := ⟨rfl, rfl, rfl, by decide +kernel, rfl, by decide +kernel, by decide +kernel⟩
def spLMade (P : Program) (w : World) (CP : Addr) : Sp := fun vs H Q _ => ∃ v b d1 d2 d3 d4, vs = [v] ∧ Dt Z0 H v (.list [.int b, d1, d2, d3, d4]) ∧ PartsOk (.int b) d1 d2 d3 d4 ∧ Sz 2 d1 ∧ Sz 5 d2 ∧ ∀ p H', H p = none → Same H H' → ProgOk P w CP H' p b d1 d2 d3 d4 → Q (.ref p) H'
theorem ok__law_made (h : Has K mg "_law_made" s__law_made ["_law_parts_here"]) (C : PCls K mg CP) (mk : MkP P w K mg base CP CB CG CM CI CE CR) : Ok P w K mg base 10 "_law_made" ["_law_parts_here"] (spLMade P w CP) := by
  obtain ⟨f, fd, g, b, F⟩ := h
  refine ⟨f, fd, g, F.kp, b, F.ok sc__law_made (fun vs H Q E h => ?_) (fun cdv A outer s H vs Q E hr h => ?_)⟩
  · obtain ⟨v, b, d1, d2, d3, d4, rfl, _⟩ := h
    rfl
  · obtain ⟨v, b, d1, d2, d3, d4, rfl, dv, PO, z1, z2, q⟩ := h
    refine ⟨_, (pss_one (ps_ret (pe_mkP mk C.at_ (hr.mono (by decide)) passL rfl (pa_cons (pe_ix ixl (pv 0) pe_int (fun _ _ => rfl)) (pa_cons (pe_ix ixl (pv 0) pe_int (fun _ _ => rfl)) (pa_cons (pe_ix ixl (pv 0) pe_int (fun _ _ => rfl)) (pa_cons (pe_ix ixl (pv 0) pe_int (fun _ _ => rfl)) (pa_cons (pe_ix ixl (pv 0) pe_int (fun _ _ => rfl)) pa_nil)))))))), ?_⟩
    cases dv with
    | @lst a xs _ ea _ dx =>
      obtain ⟨w0, w1, w2, w3, w4, rfl, g0, g1, g2, g3, g4⟩ := five_dt dx
      cases g0
      obtain ⟨l3, l4⟩ := PO.few
      have i0 : atI [V.int b, w1, w2, w3, w4] 0 = some (V.int b) := atI0
      refine ⟨_, rfl, a, _, 0, _, rfl, rfl, ea, atI0, _, rfl, a, _, 1, _, rfl, rfl, ea, atI1, _, rfl, a, _, 2, _, rfl, rfl, ea, atI2, _, rfl, a, _, 3, _, rfl, rfl, ea, atI_nat (j := 3) rfl, _, rfl, a, _, 4, _, rfl, rfl, ea, atI_nat (j := 4) rfl, fun c dc hc hd ne => ?_⟩
      have sN : Same H (upd (upd H dc (.own c)) c (.ins CP dc [])) := new_same hc hd
      have up : ∀ {v : V} {d : PyData}, Dt Z0 H v d → Dt Z0 (upd (upd H dc (.own c)) c (.ins CP dc [])) v d := fun h => h.fr (Fm.of sN)
      refine ⟨c, dc, .int b, w1, w2, w3, w4, .int b, d1, d2, d3, d4, rfl, upd_same, .int b, up g1, up g2, up g3, up g4, z1, z2, l3, l4, fun _ H' k PA => ⟨rfl, ?_⟩, fun e he => ?_⟩
      · exact q c H' hc (fun b o e => k b o (sN _ _ e) (ne_of_none e hc)) ⟨PA, PO, z1, z2⟩
      · rw [partsOk_iff.mpr PO] at he
        cases he
end
/-! ### _law_split -/
section
theorem split_down {x b : Int} (hb : b ≠ 0) : IsDiv "down" x b (x.fdiv b) (x - x.fdiv b * b) := by
  obtain ⟨n1, n2, n3, n4, n5, n6, n7, n8, n9, n10⟩ := five_ne
  refine div_low (r' := "down") (by simp [five]) hb rfl (.inl ⟨rfl, fun z => n2 z.1⟩) (.inr fun g => ?_)
  rcases g with g | ⟨g, _⟩ | ⟨g, _⟩
  · exact n1 g
  · exact n3 g
  · exact n4 g
theorem split_zero {r : Str} {x b : Int} (hr : r ∈ five) (hb : b ≠ 0) (h : x - x.fdiv b * b = 0) : IsDiv r x b (x.fdiv b) (x - x.fdiv b * b) := by
  by_cases c : r = "zero" ∧ x.fdiv b < 0
  · exact div_low hr hb rfl (.inr ⟨c.1, c.2, rfl⟩) (.inl h)
  · exact div_low hr hb rfl (.inl ⟨rfl, c⟩) (.inl h)
theorem fdiv_md {x b : Int} (hb : 2 ≤ b.natAbs) (m : Md x) : Md (x.fdiv b) := md_half (split_down (x := x) (b := b) (by omega)) hb m
end
section
variable {P : Program} {w : World} {K : PySem.W.Frag} {mg : Str → Option Value} {base : Heap} {aR : Addr}
abbrev s__law_split : Stmt := top 68
abbrev N__law_split : List Str := ["_law_rule", "_law_x", "_law_base", "_law_whole", "_law_part", "_law_other"]
theorem sc__law_split : FnScope N__law_split ["_law_rule", "_law_x", "_law_base"] (defScope s__law_split) := ⟨rfl, rfl, rfl, by decide +kernel, rfl, by decide +kernel, by decide +kernel⟩
def spSplit : Sp := fun vs H Q _ => ∃ (r : Str) (x b : Int), vs = [.str r, .int x, .int b] ∧ r ∈ five ∧ 2 ≤ b.natAbs ∧ Md x ∧ Md b ∧ ∀ q d p H', Same H H' → IsDiv r x b q d → H' p = some (.tup [.int q, .int d]) → Q (.ref p) H'
theorem ok__law_split (h : Has K mg "_law_split" s__law_split ["_law_rule", "_law_x", "_law_base"]) (T : Txt K mg aR) : Ok P w K mg base 1 "_law_split" ["_law_rule", "_law_x", "_law_base"] spSplit := by
  obtain ⟨f, fd, g, b, F⟩ := h
  refine ⟨f, fd, g, F.kp, b, F.ok sc__law_split (fun vs H Q E h => ?_) (fun cdv A outer s H vs Q E hr h => ?_)⟩
  · obtain ⟨r, x, b, rfl, _⟩ := h
    rfl
  · obtain ⟨r, x, b, rfl, h5, hb2, mx, mb, q⟩ := h
    have hb : b ≠ 0 := by omega
    obtain ⟨n1, n2, n3, n4, n5, n6, n7, n8, n9, n10⟩ := five_ne
    have ml := fdiv_md hb2 mx
    refine ⟨_, (pss_cons (ps_set (i := 3) sc__law_split.nd rfl (.inl rfl) (pe_op op_divS (pv 1) (pv 2)))
      (pss_cons (ps_set (i := 4) sc__law_split.nd rfl (.inl rfl) (pe_op op_sub (pv 1) (pe_op op_mulS (pv 3) (pv 2))))
      (pss_cons (ps_set (i := 5) sc__law_split.nd rfl (.inl rfl) (pe_tup (pa_cons (pe_op op_add (pv 3) pe_int) (pa_cons (pe_op op_sub (pv 4) (pv 2)) pa_nil))))
      (pss_cons (ps_if (PW.pt (pw_or (pt_cmpR op_eq (pv 4) pe_int (nomark _)) (pw_or1 (pt_cmpR op_eq (pv 0) pe_str (nomark _)))))
        (pss_one (ps_ret (pe_tup (pa_cons (pv 3) (pa_cons (pv 4) pa_nil)))))
        pss_nil)
      (pss_cons (ps_if (pt_cmpR op_eq (pv 0) pe_str (nomark _))
        (pss_one (ps_ret (pv 5)))
        pss_nil)
      (pss_cons (ps_if (pt_cmpR op_eq (pv 0) pe_str (nomark _))
        (pss_one (ps_ret (pe_ifExp (pt_cmpR op_lt (pv 3) pe_int (nomark _)) (pv 5) (pe_tup (pa_cons (pv 3) (pa_cons (pv 4) pa_nil))))))
        pss_nil)
      (pss_cons (ps_if (PW.pt (pw_or (pt_cmpR op_eq (pv 0) pe_str (nomark _)) (pw_or1 (pt_cmpR op_eq (pe_op op_mulS pe_int (pe_callB call_abs (by rfl) T.abs bb_abs (pa_cons (pv 4) pa_nil))) (pe_callB call_abs (by rfl) T.abs bb_abs (pa_cons (pv 2) pa_nil)) (nomark _)))))
        (pss_one (ps_ret (pe_ifExp (pt_cmpR op_gt (pv 4) pe_int (nomark _)) (pe_tup (pa_cons (pv 3) (pa_cons (pv 4) pa_nil))) (pv 5))))
        pss_nil)
      (pss_one (ps_ret (pe_ifExp (pt_cmpR op_lt (pe_op op_mulS pe_int (pe_callB call_abs (by rfl) T.abs bb_abs (pa_cons (pv 4) pa_nil))) (pe_callB call_abs (by rfl) T.abs bb_abs (pa_cons (pv 2) pa_nil)) (nomark _)) (pe_tup (pa_cons (pv 3) (pa_cons (pv 4) pa_nil))) (pv 5))))))))))), ?_⟩
    refine ⟨_, rfl, _, rfl, _, _, rfl, rfl, ⟨hb, mb.sm⟩, ?_⟩
    refine ⟨_, rfl, _, rfl, _, rfl, _, _, rfl, rfl, ⟨ml.sm, mb.sm⟩, _, _, rfl, rfl, ?_⟩
    obtain ⟨low, elow⟩ : ∃ low, low = x.fdiv b := ⟨_, rfl⟩
    rw [← elow] at ml
    refine ⟨_, rfl, _, _, rfl, rfl, _, rfl, _, rfl, _, _, rfl, rfl, by show 2 ≤ sizeLine; decide, fun t nt => ?_⟩
    show tSeq _ _ _ [some (.str r), some (.int x), some (.int b), some (.int (x.fdiv b)), some (.int (x - x.fdiv b * b)), some (.ref t)] (upd H t (.tup [.int (x.fdiv b + 1), .int (x - x.fdiv b * b - b)]))
    have dn := split_down (x := x) hb
    rw [← elow] at dn ⊢
    have s1 : Same H (upd H t (.tup [.int (low + 1), .int (x - low * b - b)])) := Same.new nt
    have e1 : (upd H t (.tup [.int (low + 1), .int (x - low * b - b)])) t = some (.tup [.int (low + 1), .int (x - low * b - b)]) := upd_same
    generalize upd H t (.tup [.int (low + 1), .int (x - low * b - b)]) = H1 at s1 e1 ⊢
    obtain ⟨rest, er⟩ : ∃ rest, rest = x - low * b := ⟨_, rfl⟩
    have lowR : IsDiv r x b low (x - low * b) → ∀ p, H1 p = none → Q (.ref p) (upd H1 p (.tup [.int low, .int (x - low * b)])) := fun d p np => q low _ p _ (s1.trans (Same.new np)) d upd_same
    have othR : IsDiv r x b (low + 1) (x - low * b - b) → Q (.ref t) H1 := fun d => q _ _ t H1 s1 d e1
    rw [← er] at lowR othR dn ⊢
    have lt := dn.lt
    refine ⟨_, rfl, rfl, _, rfl, ite2 (fun c => ?_) (fun c => ?_)⟩
    · have r0 : rest = 0 := of_veq c
      refine iteT ⟨_, rfl, _, rfl, by show 2 ≤ sizeLine; decide, fun p np => lowR ?_ p np⟩
      rw [er, elow]
      exact split_zero h5 hb (by rw [← elow, ← er]; exact r0)
    have r0 : rest ≠ 0 := of_vne c
    refine ⟨_, rfl, rfl, _, rfl, ite2 (fun c => ?_) (fun c => ?_)⟩
    · have hr : r = "down" := of_seq c
      subst hr
      exact ⟨_, rfl, _, rfl, by show 2 ≤ sizeLine; decide, fun p np => lowR dn p np⟩
    have rd : r ≠ "down" := of_sne c
    have HI := fun (r' : Str) (h : r' = r ∧ ¬ (r = "zero" ∧ low < 0) ∨ r = "zero" ∧ low < 0 ∧ r' = "up") (g : Goes r' rest b) => div_high h5 hb elow h (by rw [← er]; exact r0) (by rw [← er]; exact g)
    have LO := fun (r' : Str) (h : r' = r ∧ ¬ (r = "zero" ∧ low < 0) ∨ r = "zero" ∧ low < 0 ∧ r' = "up") (g : ¬ Goes r' rest b) => div_low h5 hb elow h (.inr (by rw [← er]; exact g))
    rw [← er] at HI LO
    refine ⟨_, rfl, rfl, _, rfl, ite2 (fun c => ?_) (fun c => ?_)⟩
    · have hr : r = "up" := of_seq c
      subst hr
      exact ⟨_, rfl, othR (HI "up" (.inl ⟨rfl, fun z => n5 z.1⟩) (.inl rfl))⟩
    have ru : r ≠ "up" := of_sne c
    refine ⟨_, rfl, rfl, _, rfl, ite2 (fun c => ?_) (fun c => ?_)⟩
    · have hr : r = "zero" := of_seq c
      subst hr
      refine ⟨_, rfl, _, _, rfl, rfl, _, rfl, ite2 (fun c => ?_) (fun c => ?_)⟩
      · have hl : low < 0 := by simpa using c
        exact ⟨_, rfl, othR (HI "up" (.inr ⟨rfl, hl, rfl⟩) (.inl rfl))⟩
      · have hl : ¬ low < 0 := by simpa using c
        refine ⟨_, rfl, _, rfl, by show 2 ≤ sizeLine; decide, fun p np => lowR (LO "zero" (.inl ⟨rfl, fun z => hl z.2⟩) fun g => ?_) p np⟩
        rcases g with g | ⟨g, _⟩ | ⟨g, _⟩
        · exact n5 g.symm
        · exact n8 g
        · exact n9 g
    have rz : r ≠ "zero" := of_sne c
    have pn : r = "positive" ∨ r = "near" := by
      simp only [five, List.mem_cons, List.not_mem_nil, or_false] at h5
      rcases h5 with h | h | h | h | h
      · exact absurd h rd
      · exact absurd h ru
      · exact absurd h rz
      · exact .inl h
      · exact .inr h
    have srest : Sm rest := by
      obtain ⟨b1, b2⟩ := mb
      have big : (2 : Int) ^ 200 < 2 ^ 600 := by decide
      unfold Sm
      generalize (2 : Int) ^ 200 = N at b1 b2 big
      generalize (2 : Int) ^ 600 = M at big ⊢
      omega
    have main : (r = "positive" ∨ 2 * ab rest = ab b) → (0 < rest → IsDiv r x b low rest) ∧ (¬ 0 < rest → IsDiv r x b (low + 1) (rest - b)) := fun h => by
      refine ⟨fun p => LO r (.inl ⟨rfl, fun z => rz z.1⟩) fun g => ?_, fun p => HI r (.inl ⟨rfl, fun z => rz z.1⟩) ?_⟩
      · rcases g with g | ⟨_, g⟩ | ⟨g, g2⟩
        · exact ru g
        · omega
        · have : 2 * ab rest = ab b := h.resolve_left fun z => n10 (z.symm.trans g)
          omega
      · rcases pn with g | g
        · exact .inr (.inl ⟨g, by omega⟩)
        · have : 2 * ab rest = ab b := h.resolve_left fun z => n10 (z.symm.trans g)
          exact .inr (.inr ⟨g, .inr ⟨this, by omega⟩⟩)
    have fin : (r = "positive" ∨ 2 * ab rest = ab b) → ∀ {D : Ends}, (∀ v G, Q v G → D.rt v G) → tIf (tTest (tOp (rI0 fun i j => V.bl (decide (j < i))) (tVar 4) (tC (V.int 0)))) (tTup (tCons (tVar 3) (tCons (tVar 4) tNil))) (tVar 5) [some (.str r), some (.int x), some (.int b), some (.int low), some (.int rest), some (.ref t)] H1 D.rt := fun h D up => by
      refine ⟨_, rfl, _, _, rfl, rfl, _, rfl, ite2 (fun c => ?_) (fun c => ?_)⟩
      · have p : 0 < rest := by simpa using c
        exact ⟨_, rfl, _, rfl, by show 2 ≤ sizeLine; decide, fun u nu => up _ _ (lowR ((main h).1 p) u nu)⟩
      · have p : ¬ 0 < rest := by simpa using c
        exact ⟨_, rfl, up _ _ (othR ((main h).2 p))⟩
    refine ⟨_, rfl, rfl, _, rfl, ite2 (fun c => ?_) (fun c => ?_)⟩
    · exact iteT (fin (.inl (of_seq c)) (D := { nx := fun x H' => Q V.non H', rt := Q }) fun _ _ z => z)
    have rp : r ≠ "positive" := of_sne c
    have rn : r = "near" := pn.resolve_left rp
    refine ⟨_, rfl, _, rfl, _, _, rfl, rfl, ⟨⟨by decide, by decide⟩, sm_ab srest⟩, _, rfl, _, rfl, rfl, _, rfl, ite2 (fun c => ?_) (fun c => ?_)⟩
    · exact fin (.inr (of_veq c)) (D := { nx := fun x H' => Q V.non H', rt := Q }) fun _ _ z => z
    have tie : 2 * ab rest ≠ ab b := of_vne c
    refine ⟨_, rfl, _, rfl, _, _, rfl, rfl, ⟨⟨by decide, by decide⟩, sm_ab srest⟩, _, rfl, _, rfl, _, _, rfl, rfl, _, rfl, ite2 (fun c => ?_) (fun c => ?_)⟩
    · have p : 2 * ab rest < ab b := by
        have : decide (2 * ab rest < ab b) = true := c
        simpa using this
      refine ⟨_, rfl, _, rfl, by show 2 ≤ sizeLine; decide, fun u nu => lowR (LO r (.inl ⟨rfl, fun z => rz z.1⟩) fun g => ?_) u nu⟩
      rcases g with g | ⟨g, _⟩ | ⟨_, g | ⟨g, _⟩⟩
      · exact ru g
      · exact rp g
      · omega
      · omega
    · have p : ¬ 2 * ab rest < ab b := by
        have : ¬ decide (2 * ab rest < ab b) = true := c
        simpa using this
      exact ⟨_, rfl, othR (HI r (.inl ⟨rfl, fun z => rz z.1⟩) (.inr (.inr ⟨rn, .inl (by omega)⟩)))⟩
end
section
variable {P : Program} {w : World} {K : PySem.W.Frag} {mg : Str → Option Value} {base : Heap} {aR CP CU : Addr}
theorem eqv_key {r k : PyData} (h : RowS r) (n : NIK k) : PyData.eqv (keyD r) k = decide (keyL r = keyL k) := by
  obtain ⟨a, b, rfl, n0, n1⟩ := n
  obtain ⟨_, _, r0, r1⟩ := h
  have e1 : keyL (.tuple [a, b]) = [leafD a, leafD b] := rfl
  rw [e1]
  unfold keyL keyD
  by_cases c : PyData.eqv (.tuple [itD r 0, itD r 1]) (.tuple [a, b]) = true
  · rw [c]
    have := eqv_nik (k := .tuple [a, b]) (z := .tuple [itD r 0, itD r 1]) ⟨a, b, rfl, n0, n1⟩ ⟨_, _, rfl, r0, r1⟩ c
    injection this with this
    injection this with h1 this
    injection this with h2 _
    rw [h1, h2]
    exact (decide_eq_true rfl).symm
  · rw [Bool.eq_false_iff.mpr c]
    refine (decide_eq_false fun m => c ?_).symm
    injection m with m1 m
    injection m with m2 _
    rw [leafD_inj r0 n0 m1, leafD_inj r1 n1 m2]
    exact PySem.SeqAt.eqv_refl _ (NIK.shp ⟨a, b, rfl, n0, n1⟩).1
abbrev s__law_line : Stmt := top 69
abbrev N__law_line : List Str := ["_law_rows_here", "_law_side", "_law_part", "_law_key", "_law_row"]
theorem sc__law_line : FnScope N__law_line ["_law_rows_here", "_law_side", "_law_part"] (defScope s__law_line) := ⟨rfl, rfl, rfl, by decide +kernel, rfl, by decide +kernel, by decide +kernel⟩
def spLine : Sp := fun vs H Q _ => ∃ v i j rows r, vs = [v, .int i, .int j] ∧ Dt Z0 H v (.list rows) ∧ (∀ r ∈ rows, RowS r) ∧ rowFor rows i j = some r ∧ ∀ u H', Same H H' → Dt Z0 H' u r → r ∈ rows → Q u H'
theorem ok__law_line (h : Has K mg "_law_line" s__law_line ["_law_rows_here", "_law_side", "_law_part"]) : Ok P w K mg base 1 "_law_line" ["_law_rows_here", "_law_side", "_law_part"] spLine := by
  obtain ⟨f, fd, g, b, F⟩ := h
  refine ⟨f, fd, g, F.kp, b, F.ok sc__law_line (fun vs H Q E h => ?_) (fun cdv A outer s H vs Q E hr h => ?_)⟩
  · obtain ⟨v, i, j, rows, r, rfl, _⟩ := h
    rfl
  · obtain ⟨v, i, j, rows, r, rfl, dv, rs, er, q⟩ := h
    refine ⟨_, (pss_cons (ps_for PassesOwn.never rfl (pi_seq (pe_lst (pa_cons (pe_tup (pa_cons (pv 1) (pa_cons (pv 2) pa_nil))) (pa_cons (pe_tup (pa_cons pe_non (pa_cons (pv 2) pa_nil))) (pa_cons (pe_tup (pa_cons (pv 1) (pa_cons pe_non pa_nil))) (pa_cons (pe_tup (pa_cons pe_non (pa_cons pe_non pa_nil))) pa_nil)))))) (pg_name (i := 3) sc__law_line.nd rfl (.inl rfl))
        (pss_one (ps_for PassesOwn.never rfl (pi_seq (pv 0)) (pg_name (i := 4) sc__law_line.nd rfl (.inl rfl))
          (pss_one (ps_if (pt_cmpR (eqD hr.units) (pe_slice slt (pv 4) po_none (po_some pe_int)) (pv 3) (nomark _))
            (pss_one (ps_ret (pv 4)))
            pss_nil)))))
      (pss_one (ps_ret pe_non))), ?_⟩
    cases dv with
    | lst ea na dx =>
      rename_i a xs
      refine ⟨_, rfl, _, rfl, by show 2 ≤ sizeLine; decide, fun k1 n1 => ?_⟩
      have s1 : Same H (upd H k1 (.tup [.int i, .int j])) := Same.new n1
      have y1 : (upd H k1 (.tup [.int i, .int j])) k1 = some (.tup [.int i, .int j]) := upd_same
      generalize upd H k1 (.tup [.int i, .int j]) = H1 at s1 y1 ⊢
      refine ⟨_, rfl, by show 2 ≤ sizeLine; decide, fun k2 n2 => ?_⟩
      have s2 : Same H1 (upd H1 k2 (.tup [.non, .int j])) := Same.new n2
      have y2 : (upd H1 k2 (.tup [.non, .int j])) k2 = some (.tup [.non, .int j]) := upd_same
      generalize upd H1 k2 (.tup [.non, .int j]) = H2 at s2 y2 ⊢
      refine ⟨_, rfl, by show 2 ≤ sizeLine; decide, fun k3 n3 => ?_⟩
      have s3 : Same H2 (upd H2 k3 (.tup [.int i, .non])) := Same.new n3
      have y3 : (upd H2 k3 (.tup [.int i, .non])) k3 = some (.tup [.int i, .non]) := upd_same
      generalize upd H2 k3 (.tup [.int i, .non]) = H3 at s3 y3 ⊢
      refine ⟨by show 2 ≤ sizeLine; decide, fun k4 n4 => ?_⟩
      have s4 : Same H3 (upd H3 k4 (.tup [.non, .non])) := Same.new n4
      have y4 : (upd H3 k4 (.tup [.non, .non])) k4 = some (.tup [.non, .non]) := upd_same
      generalize upd H3 k4 (.tup [.non, .non]) = H4 at s4 y4 ⊢
      refine ⟨by show 4 ≤ sizeLine; decide, fun kl nkl => ?_⟩
      have s5 : Same H4 (upd H4 kl (.lst [.ref k1, .ref k2, .ref k3, .ref k4])) := Same.new nkl
      have y5 : (upd H4 kl (.lst [.ref k1, .ref k2, .ref k3, .ref k4])) kl = some (.lst [.ref k1, .ref k2, .ref k3, .ref k4]) := upd_same
      generalize upd H4 kl (.lst [.ref k1, .ref k2, .ref k3, .ref k4]) = H5 at s5 y5 ⊢
      have s05 := (((s1.trans s2).trans s3).trans s4).trans s5
      have ks : DtAll Z0 H5 [.ref k1, .ref k2, .ref k3, .ref k4] [.tuple [.int i, .int j], .tuple [.none, .int j], .tuple [.int i, .none], .tuple [.none, .none]] :=
        .cons (.tup (s5 _ _ (s4 _ _ (s3 _ _ (s2 _ _ y1)))) id (.cons (.int _) (.cons (.int _) .nil))) (.cons (.tup (s5 _ _ (s4 _ _ (s3 _ _ y2))) id (.cons .non (.cons (.int _) .nil))) (.cons (.tup (s5 _ _ (s4 _ _ y3)) id (.cons (.int _) (.cons .non .nil))) (.cons (.tup (s5 _ _ y4) id (.cons .non (.cons .non .nil))) .nil)))
      have kn : ∀ k ∈ [PyData.tuple [.int i, .int j], .tuple [.none, .int j], .tuple [.int i, .none], .tuple [.none, .none]], NIK k := fun k hk => by
        simp only [List.mem_cons, List.not_mem_nil, or_false] at hk
        rcases hk with rfl | rfl | rfl | rfl
        · exact ⟨_, _, rfl, .inr ⟨_, rfl⟩, .inr ⟨_, rfl⟩⟩
        · exact ⟨_, _, rfl, .inl rfl, .inr ⟨_, rfl⟩⟩
        · exact ⟨_, _, rfl, .inr ⟨_, rfl⟩, .inl rfl⟩
        · exact ⟨_, _, rfl, .inl rfl, .inl rfl⟩
      have e0 : [PyData.tuple [.int i, .int j], .tuple [.none, .int j], .tuple [.int i, .none], .tuple [.none, .none]].findSome? (fun k => rowAt rows (keyL k)) = some r := by
        rw [← er]
        unfold rowFor
        have k1 : keyL (.tuple [.int i, .int j]) = [.num i, .num j] := rfl
        have k2 : keyL (.tuple [.none, .int j]) = [.none, .num j] := rfl
        have k3 : keyL (.tuple [.int i, .none]) = [.num i, .none] := rfl
        have k4 : keyL (.tuple [.none, .none]) = [.none, .none] := rfl
        simp only [List.findSome?_cons, List.findSome?_nil, k1, k2, k3, k4]
        cases rowAt rows [.num i, .num j] <;> cases rowAt rows [.none, .num j] <;> cases rowAt rows [.num i, .none] <;> cases rowAt rows [.none, .none] <;> rfl
      generalize [PyData.tuple [.int i, .int j], .tuple [.none, .int j], .tuple [.int i, .none], .tuple [.none, .none]] = KD at ks kn e0
      have lK : KD.length = 4 := ks.len.symm
      refine ⟨kl, _, _, rfl, .inl rfl, y5, fun J wk => for_it wk (fun n σ H' => Same H5 H' ∧ (KD.drop n).findSome? (fun k => rowAt rows (keyL k)) = some r ∧ ∃ w3 w4 : Option V, σ = [some (.ref a), some (.int i), some (.int j), w3, w4]) ⟨Same.refl _, e0, none, none, rfl⟩ (fun n σ H' _ z => z.1 _ _ y5) ?_ ?_⟩
      · rintro n x σ H6 H7 hn ⟨s6, e6, w3, w4, rfl⟩ ⟨rfl, ex⟩
        obtain ⟨kd, ek, dk⟩ := ks.get ex
        have mk := List.mem_of_getElem? ek
        have nk := kn kd mk
        have more : KD.drop n = kd :: KD.drop (n + 1) := by
          obtain ⟨lt, e⟩ := List.getElem?_eq_some_iff.mp ek
          rw [List.drop_eq_getElem_cons lt, e]
        rw [more, List.findSome?_cons] at e6
        have ea6 := s6 _ _ (s05 _ _ ea)
        refine ⟨_, rfl, a, _, _, rfl, .inl rfl, ea6, fun J2 wk2 => for_it wk2 (fun m σ H' => Same H5 H' ∧ rowAt rows (keyL kd) = rowAt (rows.drop m) (keyL kd) ∧ ∃ w4 : Option V, σ = [some (.ref a), some (.int i), some (.int j), some x, w4]) ⟨s6, rfl, w4, rfl⟩ (fun m σ H' _ z => z.1 _ _ (s05 _ _ ea)) ?_ ?_⟩
        · rintro m y σ G G' hm ⟨s7, e7, w4, rfl⟩ ⟨rfl, ey⟩
          obtain ⟨r', er', dr⟩ := dx.get ey
          have mr := List.mem_of_getElem? er'
          have rr := rs r' mr
          have more2 : rows.drop m = r' :: rows.drop (m + 1) := by
            obtain ⟨lt, e⟩ := List.getElem?_eq_some_iff.mp er'
            rw [List.drop_eq_getElem_cons lt, e]
          have drG := dr.fr (Fm.of (s05.trans s7))
          obtain ⟨p, ys, rfl, dy, hp, _, _⟩ := drG.tupOf rr.1
          obtain ⟨x0, x1, x2, x3, c0, c1, c2, c3, rfl, eds, h0, h1, h2, h3⟩ := four_dt dy rr.2.1
          have q0 : itD r' 0 = c0 := by unfold itD; rw [eds]; rfl
          have q1 : itD r' 1 = c1 := by unfold itD; rw [eds]; rfl
          refine ⟨_, rfl, 2, rfl, p, _, rfl, hp, (fun h => absurd (show HT.sIx 4 4 (some 2) = 4 from h.2) (by decide)), fun t nt => ?_⟩
          have s8 : ∀ {o : HO}, Same _ (upd _ t o) := fun {o} => Same.new nt
          have dk2 : Dt Z0 _ (.ref t) (keyD r') := .tup (upd_same (o := .tup [x0, x1])) id (by
            rw [q0, q1]
            exact .cons (h0.fr (Fm.of s8)) (.cons (h1.fr (Fm.of s8)) .nil))
          refine ⟨_, rfl, keyD r', kd, Z0, Z0, dk2, (dk.fr (Fm.of s7)).fr (Fm.of s8), rr.nik.shp.ok, nk.shp.ok, _, rfl, ?_⟩
          rw [eqv_key rr nk]
          rw [more2] at e7
          unfold rowAt at e7
          rw [List.find?_cons] at e7
          by_cases c : keyL r' = keyL kd
          · refine iteP (decide_eq_true c) ?_
            rw [decide_eq_true c] at e7
            have e7 : rowAt rows (keyL kd) = some r' := e7
            rw [e7] at e6
            cases e6
            exact ⟨_, rfl, q _ _ ((s05.trans s7).trans s8) (drG.fr (Fm.of s8)) mr⟩
          · refine iteN (by rw [decide_eq_false c]; decide) ?_
            rw [decide_eq_false c] at e7
            exact ⟨s7.trans s8, e7, _, rfl⟩
        · rintro σ G ⟨s7, e7, w4, rfl⟩
          rw [dx.len, List.drop_length] at e7
          rw [e7] at e6
          exact ⟨s7, e6, _, _, rfl⟩
      · rintro σ H6 ⟨s6, e6, w3, w4, rfl⟩
        rw [show ([V.ref k1, V.ref k2, V.ref k3, V.ref k4].length) = KD.length from lK.symm, List.drop_length] at e6
        cases e6
end
/-! ### zip of two sequences that are tracked: lists, tuples, or one of each -/
section
open PyProof.Rows hiding St
def SItO (o : HO) (h : Heap) (it a : Addr) (i : Nat) : Prop := match o with
  | .lst _ => h.IsListIter it a i
  | _ => h.IsTupleIter it a i
def SAt (o : HO) (h : Heap) (a : Addr) (items : Array Value) : Prop := match o with
  | .lst _ => h.IsList a items
  | _ => h.IsTuple a items
theorem draws_s {prog : Program} {w : World} {A : Around} (hh : A.handled = none) {o : HO} {xs : List V} (ho : o = .lst xs ∨ o = .tup xs) (it a : Addr) (ne : a ≠ it) (items : Array Value) :
    Draws prog w A it [it, a] items.size (fun i v => items[i]? = some v) (fun i h => SItO o h it a i ∧ SAt o h a items) := by
  rcases ho with rfl | rfl
  · exact Draws.list hh it a ne items
  · exact Draws.tuple hh it a ne items
theorem sItO_obj {o : HO} {xs : List V} (ho : o = .lst xs ∨ o = .tup xs) {h : Heap} {it a : Addr} {i : Nat} (st : SItO o h it a i) : ∃ ob fs, h.get? it = some ob ∧ ob.data = .fields fs := by
  rcases ho with rfl | rfl
  · obtain ⟨ob, e, _, d⟩ := st
    exact ⟨ob, _, e, d⟩
  · obtain ⟨ob, e, _, d⟩ := st
    exact ⟨ob, _, e, d⟩
theorem sItO_at {o : HO} {xs : List V} (ho : o = .lst xs ∨ o = .tup xs) {h h' : Heap} {it a : Addr} {i : Nat} (st : SItO o h it a i) (k : ∀ ob, h.get? it = some ob → h'.get? it = some ob) : SItO o h' it a i := by
  rcases ho with rfl | rfl
  · exact Heap.IsListIter.at st k
  · exact Heap.IsTupleIter.at st k
theorem sAt_of {X : Cx} {pins : List (Addr × Obj)} {σ : L2.St} {H : Hp} {s : Shared} (I : Inv X pins σ H s) {o : HO} {xs : List V} (ho : o = .lst xs ∨ o = .tup xs) {a : Addr} (e : H a = some o) : ∃ its, Vals xs its ∧ SAt o s.heap a its.toArray ∧ a < s.heap.objs.size := by
  rcases ho with rfl | rfl
  · obtain ⟨its, rv, p, _⟩ := I.list (SqL.of (K := X.K) e)
    obtain ⟨ob, q, _⟩ := id p.isList
    exact ⟨its, rv, p.isList, Heap.lt_size q⟩
  · obtain ⟨its, rv, p, _⟩ := I.tuple (SqT.of (K := X.K) e)
    obtain ⟨ob, q, _⟩ := id p
    exact ⟨its, rv, p, Heap.lt_size q⟩
def Itzs (a b : Addr) (o1 o2 : HO) (xs ys : List V) : It :=
  ⟨fun i H => i < min xs.length ys.length ∧ H a = some o1 ∧ H b = some o2,
    fun i H v H' => ∃ T x y, v = .ref T ∧ H T = none ∧ H' = upd H T (.tup [x, y]) ∧ xs[i]? = some x ∧ ys[i]? = some y,
    fun i H => i = min xs.length ys.length ∧ H a = some o1 ∧ H b = some o2⟩
theorem walk_zipS {a b : Addr} {o1 o2 : HO} {xs ys : List V} : Walk (Itzs a b o1 o2 xs ys) (min xs.length ys.length) (fun H => H a = some o1 ∧ H b = some o2) (YPair (fun i => xs[i]?) (fun i => ys[i]?)) :=
  ⟨fun _ _ hi h => ⟨hi, h⟩, fun _ h => ⟨rfl, h⟩, fun i H v H' _ _ ⟨T, x, y, h1, h2, h3, h4, h5⟩ => ⟨T, x, y, h1, h2, h3, h4, h5⟩⟩
theorem turn_zipS {P : Program} {w : World} {K : PySem.W.Frag} {elts : List Expr} {kk : Nat} {tpos : Pos} {a b z TI TO i1 i2 : Addr} {o1 o2 : HO} {xs ys : List V} (ho1 : o1 = .lst xs ∨ o1 = .tup xs) (ho2 : o2 = .lst ys ∨ o2 = .tup ys)
    (S : ZipSep2 z TI TO i1 i2 [i1, a] [i2, b]) :
    Turn P w K (.Tuple elts kk tpos) (Itzs a b o1 o2 xs ys) [z, TI, TO, i1, i2] z (fun i h => IsZip h z TI TO .none ∧ IsTupOf2 h TI (.ref i1) (.ref i2) ∧ (∃ x y, IsTupOf2 h TO x y) ∧ SItO o1 h i1 a i ∧ SItO o2 h i2 b i) where
  mem := by simp
  obj := fun i h st c hc => by
    obtain ⟨hz, hTI, ⟨x, y, hTO⟩, s1, s2⟩ := st
    obtain ⟨ob1, f1, e1, d1⟩ := sItO_obj ho1 s1
    obtain ⟨ob2, f2, e2, d2⟩ := sItO_obj ho2 s2
    have e' : c = z ∨ c = TI ∨ c = TO ∨ c = i1 ∨ c = i2 := by simpa using hc
    rcases e' with q | q | q | q | q
    · rw [q]; exact ⟨_, hz, fun v q => nomatch q⟩
    · rw [q]; exact ⟨_, hTI, fun v q => nomatch q⟩
    · rw [q]; exact ⟨_, hTO, fun v q => nomatch q⟩
    · rw [q]; exact ⟨ob1, e1, fun v q => by rw [d1] at q; cases q⟩
    · rw [q]; exact ⟨ob2, e2, fun v q => by rw [d2] at q; cases q⟩
  keep := fun i h h' st k => by
    obtain ⟨hz, hTI, ⟨x, y, hTO⟩, h1, h2⟩ := st
    exact ⟨k z (by simp) _ hz, k TI (by simp) _ hTI, ⟨x, y, k TO (by simp) _ hTO⟩, sItO_at ho1 h1 fun o q => k i1 (by simp) o q, sItO_at ho2 h2 fun o q => k i2 (by simp) o q⟩
  item := by
    intro X hP hw hK calm i pins s σ H E I hf st go
    subst hP hw hK
    obtain ⟨hz, hTI, ⟨x0, y0, hTO⟩, h1, h2⟩ := st
    obtain ⟨lt, at_a, at_b⟩ := go
    obtain ⟨its, rv, p, _⟩ := sAt_of I ho1 at_a
    obtain ⟨its2, rv2, p2, _⟩ := sAt_of I ho2 at_b
    have len := rv.length
    have len2 := rv2.length
    have nia : a ≠ i1 := ne_of_none at_a (hf i1 (by simp)).1
    have nib : b ≠ i2 := ne_of_none at_b (hf i2 (by simp)).1
    have hzl : z < s.heap.objs.size := Heap.lt_size hz
    have lt1 : i < xs.length := by omega
    have lt2 : i < ys.length := by omega
    have D1 := draws_s (prog := X.prog) (w := X.w) (A := X.A.in1) (I.ok.hd calm) ho1 i1 a nia its.toArray
    have D2 := draws_s (prog := X.prog) (w := X.w) (A := X.A.in1) (I.ok.hd calm) ho2 i2 b nib its2.toArray
    refine wpAny_pyNext_zipD2_item S D1 D2 hz hTI hTO ⟨h1, p⟩ ⟨h2, p2⟩ (by simpa [← len] using lt1) (by simpa [← len2] using lt2) fun x1 x2 h' tk px1 px2 z' TO' t1 t2 hT hsz hk => ?_
    refine ⟨_, rfl, wpAny_letOwnedTupleGo_zip (s := { s with heap := h', toks := tk }) z' fun h'' z'' sb => ?_⟩
    have hT2 : h''.get? s.heap.objs.size = some { cls := .type "tuple", data := .seq #[x1, x2] } := (sb.2 _ (Nat.ne_of_gt hzl)).trans hT
    obtain ⟨u1, eu1⟩ : ∃ u, xs[i]? = some u := ⟨xs[i], List.getElem?_eq_getElem lt1⟩
    obtain ⟨u2, eu2⟩ : ∃ u, ys[i]? = some u := ⟨ys[i], List.getElem?_eq_getElem lt2⟩
    obtain ⟨v1, hv1, rv1⟩ := rv.get eu1
    obtain ⟨v2, hv2, rv22⟩ := rv2.get eu2
    have q1 : x1 = v1 := by
      have q : its.toArray[i]? = some x1 := px1
      rw [List.getElem?_toArray, hv1] at q
      exact (Option.some.inj q).symm
    have q2 : x2 = v2 := by
      have q : its2.toArray[i]? = some x2 := px2
      rw [List.getElem?_toArray, hv2] at q
      exact (Option.some.inj q).symm
    subst q1 q2
    have new : ObjOk X.prog X.w (upd H s.heap.objs.size (.tup [u1, u2])) h'' s.heap.objs.size (.tup [u1, u2]) := ⟨by show 2 ≤ sizeLine; decide, [x1, x2], .cons rv1 (.cons rv22 .nil), ⟨_, hT2, rfl, _, rfl⟩⟩
    have I1 : Inv X pins σ (upd H s.heap.objs.size (.tup [u1, u2])) { s with heap := h'', toks := tk } :=
      I.turnedNew (t' := tk) (ch := [z, TI, TO, i1, i2]) (fun c o hb q => (sb.2 c (fun q' => hb (by simp [q']))).trans (hk c o (fun q' => hb (by simp [q'])) (fun q' => hb (by simp [q'])) (fun q' => hb (by simp [q'])) (fun q' => hb (by simp [q'])) q)) hf (Nat.le_refl _) new
    obtain ⟨ob1, f1, e1, _⟩ := sItO_obj ho1 h1
    obtain ⟨ob2, f2, e2, _⟩ := sItO_obj ho2 h2
    refine ⟨.ref s.heap.objs.size, _, I1, rfl, ⟨_, u1, u2, rfl, I.hok.fresh (Nat.le_refl _), rfl, eu1, eu2⟩, ⟨z'', ?_, ⟨x1, x2, ?_⟩, ?_, ?_⟩, fun c hcm => ?_⟩
    · exact (sb.2 _ S.TIz).trans (hk _ _ S.TIz S.TITO S.TIi1 S.TIi2 hTI)
    · exact (sb.2 _ S.TOz).trans TO'
    · exact sItO_at ho1 t1.1 fun o q => (sb.2 _ (Ne.symm S.zi1)).trans q
    · exact sItO_at ho2 t2.1 fun o q => (sb.2 _ (Ne.symm S.zi2)).trans q
    · have hlt : c < s.heap.objs.size := by
        have e' : c = z ∨ c = TI ∨ c = TO ∨ c = i1 ∨ c = i2 := by simpa using hcm
        rcases e' with q | q | q | q | q
        · rw [q]; exact hzl
        · rw [q]; exact Heap.lt_size hTI
        · rw [q]; exact Heap.lt_size hTO
        · rw [q]; exact Heap.lt_size e1
        · rw [q]; exact Heap.lt_size e2
      rw [upd_ne (Nat.ne_of_lt hlt)]
      exact (hf c hcm).1
  done := by
    intro X hP hw hK calm i pins s σ H E I hf st stop
    subst hP hw hK
    obtain ⟨hz, hTI, ⟨x0, y0, hTO⟩, h1, h2⟩ := st
    obtain ⟨ei, at_a, at_b⟩ := stop
    obtain ⟨its, rv, p, _⟩ := sAt_of I ho1 at_a
    obtain ⟨its2, rv2, p2, _⟩ := sAt_of I ho2 at_b
    have len := rv.length
    have len2 := rv2.length
    have nia : a ≠ i1 := ne_of_none at_a (hf i1 (by simp)).1
    have nib : b ≠ i2 := ne_of_none at_b (hf i2 (by simp)).1
    have D1 := draws_s (prog := X.prog) (w := X.w) (A := X.A.in1) (I.ok.hd calm) ho1 i1 a nia its.toArray
    have D2 := draws_s (prog := X.prog) (w := X.w) (A := X.A.in1) (I.ok.hd calm) ho2 i2 b nib its2.toArray
    have z1 : its.toArray.size = xs.length := by rw [List.size_toArray, ← len]
    have z2 : its2.toArray.size = ys.length := by rw [List.size_toArray, ← len2]
    exact wpAny_pyNext_zipD2_end S D1 D2 hz hTI hTO ⟨h1, p⟩ ⟨h2, p2⟩ (by omega) (by omega) (by omega) fun h' tk hk => ⟨rfl, I.turnedL (t' := tk) (ch := [z, TI, TO, i1, i2]) (fun c o hb q =>
      hk c o (fun q' => hb (by simp [q'])) (fun q' => hb (by simp [q'])) (fun q' => hb (by simp [q'])) (fun q' => hb (by simp [q'])) q) hf⟩
  self := fun A i s Q E st h => wpAny_pyIter_zip st.1 h
variable {X : Cx}
/-- zip of two tracked sequences, each a list or a tuple -/
def iZipS (ta : TA) : TI := fun σ H R => ta σ H fun vs H1 => ∃ (a b : Addr) (xs ys : List V) (o1 o2 : HO), vs = [.ref a, .ref b] ∧ (o1 = .lst xs ∨ o1 = .tup xs) ∧ (o2 = .lst ys ∨ o2 = .tup ys) ∧ H1 a = some o1 ∧ H1 b = some o2 ∧
  ∀ J, Walk J (min xs.length ys.length) (fun H => H a = some o1 ∧ H b = some o2) (YPair (fun i => xs[i]?) (fun i => ys[i]?)) → R J H1
theorem begins_s {o : HO} {xs : List V} (ho : o = .lst xs ∨ o = .tup xs) (a : Addr) (items : Array Value) : ∃ ob, Begins (.ref a) ob (fun h => SAt o h a items) ∧ ∀ (h : Heap) (it : Addr), h.get? it = some ob → SItO o h it a 0 := by
  rcases ho with rfl | rfl
  · exact ⟨_, begins_list a items, fun h it e => ⟨_, e, rfl, rfl⟩⟩
  · exact ⟨_, begins_tuple a items, fun h it e => ⟨_, e, rfl, rfl⟩⟩
theorem pi_zipS {e e2 : Expr} {ta : TA} {p pos tpos : Pos} {elts : List Expr} {kk : Nat} (hg : Gl X "zip") (hm : X.mg "zip" = none) (ha : PA X [e, e2] ta)
    (hs : starEach [e, e2] X.env = (false, eval e X.env) :: starEach [e2] X.env := by rfl) (hpl : (backTo pos (starEach [e2] X.env)).any (·.1) = false := by rfl) :
    PI X (.Tuple elts kk tpos) (.Call (.Name "zip" p) [e, e2] [] pos) (iZipS ta) := by
  refine ⟨fun pins s σ H R I h => ?_⟩
  refine Call_ (ld_blt I hg hm PyProof.Rows.boot_zip (PyProof.Rows.callWith_type1 (thn (ha.run pos pins s σ H _ I h) fun us s1 ⟨vs, H1, I1, r1, q1⟩ => ?_) hs hpl))
  obtain ⟨a, b, xs, ys, o1, o2, ex, ho1, ho2, ea, eb, q⟩ := q1
  subst ex
  cases r1 with
  | cons r rr =>
    cases rr with
    | cons r' rr =>
      cases rr
      cases r
      cases r'
      have fresh5 : ∀ c, c ∈ [s1.heap.objs.size + 4, s1.heap.objs.size + 2, s1.heap.objs.size + 3, s1.heap.objs.size, s1.heap.objs.size + 1] → FpOk X pins H1 c := fun c hcm => by
        have e' : c = s1.heap.objs.size + 4 ∨ c = s1.heap.objs.size + 2 ∨ c = s1.heap.objs.size + 3 ∨ c = s1.heap.objs.size ∨ c = s1.heap.objs.size + 1 := by simpa using hcm
        have hle : s1.heap.objs.size ≤ c := by
          rcases e' with z | z | z | z | z
          · rw [z]; exact Nat.le_add_right _ _
          · rw [z]; exact Nat.le_add_right _ _
          · rw [z]; exact Nat.le_add_right _ _
          · rw [z]; exact Nat.le_refl _
          · rw [z]; exact Nat.le_add_right _ _
        exact I1.fpOk hle (I1.hok.fresh hle)
      obtain ⟨its, rv, p1, l1⟩ := sAt_of I1 ho1 ea
      obtain ⟨its2, rv2, p2, l2⟩ := sAt_of I1 ho2 eb
      obtain ⟨ob1, B1, b1⟩ := begins_s ho1 a its.toArray
      obtain ⟨ob2, B2, b2⟩ := begins_s ho2 b its2.toArray
      refine zip_begins2 B1 B2 p1 p2 fun h' hz hTI hTO g1 g2 hsz hk => wpAny_pyIter_zip hz ?_
      have I2 : Inv X pins σ H1 { s1 with heap := h' } := I1.kept (t' := s1.toks) hk
      have S : ZipSep2 (s1.heap.objs.size + 4) (s1.heap.objs.size + 2) (s1.heap.objs.size + 3) s1.heap.objs.size (s1.heap.objs.size + 1) [s1.heap.objs.size, a] [s1.heap.objs.size + 1, b] :=
        zip_sep2 (fun c hc => by rw [List.mem_singleton.mp hc]; exact l1) (fun c hc => by rw [List.mem_singleton.mp hc]; exact l2)
      exact ⟨s1.heap.objs.size + 4, [s1.heap.objs.size + 4, s1.heap.objs.size + 2, s1.heap.objs.size + 3, s1.heap.objs.size, s1.heap.objs.size + 1], _, _, H1, rfl, I2, turn_zipS ho1 ho2 S, ⟨hz, hTI, ⟨_, _, hTO⟩, b1 _ _ g1, b2 _ _ g2⟩, fresh5, q _ walk_zipS⟩
end
/-! ### _law_dot -/
section
variable {P : Program} {w : World} {K : PySem.W.Frag} {mg : Str → Option Value} {base : Heap} {aR : Addr}
abbrev s__law_dot : Stmt := top 71
abbrev N__law_dot : List Str := ["_law_one", "_law_other", "_law_left", "_law_right"]
theorem sc__law_dot : FnScope N__law_dot ["_law_one", "_law_other"] (defScope s__law_dot) := ⟨rfl, rfl, rfl, by decide +kernel, rfl, by decide +kernel, by decide +kernel⟩
def spDot : Sp := fun vs H Q _ => ∃ (a l : Addr) (gs xs : List Int), vs = [.ref a, .ref l] ∧ H a = some (.tup (gs.map V.int)) ∧ H l = some (.lst (xs.map V.int)) ∧ xs.length ≤ 1000 ∧ (∀ f ∈ gs, Sm f) ∧ (∀ x ∈ xs, Sm x) ∧ ∀ H', Same H H' → Q (.int (dotI gs xs)) H'
theorem ok__law_dot (h : Has K mg "_law_dot" s__law_dot ["_law_one", "_law_other"]) (T : Txt K mg aR) : Ok P w K mg base 1 "_law_dot" ["_law_one", "_law_other"] spDot := by
  obtain ⟨f, fd, g, b, F⟩ := h
  refine ⟨f, fd, g, F.kp, b, F.ok sc__law_dot (fun vs H Q E h => ?_) (fun cdv A outer s H vs Q E hr h => ?_)⟩
  · obtain ⟨a, l, gs, xs, rfl, _⟩ := h
    rfl
  · obtain ⟨a, l, gs, xs, rfl, ea, el, few, sg, sx, q⟩ := h
    refine ⟨_, (pss_one (ps_ret (pe_callB (sumT rfl) (by rfl) T.sum bb_sum (pa_cons (pe_lc (own := [("_law_left", 2), ("_law_right", 3)]) (g := (gTupT 2 (gCons (gName 2) (gCons (gName 3) gNil)))) (tt := tYes) rfl sc__law_dot.nd (pi_zipS (by rfl) T.zip (pa_cons (pv 0) (pa_cons (pv 1) pa_nil))) (blkOk_by (N := N__law_dot) (sc := defScope s__law_dot) (by decide +kernel)) (fun _ _ _ _ _ => (pgT (n := 2) (by rfl) (pgs_cons (pg_name (i := 2) sc__law_dot.nd rfl (by first | exact Or.inl rfl | exact Or.inr rfl)) (pgs_cons (pg_name (i := 3) sc__law_dot.nd rfl (by first | exact Or.inl rfl | exact Or.inr rfl)) pgs_nil)))) (fun _ _ _ _ _ => pts_nil) (fun _ _ _ _ _ => (pe_op op_mulS (pv 2) (pv 3)))) pa_nil)))), ?_⟩
    refine ⟨_, rfl, _, rfl, a, l, _, _, _, _, rfl, .inr rfl, .inl rfl, ea, el, fun J wk D hD => ?_⟩
    refine lc_vals wk Z0 (fun _ => True) ((List.zipWith (· * ·) gs xs).map V.int) (by simp) hD id True.intro (fun _ _ _ _ => True.intro) (Nat.lt_of_le_of_lt (show min _ _ ≤ 1000 by rw [List.length_map, List.length_map]; omega) (by decide)) (fun G f => ⟨f _ _ ea id, f _ _ el id⟩) ?_ ?_
    · intro i y k G G' Qk ek f _ _ yy z
      obtain ⟨t, y1, y2, rfl, ht, rfl, e1, e2⟩ := yy
      have e1 : (gs.map V.int)[i]? = some y1 := e1
      have e2 : (xs.map V.int)[i]? = some y2 := e2
      rw [List.getElem?_map] at e1 e2 ek
      obtain ⟨i1, e1', rfl⟩ := Option.map_eq_some_iff.mp e1
      obtain ⟨i2, e2', rfl⟩ := Option.map_eq_some_iff.mp e2
      rw [List.getElem?_zipWith, e1', e2'] at ek
      have ek : some (V.int (i1 * i2)) = some k := ek
      cases ek
      refine ⟨t, _, rfl, upd_same, rfl, _, _, rfl, _, _, rfl, rfl, rfl, ?_⟩
      exact ⟨_, rfl, _, rfl, _, _, rfl, rfl, ⟨sg _ (List.mem_of_getElem? e1'), sx _ (List.mem_of_getElem? e2')⟩, z _ (Fm.of (Same.new ht)) True.intro⟩
    · intro G f _ hD2
      exact ⟨D, _, rfl, hD2, q G f.same⟩
end
/-! ### a play: the mathematics -/
section
theorem Path.pre {b : Int} {d2 d3 : PyData} {n : Nat} {m : Str} {x : Int} {acc : List Rnd} {R : Res} {acc' : List Rnd} (h : Path b d2 d3 n m x acc R acc') : ∃ t, acc' = acc ++ t := by
  induction h with
  | rests => exact ⟨[], by simp⟩
  | stops => exact ⟨_, rfl⟩
  | goes _ _ _ _ _ ih =>
    obtain ⟨t, e⟩ := ih
    exact ⟨_, by rw [e, List.append_assoc]⟩
  | ring => exact ⟨[], by simp⟩
def lastV (vs : List Int) (acc : List Rnd) : List Int := acc.foldl stepV vs
theorem lastV_app {vs : List Int} {acc : List Rnd} {r : Rnd} : lastV vs (acc ++ [r]) = stepV (lastV vs acc) r := by
  unfold lastV
  rw [List.foldl_append]
  rfl
theorem valsAt_pre {vs : List Int} {acc t : List Rnd} : valsAt vs (acc ++ t) acc.length = lastV vs acc := by
  unfold valsAt lastV
  rw [List.take_left]
theorem valsAt_full {vs : List Int} {acc : List Rnd} : valsAt vs acc acc.length = lastV vs acc := by
  unfold valsAt lastV
  rw [List.take_length]
def stV (r : Rnd) : List V := [.str r.m, .int r.x]
def stD (r : Rnd) : PyData := .tuple [.str r.m, .int r.x]
theorem seen_any {m : Str} {x : Int} : ∀ acc : List Rnd, ((acc.map stD).any fun z => PyData.eqv z (.tuple [.str m, .int x])) = (seenAt acc m x).isSome
  | [] => rfl
  | r :: acc => by
    have ih := seen_any (m := m) (x := x) acc
    unfold seenAt at ih ⊢
    rw [List.map_cons, List.any_cons, ih, List.findIdx?_cons]
    by_cases c : r.key = (m, x)
    · have c1 : r.m = m := congrArg Prod.fst c
      have c2 : r.x = x := congrArg Prod.snd c
      rw [decide_eq_true c]
      have : PyData.eqv (stD r) (.tuple [.str m, .int x]) = true := by
        unfold stD
        rw [c1, c2]
        simp [PyData.eqv, PyData.eqvAll]
      rw [this]
      rfl
    · rw [decide_eq_false c]
      have : PyData.eqv (stD r) (.tuple [.str m, .int x]) = false := by
        refine Bool.eq_false_iff.mpr fun z => c ?_
        unfold stD at z
        have z : r.m = m ∧ r.x = x := by simpa [PyData.eqv, PyData.eqvAll] using z
        unfold Rnd.key
        rw [z.1, z.2]
      rw [this]
      cases List.findIdx? (fun r => decide (r.key = (m, x))) acc <;> rfl
def PAll (f : Rnd → List V) (H : Hp) (xs : List V) (acc : List Rnd) : Prop := Paired (fun v r => ∃ t, v = .ref t ∧ H t = some (.tup (f r))) xs acc
def KT (H H' : Hp) : Prop := ∀ t vs, H t = some (.tup vs) → H' t = some (.tup vs)
theorem KT.trans {H H1 H2 : Hp} (a : KT H H1) (b : KT H1 H2) : KT H H2 := fun t vs h => b t vs (a t vs h)
theorem KT.same {H H' : Hp} (s : Same H H') : KT H H' := fun _ _ h => s _ _ h
theorem KT.upd {H : Hp} {p : Addr} {xs : List V} {o : HO} (h : H p = some (.lst xs)) : KT H (upd H p o) := fun t vs e => by
  by_cases c : t = p
  · rw [c, h] at e
    cases e
  · rw [upd_ne c]
    exact e
theorem PAll.kt {f : Rnd → List V} {H H' : Hp} {xs : List V} {acc : List Rnd} (h : PAll f H xs acc) (k : KT H H') : PAll f H' xs acc := L2.Paired.mapP h fun v r ⟨t, e, g⟩ => ⟨t, e, k _ _ g⟩
theorem PAll.snoc {f : Rnd → List V} {H : Hp} {xs : List V} {acc : List Rnd} {t : Addr} {r : Rnd} (h : PAll f H xs acc) (e : H t = some (.tup (f r))) : PAll f H (xs ++ [.ref t]) (acc ++ [r]) := Paired.snoc h ⟨t, rfl, e⟩
theorem PAll.st {H : Hp} : ∀ {xs : List V} {acc : List Rnd}, PAll stV H xs acc → DtAll Z0 H xs (acc.map stD)
  | _, _, .nil => .nil
  | _, _, .cons ⟨_, e, g⟩ t => e ▸ .cons (.tup g id (.cons (.str _) (.cons (.int _) .nil))) (PAll.st t)
theorem st_shp {ns : List Str} (h : ∀ n ∈ ns, Shp 0 (.str n)) {m : Str} (hm : m ∈ ns) (x : Int) : Shp 1 (.tuple [.str m, .int x]) := by
  have := h m hm
  refine shp_tup fun d hd => ?_
  simp only [List.mem_cons, List.not_mem_nil, or_false] at hd
  rcases hd with rfl | rfl
  · exact this
  · exact shp_int
theorem sgn_eq (x : Int) : (if decide (0 < x) = true then (1 : Int) else 0) - (if decide (x < 0) = true then (1 : Int) else 0) = sgnI x := by
  unfold sgnI
  by_cases c : 0 < x
  · rw [decide_eq_true c, decide_eq_false (by omega), if_pos c]
    rfl
  · rw [decide_eq_false c, if_neg c]
    by_cases e : x < 0
    · rw [decide_eq_true e, if_pos e]
      rfl
    · rw [decide_eq_false e, if_neg e]
      rfl
/-- the states with a small number -/
def smallR (r : Rnd) : Bool := decide (r.x.natAbs < 2)
theorem seenAt_some {m : Str} {x : Int} (acc : List Rnd) : (seenAt acc m x).isSome = acc.any fun r => decide (r.key = (m, x)) := by
  unfold seenAt
  exact List.findIdx?_isSome
theorem any_filter' {q p : Rnd → Bool} : ∀ {acc : List Rnd}, (∀ r ∈ acc, p r = true → q r = true) → (acc.filter q).any p = acc.any p
  | [], _ => rfl
  | r :: acc, h => by
    have ih := any_filter' (q := q) (p := p) fun r hr => h r (List.mem_cons_of_mem _ hr)
    cases c : q r with
    | true => rw [List.filter_cons_of_pos c, List.any_cons, List.any_cons, ih]
    | false =>
      rw [List.filter_cons_of_neg (by rw [c]; decide), List.any_cons, ih]
      have : p r = false := by
        cases d : p r
        · rfl
        · rw [h r List.mem_cons_self d] at c
          cases c
      rw [this, Bool.false_or]
theorem seen_small {m : Str} {x : Int} {acc : List Rnd} (dec : ∀ r ∈ acc, 2 ≤ r.x.natAbs → x.natAbs < r.x.natAbs) : (((acc.filter smallR).map stD).any fun z => PyData.eqv z (.tuple [.str m, .int x])) = (seenAt acc m x).isSome := by
  rw [seen_any, seenAt_some, seenAt_some]
  refine any_filter' fun r hr k => ?_
  have k := of_decide_eq_true k
  have e : r.x = x := congrArg Prod.snd k
  unfold smallR
  refine decide_eq_true ?_
  by_cases c : r.x.natAbs < 2
  · exact c
  · have := dec r hr (by omega)
    rw [e] at this
    omega
theorem dec_next {rl : Str} {x b q d : Int} {acc : List Rnd} {r : Rnd} (h : IsDiv rl x b q d) (hb : 2 ≤ b.natAbs) (ex : r.x = x) (dec : ∀ r ∈ acc, 2 ≤ r.x.natAbs → x.natAbs < r.x.natAbs) : ∀ r' ∈ acc ++ [r], 2 ≤ r'.x.natAbs → q.natAbs < r'.x.natAbs := fun r' hr h2 => by
  have z := div_half h hb
  rcases List.mem_append.mp hr with hr | hr
  · have := dec r' hr h2
    omega
  · rw [List.mem_singleton.mp hr, ex] at h2 ⊢
    omega
theorem modeOf_at {ms : List PyData} {j : Nat} {md : PyData} {m : Str} (nd : (ms.map nmOf).Nodup) (e : ms[j]? = some md) (n : nmOf md = m) : modeOf ms m = some md := by
  unfold modeOf
  induction ms generalizing j with
  | nil => cases e
  | cons x ms ih =>
    rw [List.map_cons, List.nodup_cons] at nd
    rw [List.find?_cons]
    cases j with
    | zero =>
      cases e
      rw [decide_eq_true n]
    | succ j =>
      have e : ms[j]? = some md := e
      have ne : nmOf x ≠ m := fun z => nd.1 (by
        rw [z, ← n]
        exact List.mem_map_of_mem (List.mem_of_getElem? e))
      rw [decide_eq_false ne]
      exact ih nd.2 e
/-- what a play tells -/
def playD (R : Res) (vs : List Int) (acc : List Rnd) : PyData := match R with
  | .ring _ => .none
  | _ => .list ((lastV vs acc).map PyData.int)
end
section
theorem parts_inv {Z : Addr → Prop} {H : Hp} {v : V} {b : Int} {d1 d4 : PyData} {modes ends : List PyData} (h : Dt Z H v (.list [.int b, d1, .list modes, .list ends, d4])) : ∃ a v1 am xm ae xe v4, v = .ref a ∧ H a = some (.lst [.int b, v1, .ref am, .ref ae, v4]) ∧ ¬ Z a ∧ Dt Z H v1 d1 ∧ H am = some (.lst xm) ∧ ¬ Z am ∧ DtAll Z H xm modes ∧ H ae = some (.lst xe) ∧ ¬ Z ae ∧ DtAll Z H xe ends ∧ Dt Z H v4 d4 := by
  cases h with
  | lst ea na dx =>
    cases dx with
    | cons x0 dx =>
      cases x0
      cases dx with
      | cons x1 dx =>
        cases dx with
        | cons x2 dx =>
          cases x2 with
          | lst em nm dm =>
            cases dx with
            | cons x3 dx =>
              cases x3 with
              | lst ee ne de =>
                cases dx with
                | cons x4 dx =>
                  cases dx
                  exact ⟨_, _, _, _, _, _, _, rfl, ea, na, x1, em, nm, dm, ee, ne, de, x4⟩
end
/-! ### _law_play -/
section
variable {P : Program} {w : World} {K : PySem.W.Frag} {mg : Str → Option Value} {base : Heap} {aR : Addr}
abbrev s__law_play : Stmt := top 70
abbrev N__law_play : List Str := ["_law_parts_here", "_law_number", "_law_mode", "_law_x", "_law_values", "_law_seen", "_law_name", "_law_first", "_law_whole", "_law_part", "_law_row", "_law_line_here", "_law_one"]
theorem sc__law_play : FnScope N__law_play ["_law_parts_here", "_law_number"] (defScope s__law_play) := ⟨rfl, rfl, rfl, by decide +kernel, rfl, by decide +kernel, by decide +kernel⟩
/-- the parts of a program, as the law holds them -/
structure PartsL (H : Hp) (v : V) (b : Int) (regs modes ends : List PyData) (d4 : PyData) : Prop where
  dv : Dt Z0 H v (.list [.int b, .list regs, .list modes, .list ends, d4])
  ok : PartsOk (.int b) (.list regs) (.list modes) (.list ends) d4
  shape : ∀ m ∈ modes, ∃ z r rows, m = .tuple [.str z, .str r, .list rows]
  rk : ∀ r ∈ regs, ∃ z i, r = .tuple [.str z, .int i]
theorem PartsL.same {H H' : Hp} {v : V} {b : Int} {regs modes ends : List PyData} {d4 : PyData} (h : PartsL H v b regs modes ends d4) (s : Same H H') : PartsL H' v b regs modes ends d4 := ⟨h.dv.fr (Fm.of s), h.ok, h.shape, h.rk⟩
theorem PS.imp {X : Cx} {st : Stmt} {t t' : TS} (h : PS X st t) (k : ∀ D τ H, t' D τ H → t D τ H) : PS X st t' := ⟨fun pins s σ H D I w => h.run pins s σ H D I (k _ _ _ w)⟩
/-- a state is noted, if its number is small -/
def smallT : TS := fun D σ H => ∃ (ta ss : Addr) (ts xs : List V) (m : Str) (x : Int), σ[2]? = some (some (.ref ta)) ∧ σ[3]? = some (some (.int x)) ∧ σ[5]? = some (some (.ref ss)) ∧ H ta = some (.tup (.str m :: ts)) ∧ H ss = some (.lst xs) ∧ xs.length < sizeLine ∧
  ∀ H' xs', (∀ b o, H b = some o → b ≠ ss → H' b = some o) → H' ss = some (.lst xs') → ((x.natAbs < 2 ∧ ∃ t, xs' = xs ++ [.ref t] ∧ H' t = some (.tup [.str m, .int x])) ∨ (¬ x.natAbs < 2 ∧ xs' = xs)) → D.nx σ H'
def spPlay : Sp := fun vs H Q _ => ∃ v b regs modes ends d4 x n m0 R acc, vs = [v, .int x] ∧ PartsL H v b regs modes ends d4 ∧ Md x ∧ (modes.map nmOf)[0]? = some m0 ∧ Path b (.list modes) (.list ends) n m0 x [] R acc ∧ acc.length ≤ 1000 ∧ WalkSm (firstsD (.list regs)) acc ∧
  ∀ u H', Same H H' → Dt Z0 H' u (playD R (firstsD (.list regs)) acc) → Q u H'
def PlayW (G : Hp) (b : Int) (modes ends : List PyData) (vs : List Int) (R : Res) (accF : List Rnd) (a ss : Addr) (xm : List V) (x0 : Int) (n : Nat) (σ : L2.St) (H' : Hp) : Prop := ∃ (m : Str) (mv : V) (md : PyData) (j : Nat) (x : Int) (acc : List Rnd) (lv : Addr) (xs : List V) (v6 v7 v8 v9 v10 v11 v12 : Option V),
  σ = [some (.ref a), some (.int x0), some mv, some (.int x), some (.ref lv), some (.ref ss), v6, v7, v8, v9, v10, v11, v12] ∧ xm[j]? = some mv ∧ modes[j]? = some md ∧ nmOf md = m ∧
  Path b (.list modes) (.list ends) n m x acc R accF ∧ Md x ∧ Same G H' ∧ H' lv = some (.lst ((lastV vs acc).map V.int)) ∧ H' ss = some (.lst xs) ∧ lv ≠ ss ∧ PAll stV H' xs (acc.filter smallR) ∧ (∀ r ∈ acc, r.m ∈ modes.map nmOf) ∧ ∀ r ∈ acc, 2 ≤ r.x.natAbs → x.natAbs < r.x.natAbs
theorem ok__law_play (h : Has K mg "_law_play" s__law_play ["_law_parts_here", "_law_number"]) (T : Txt K mg aR) (O__law_split : Ok P w K mg base 1 "_law_split" ["_law_rule", "_law_x", "_law_base"] spSplit) (O__law_line : Ok P w K mg base 1 "_law_line" ["_law_rows_here", "_law_side", "_law_part"] spLine)
    (O__law_dot : Ok P w K mg base 1 "_law_dot" ["_law_one", "_law_other"] spDot) : Ok P w K mg base 2 "_law_play" ["_law_parts_here", "_law_number"] spPlay := by
  obtain ⟨f, fd, g, b, F⟩ := h
  refine ⟨f, fd, g, F.kp, b, F.ok sc__law_play (fun vs H Q E h => ?_) (fun cdv A outer s H vs Q E hr h => ?_)⟩
  · obtain ⟨v, b, regs, modes, ends, d4, x, n, m0, R, acc, rfl, _⟩ := h
    rfl
  · obtain ⟨v, b, regs, modes, ends, d4, x0, n, m0, R, accF, rfl, PL, mx, em0, pa, few, ws, q⟩ := h
    have PO := PL.ok
    have mk := PL.shape
    have rk := PL.rk
    obtain ⟨a, v1, am, xm, ae, xe, v4, rfl, ea, _, g1, em, nm, dm, ee, ne, de, g4⟩ := parts_inv PL.dv
    obtain ⟨md0, emd, enm⟩ : ∃ md0, modes[0]? = some md0 ∧ nmOf md0 = m0 := by
      rw [List.getElem?_map] at em0
      obtain ⟨md0, e1, e2⟩ := Option.map_eq_some_iff.mp em0
      exact ⟨md0, e1, e2⟩
    obtain ⟨xq, ex0⟩ : ∃ x0, xm[0]? = some x0 := ⟨_, List.getElem?_eq_getElem (by
      have := (List.getElem?_eq_some_iff.mp emd).1
      rw [dm.len]
      exact this)⟩
    refine ⟨_, (pss_cons (ps_asg (pe_tup (pa_cons (pe_ix ixl (pe_ix ixl (pv 0) pe_int (fun _ _ => rfl)) pe_int (fun _ _ => rfl)) (pa_cons (pv 1) (pa_cons (pe_lc (own := [("_law_name", 6), ("_law_first", 7)]) (g := (gTupT 2 (gCons (gName 6) (gCons (gName 7) gNil)))) (tt := tYes) rfl sc__law_play.nd (pi_seq (pe_ix ixl (pv 0) pe_int (fun _ _ => rfl))) (blkOk_by (N := N__law_play) (sc := defScope s__law_play) (by decide +kernel)) (fun _ _ _ _ _ => (pgT (n := 2) (by rfl) (pgs_cons (pg_name (i := 6) sc__law_play.nd rfl (by first | exact Or.inl rfl | exact Or.inr rfl)) (pgs_cons (pg_name (i := 7) sc__law_play.nd rfl (by first | exact Or.inl rfl | exact Or.inr rfl)) pgs_nil)))) (fun _ _ _ _ _ => pts_nil) (fun _ _ _ _ _ => (pv 7))) (pa_cons (pe_lst pa_nil) pa_nil))))) (pgT (n := 4) (by rfl) (pgs_cons (pg_name (i := 2) sc__law_play.nd rfl (.inl rfl)) (pgs_cons (pg_name (i := 3) sc__law_play.nd rfl (.inl rfl)) (pgs_cons (pg_name (i := 4) sc__law_play.nd rfl (.inr rfl)) (pgs_cons (pg_name (i := 5) sc__law_play.nd rfl (.inl rfl)) pgs_nil))))))
      (pss_cons (ps_while PassesOwn.never (pt_cmpR (op_notInD (room65 hr)) (pe_tup (pa_cons (pe_ix ixt (pv 2) pe_int (fun _ _ => rfl)) (pa_cons (pv 3) pa_nil))) (pv 5) (by rfl))
        (pss_cons (ps_if (pt_cmpR inT (pv 3) (pe_ix ixl (pv 0) pe_int (fun _ _ => rfl)) (by rfl))
          (pss_one (ps_ret (pv 4)))
          pss_nil)
        (pss_cons (PS.imp (t' := smallT) (ps_if (pt_cmpR op_lt (pe_callB call_abs (by rfl) T.abs bb_abs (pa_cons (pv 3) pa_nil)) pe_int (nomark _))
          (pss_one (ps_expr (pe_bm PySem.F.plainAttrs_list PySem.F.slot_list_append PySem.F.type_list_append mt_append (pv 5) (pa_cons (pe_tup (pa_cons (pe_ix ixt (pv 2) pe_int (fun _ _ => rfl)) (pa_cons (pv 3) pa_nil))) pa_nil))))
          pss_nil) (by
      rintro D σ H ⟨ta, ss, ts, xs, m, x, e2, e3, e5, eta, hs, few, q⟩
      refine ⟨_, e3, _, rfl, _, _, rfl, rfl, _, rfl, ite2 (fun c => ?_) (fun c => ?_)⟩
      · have c : x.natAbs < 2 := by
          have c : decide ((if x < 0 then -x else x) < 2) = true := c
          have c := of_decide_eq_true c
          split at c <;> omega
        refine ⟨_, e5, .inl ⟨rfl, _, SqL.of hs⟩, _, e2, ta, _, 0, _, rfl, rfl, eta, atI0, _, e3, by show 2 ≤ sizeLine; decide, fun t nt => ?_⟩
        have s1 : Same H (upd H t (.tup [.str m, .int x])) := Same.new nt
        refine ⟨ss, xs, .ref t, rfl, rfl, s1 _ _ hs, few, q _ (xs ++ [.ref t]) (fun b o ho nb => by rw [upd_ne nb]; exact s1 _ _ ho) upd_same (.inl ⟨c, t, rfl, ?_⟩)⟩
        rw [upd_ne (fun e => by rw [e, hs] at nt; cases nt)]
        exact upd_same
      · have c : ¬ x.natAbs < 2 := fun z => c (by
          show decide ((if x < 0 then -x else x) < 2) = true
          refine decide_eq_true ?_
          split <;> omega)
        exact q H xs (fun b o ho _ => ho) hs (.inr ⟨c, rfl⟩)))
        (pss_cons (ps_asg (pe_cO O__law_split (hr.mono (by decide)) pass0 rfl (pa_cons (pe_ix ixt (pv 2) pe_int (fun _ _ => rfl)) (pa_cons (pv 3) (pa_cons (pe_ix ixl (pv 0) pe_int (fun _ _ => rfl)) pa_nil)))) (pgT (n := 2) (by rfl) (pgs_cons (pg_name (i := 8) sc__law_play.nd rfl (.inl rfl)) (pgs_cons (pg_name (i := 9) sc__law_play.nd rfl (.inr rfl)) pgs_nil))))
        (pss_cons (ps_set (i := 10) sc__law_play.nd rfl (.inr rfl) (pe_cO O__law_line (hr.mono (by decide)) pass0 rfl (pa_cons (pe_ix ixt (pv 2) pe_int (fun _ _ => rfl)) (pa_cons (pe_op op_sub (pe_callTy call_int1 (by rfl) T.int bb_int (pa_cons (pe_cmpR op_gt (pv 3) pe_int (nomark _)) pa_nil)) (pe_callTy call_int1 (by rfl) T.int bb_int (pa_cons (pe_cmpR op_lt (pv 3) pe_int (nomark _)) pa_nil))) (pa_cons (pv 9) pa_nil)))))
        (pss_cons (ps_set (i := 4) sc__law_play.nd rfl (.inr rfl) (pe_lc (own := [("_law_line_here", 11)]) (g := (gName 11)) (tt := tYes) rfl sc__law_play.nd (pi_seq (pe_ix ixt (pv 10) pe_int (fun _ _ => rfl))) (blkOk_by (N := N__law_play) (sc := defScope s__law_play) (by decide +kernel)) (fun _ _ _ _ _ => (pg_name (i := 11) sc__law_play.nd rfl (by first | exact Or.inl rfl | exact Or.inr rfl))) (fun _ _ _ _ _ => pts_nil) (fun _ _ _ _ _ => (pe_cO O__law_dot (hr.mono (by decide)) pass0 rfl (pa_cons (pv 11) (pa_cons (pe_op op_cat (pv 4) (pe_lst (pa_cons (pv 9) (pa_cons pe_int pa_nil)))) pa_nil))))))
        (pss_cons (ps_if (pt_cmpR op_isN (pe_ix ixt (pv 10) pe_int (fun _ _ => rfl)) pe_non (nomark _))
          (pss_one (ps_ret (pv 4)))
          pss_nil)
        (pss_one (ps_par (by rfl) sc__law_play.nd (i := 2) (j := 3) rfl rfl (by decide) rfl rfl (pa_cons (pe_ix ixl (pe_lc (own := [("_law_one", 12)]) (g := (gName 12)) (tt := _) rfl sc__law_play.nd (pi_seq (pe_ix ixl (pv 0) pe_int (fun _ _ => rfl))) (blkOk_by (N := N__law_play) (sc := defScope s__law_play) (by decide +kernel)) (fun _ _ _ _ _ => (pg_name (i := 12) sc__law_play.nd rfl (by first | exact Or.inl rfl | exact Or.inr rfl))) (fun _ _ _ _ _ => (pts_one (pt_cmpR op_eq (pe_ix ixt (pv 12) pe_int (fun _ _ => rfl)) (pe_ix ixt (pv 10) pe_int (fun _ _ => rfl)) (nomark _)))) (fun _ _ _ _ _ => (pv 12))) pe_int (fun _ _ => rfl)) (pa_cons (pv 8) pa_nil)) (by rfl))))))))))
      (pss_one (ps_ret pe_non)))), ?_⟩
    cases g1 with
    | @lst a1 x1 _ ea1 _ dx1 =>
      refine ⟨_, rfl, a, _, 2, _, rfl, rfl, ea, atI2, am, xm, 0, _, rfl, rfl, em, atI_nat (j := 0) ex0, _, rfl, ?_⟩
      refine ⟨_, rfl, a, _, 1, _, rfl, rfl, ea, atI1, a1, x1, _, rfl, .inl rfl, ea1, fun J2 wk2 D2 hD2 => ?_⟩
      refine lc_vals wk2 Z0 (fun _ => True) ((firstsD (.list regs)).map V.int) (by unfold firstsD; simp [dx1.len, itemsD]) hD2 id True.intro (fun _ _ _ _ => True.intro) (by rw [dx1.len]; exact Nat.lt_of_le_of_lt (show regs.length ≤ 3 by have := (partsD_all PO.regs).2.1; exact Int.ofNat_le.mp this) (by decide)) (fun G f => f _ _ ea1 id) ?_ ?_
      · intro i y k G0 G' Qk ek f _ _ yy z
        obtain ⟨rfl, ex⟩ := yy
        obtain ⟨di, ei, dt⟩ := dx1.get ex
        obtain ⟨zz, ii, rfl⟩ := rk di (List.mem_of_getElem? ei)
        obtain ⟨ra, rs, rfl, drs, era, _, _⟩ := (dt.fr f).tupOf rfl
        obtain ⟨u0, u1, c3, c4, rfl, eds2, g2, g3⟩ := two_dt drs rfl
        injection eds2 with q2 eds2
        injection eds2 with q3 eds2
        subst q2 q3
        cases g3
        unfold firstsD at ek
        rw [List.map_map, List.getElem?_map] at ek
        have ei' : (itemsD (.list regs))[i]? = some (.tuple [.str zz, .int ii]) := ei
        rw [ei'] at ek
        have ek : some (V.int ii) = some k := ek
        cases ek
        refine ⟨ra, _, rfl, era, rfl, _, _, rfl, _, _, rfl, rfl, rfl, ?_⟩
        exact ⟨_, rfl, z _ Fm.refl True.intro⟩
      · intro G2 f2 _ eV
        have s02 : Same H G2 := f2.same
        refine ⟨by show 0 ≤ sizeLine; decide, fun ss nss => ?_⟩
        have s3 : Same G2 (upd G2 ss (.lst [])) := Same.new nss
        have eS : (upd G2 ss (.lst [])) ss = some (.lst []) := upd_same
        have hss : H ss = none := s02.free nss
        have nVs : D2 ≠ ss := ne_of_none eV nss
        have eV3 := s3 _ _ eV
        generalize upd G2 ss (.lst []) = G3 at s3 eS eV3 ⊢
        refine ⟨by show 4 ≤ sizeLine; decide, fun t0 nt0 => ?_⟩
        have s4 : Same G3 (upd G3 t0 (.tup [xq, .int x0, .ref D2, .ref ss])) := Same.new nt0
        refine ⟨t0, _, rfl, upd_same, rfl, _, _, rfl, _, _, rfl, _, _, rfl, _, _, rfl, rfl, ?_⟩
        have eS4 := s4 _ _ eS
        have eV4 := s4 _ _ eV3
        have s04 := (s02.trans s3).trans s4
        generalize upd G3 t0 (.tup [xq, .int x0, .ref D2, .ref ss]) = G4 at s4 eS4 eV4 s04 ⊢
        refine ⟨PlayW H b modes ends (firstsD (.list regs)) R accF a ss xm x0, ⟨n, ?_⟩, ?_⟩
        · exact ⟨m0, xq, md0, 0, x0, [], D2, [], _, _, _, _, _, _, _, rfl, ex0, emd, enm, pa, mx, s04, eV4, eS4, nVs, .nil, (fun r hr => by cases hr), fun r hr => by cases hr⟩
        · have pa0 := pa
          clear pa mx eS4 eV4 s04 s4 s3 eS eV3 nss eV nVs nt0
          have hns : ∀ z ∈ modes.map nmOf, Shp 0 (.str z) := fun z hz => by
            obtain ⟨md, hm, rfl⟩ := List.mem_map.mp hz
            have k := (partsD_all PO.modes).2.2 md hm
            rw [← modeD_name k]
            unfold modeD at k
            simp only [Bool.and_eq_true] at k
            exact nameD_shp k.2.2.1
          obtain ⟨es, ees, _⟩ := ends_ints PO.ends
          have ees : ends = es.map PyData.int := ees
          have hb := baseD_abs PO.base
          have MO := PO.modesOk
          rintro n σ H3 ⟨m, mv, md, j, x, acc, lv, xs, v6, v7, v8, v9, v10, v11, v12, rfl, emv, emd', enm', pa, mx, s3, elv, eS, nls, st, hms, dec⟩
          have mmd : md ∈ modes := List.mem_of_getElem? emd'
          obtain ⟨zn, zr, rows, rfl⟩ := mk md mmd
          have enm' : zn = m := enm'
          subst enm'
          obtain ⟨dl, edl, gmd⟩ := dm.get emv
          rw [emd'] at edl
          cases edl
          obtain ⟨ta, ts, rfl, dts, eta, _, _⟩ := gmd.tupOf rfl
          obtain ⟨y0, y1, y2, c0, c1, c2, rfl, eds, w0, w1, w2⟩ := three_dt dts rfl
          have eds : [PyData.str zn, PyData.str zr, PyData.list rows] = [c0, c1, c2] := eds
          injection eds with q0 eds
          injection eds with q1 eds
          injection eds with q2 eds
          subst q0 q1 q2
          cases w0
          cases w1
          have km : zn ∈ modes.map nmOf := List.mem_map.mpr ⟨_, mmd, rfl⟩
          have eta3 := s3 _ _ eta
          refine ⟨_, rfl, ta, _, 0, _, rfl, rfl, eta3, atI0, _, rfl, by show 2 ≤ sizeLine; decide, fun t nt => ?_⟩
          have s4 : Same H3 (upd H3 t (.tup [.str zn, .int x])) := Same.new nt
          have et : (upd H3 t (.tup [.str zn, .int x])) t = some (.tup [.str zn, .int x]) := upd_same
          generalize upd H3 t (.tup [.str zn, .int x]) = H4 at s4 et ⊢
          have s04 := s3.trans s4
          have elv4 := s4 _ _ elv
          have eS4 := s4 _ _ eS
          have st4 := st.kt (KT.same s4)
          refine ⟨_, rfl, .tuple [.str zn, .int x], (acc.filter smallR).map stD, .tup (SqT.of et) (.cons (.str _) (.cons (.int _) .nil)), .lst (SqL.of eS4) (PAll.st st4).dp', (st_shp hns km x).ok, (shp_list (n := 1) fun d hd => ?_).ok, ?_⟩
          · obtain ⟨r, hr, rfl⟩ := List.mem_map.mp hd
            exact st_shp hns (hms r (List.mem_filter.mp hr).1) r.x
          rw [seen_small dec]
          have la : acc.length ≤ 1000 := Nat.le_trans pa.le few
          have lxs : xs.length ≤ acc.length := by
            rw [Paired.length st4]
            exact List.length_filter_le _ _
          rcases pa.inv with ⟨i, hs, rfl, rfl⟩ | ⟨hn, hR⟩
          · rw [hs]
            exact ⟨_, rfl, iteF (q _ _ s04 .non)⟩
          · rw [hn]
            refine ⟨_, rfl, iteP rfl (hideN (Wm := fun σ' H' => ∃ m', m' < n ∧ PlayW H b modes ends (firstsD (.list regs)) R accF a ss xm x0 m' σ' H') fun D' hnx hrt => ?_)⟩
            have de4 : DtAll Z0 H xe (es.map PyData.int) := by rw [← ees]; exact de
            obtain rfl := de4.ints_eq
            refine ⟨_, rfl, _, rfl, a, _, 3, _, rfl, rfl, s04 _ _ ea, atI_nat (j := 3) rfl, ae, _, rfl, .inl (s04 _ _ ee), rfl, by simp [List.all_map, flatV], _, rfl, ?_⟩
            rw [endIn_ints (d3 := .list ends) ees]
            rcases hR with ⟨he, rfl, rfl⟩ | ⟨he, q0, r, stp, hR⟩
            · rw [he]
              exact iteT ⟨_, rfl, hrt _ _ (q _ _ s04 (.lst elv4 id (DtAll.ints _)))⟩
            · rw [he]
              refine iteF ?_
              refine ⟨ta, ss, _, xs, zn, x, rfl, rfl, rfl, s04 _ _ eta, eS4, Nat.lt_of_le_of_lt (Nat.le_trans lxs la) (by decide), fun H5 xs5 f5 eS5 alt => ?_⟩
              have s05 : Same H H5 := fun b o ho => f5 _ _ (s04 _ _ ho) (ne_of_none ho hss)
              have elv5 := f5 _ _ elv4 nls
              have st5 : PAll stV H5 xs5 ((acc ++ [r]).filter smallR) := by
                have kt : KT H4 H5 := fun t vs h => f5 _ _ h fun c => by rw [c, eS4] at h; cases h
                rw [List.filter_append]
                have ex := stp.ex
                rcases alt with ⟨c, t, rfl, e⟩ | ⟨c, rfl⟩
                · have : [r].filter smallR = [r] := by simp [smallR, ex, c]
                  rw [this]
                  exact (st4.kt kt).snoc (by rw [e]; unfold stV; rw [stp.em, stp.ex])
                · have : [r].filter smallR = [] := by simp [smallR, ex]; omega
                  rw [this, List.append_nil]
                  exact st4.kt kt
              clear st4 eS4 elv4 et s04 st elv eS alt nt
              obtain ⟨md, rule, em', er_, h5, dvv, ero⟩ := id stp.at_
              have em' : modeOf modes zn = some md := em'
              have mo := modeOf_at PO.names emd' rfl
              have mo : modeOf modes zn = some (.tuple [.str zn, .str zr, .list rows]) := mo
              rw [mo] at em'
              cases em'
              have er_ : PyData.str zr = .str rule := er_
              injection er_ with er_
              subst er_
              refine ⟨_, rfl, ta, _, 1, _, rfl, rfl, s05 _ _ eta, atI1, _, rfl, _, rfl, a, _, 0, _, rfl, rfl, s05 _ _ ea, atI0, zr, x, b, rfl, h5, hb.1, mx, md_small hb.2, fun q' d' t6 H6 s6 dv' et6 => ?_⟩
              obtain ⟨rfl, rfl⟩ := dv'.uniq h5 (by omega) dvv
              refine ⟨t6, _, rfl, et6, rfl, _, _, rfl, _, _, rfl, rfl, ?_⟩
              have s06 := s05.trans s6
              have rws := (wrongRow_rows (MO.rows _ mmd)).1
              have rws : ∀ z ∈ rows, rowD z (if b < 0 then -b else b) (itemsD (.list regs)).length ((itemsD (.list modes)).map nmOf) = true := rws
              have ero : rowFor rows (sgnI x) r.d = some r.row := ero
              refine ⟨_, rfl, ta, _, 2, _, rfl, rfl, s06 _ _ eta, atI2, _, rfl, _, _, rfl, rfl, .inr ⟨_, rfl, _, rfl, _, _, rfl, rfl, .inr ⟨_, rfl, _, _, rfl, rfl, _, rfl, ?_⟩⟩⟩
              refine ⟨_, sgnI x, r.d, rows, r.row, ?_, w2.fr (Fm.of s06), fun z hz => rowD_NI (rws z hz), ero, fun u H7 s7 du mem => ?_⟩
              · show [y2, V.int ((if decide (0 < x) = true then (1 : Int) else 0) - (if decide (x < 0) = true then (1 : Int) else 0)), V.int r.d] = _
                rw [sgn_eq]
              have row := step_row MO stp
              obtain ⟨t4', l4', _, _⟩ := rowD_NI row
              obtain ⟨uss, eu, uk⟩ := upds_row row
              obtain ⟨rwa, rxs, rfl, drx, erw, _, _⟩ := du.tupOf t4'
              obtain ⟨w2', ew2⟩ : ∃ w2, rxs[2]? = some w2 := ⟨_, List.getElem?_eq_getElem (by rw [drx.len, l4']; decide)⟩
              obtain ⟨w3, ew3⟩ : ∃ w3, rxs[3]? = some w3 := ⟨_, List.getElem?_eq_getElem (by rw [drx.len, l4']; decide)⟩
              obtain ⟨d2', ed2, gw2⟩ := drx.get ew2
              obtain ⟨d3', ed3, gw3⟩ := drx.get ew3
              have ed2' : itD r.row 2 = d2' := by
                unfold itD
                rw [List.getD_eq_getElem?_getD, ed2]
                rfl
              have ed3' : itD r.row 3 = d3' := by
                unfold itD
                rw [List.getD_eq_getElem?_getD, ed3]
                rfl
              rw [← ed2', eu] at gw2
              obtain ⟨ua, us, rfl, dus, eua, _, _⟩ := gw2.tupOf rfl
              have dus : DtAll Z0 H7 us (uss.map fun fs => PyData.tuple (fs.map PyData.int)) := dus
              have s07 := s06.trans s7
              have s57 := s6.trans s7
              have elv7 := s57 _ _ elv5
              have eS7 := s57 _ _ eS5
              have st7 := st5.kt (KT.same s57)
              obtain ⟨tl, etl⟩ := pa.pre
              have w0' := ws acc.length (by rw [etl, List.length_append]; omega)
              rw [etl, valsAt_pre] at w0'
              have RO := pa0.all MO (fun r hr => by cases hr)
              have lvl : (lastV (firstsD (.list regs)) acc).length = regs.length := by
                have := valsAt_len (vs := firstsD (.list regs)) RO (by unfold firstsD; rw [List.length_map]) acc.length pa.le
                rw [etl, valsAt_pre] at this
                exact this
              have regs3 : regs.length ≤ 3 := by have := (partsD_all PO.regs).2.1; exact Int.ofNat_le.mp this
              have rb : remD (.int r.d) (if b < 0 then -b else b) = true := rem_of dvv
              have smd : Sm r.d := sm_of (by
                have rb : (decide (1 - (if b < 0 then -b else b) ≤ r.d) && decide (r.d ≤ (if b < 0 then -b else b) - 1)) = true := rb
                simp only [Bool.and_eq_true, decide_eq_true_eq] at rb
                split at rb <;> omega)
              have lus : uss.length = regs.length := uk.1
              have lus2 : us.length = uss.length := by rw [dus.len, List.length_map]
              refine ⟨_, rfl, rwa, rxs, 2, .ref ua, rfl, rfl, erw, atI_nat (j := 2) ew2, ua, us, _, rfl, .inr rfl, eua, fun J3 wk3 D3 hD3 => ?_⟩
              refine lc_vals wk3 Z0 (fun _ => True) ((lastV (firstsD (.list regs)) (acc ++ [r])).map V.int) (by rw [lastV_app]; unfold stepV; rw [uOf_of eu, List.length_map, List.length_map, lus2]) hD3 id True.intro (fun _ _ _ _ => True.intro) (by rw [lus2]; exact Nat.lt_of_le_of_lt (show uss.length ≤ 3 by omega) (by decide)) (fun G f => f _ _ eua id) ?_ ?_
              · intro i y k G0 G' Qk ek f _ _ yy z
                obtain ⟨rfl, ex⟩ := yy
                have sG := f.same
                obtain ⟨du', edu, gu⟩ := dus.get ex
                rw [List.getElem?_map] at edu
                obtain ⟨fs, efs, rfl⟩ := Option.map_eq_some_iff.mp edu
                obtain ⟨fa, fx, rfl, dfx, efa, _, _⟩ := (gu.fr f).tupOf rfl
                have dfx : DtAll Z0 _ fx (fs.map PyData.int) := dfx
                obtain rfl := dfx.ints_eq
                obtain ⟨lf, bf⟩ := uk.2 fs (List.mem_of_getElem? efs)
                rw [lastV_app] at ek
                unfold stepV at ek
                rw [uOf_of eu, List.map_map, List.getElem?_map, efs] at ek
                have ek : some (V.int (dotI fs (lastV (firstsD (.list regs)) acc ++ [r.d, 1]))) = some k := ek
                cases ek
                refine ⟨rfl, _, rfl, _, rfl, _, rfl, by show 2 ≤ sizeLine; decide, fun l1 n1 => ?_⟩
                have t1 : Same G' (upd G' l1 (.lst [.int r.d, .int 1])) := Same.new n1
                have x1 : (upd G' l1 (.lst [.int r.d, .int 1])) l1 = some (.lst [.int r.d, .int 1]) := upd_same
                generalize upd G' l1 (.lst [.int r.d, .int 1]) = G1 at t1 x1 ⊢
                refine ⟨lv, l1, _, _, rfl, rfl, t1 _ _ (sG _ _ elv7), x1, by rw [List.length_map, lvl]; exact Nat.le_trans (show regs.length + 2 ≤ 5 by omega) (by decide), fun l2 n2 => ?_⟩
                have t2 : Same G1 (upd G1 l2 (.lst ((lastV (firstsD (.list regs)) acc).map V.int ++ [.int r.d, .int 1]))) := Same.new n2
                have x2 : (upd G1 l2 (.lst ((lastV (firstsD (.list regs)) acc).map V.int ++ [.int r.d, .int 1]))) l2 = some (.lst ((lastV (firstsD (.list regs)) acc ++ [r.d, 1]).map V.int)) := by rw [upd_same, List.map_append]; rfl
                generalize upd G1 l2 (.lst ((lastV (firstsD (.list regs)) acc).map V.int ++ [.int r.d, .int 1])) = G2 at t2 x2 ⊢
                refine ⟨fa, l2, fs, _, rfl, t2 _ _ (t1 _ _ efa), x2, by rw [List.length_append, lvl]; show regs.length + 2 ≤ 1000; omega, fun z hz => sm_of (bf z hz), fun z hz => ?_, fun G3 t3 => z _ (Fm.of ((t1.trans t2).trans t3)) True.intro⟩
                rcases List.mem_append.mp hz with hz | hz
                · exact w0' z hz
                · simp only [List.mem_cons, List.not_mem_nil, or_false] at hz
                  rcases hz with rfl | rfl
                  · exact smd
                  · exact ⟨by decide, by decide⟩
              · intro H8 f8 _ eV8
                have s8 := f8.same
                have s08 := s07.trans s8
                refine ⟨_, rfl, rwa, rxs, 3, w3, rfl, rfl, s8 _ _ erw, atI_nat (j := 3) ew3, ?_⟩
                refine ⟨rfl, _, rfl, ?_⟩
                rcases hR with ⟨ht, rfl, rfl⟩ | ⟨m', n', ht, hn', pa'⟩
                · rw [← ed3', ht] at gw3
                  cases gw3
                  exact iteT ⟨_, rfl, hrt _ _ (q _ _ s08 (.lst eV8 id (DtAll.ints _)))⟩
                · have ht0 := ht
                  rw [← ed3', ht] at gw3
                  cases gw3
                  refine iteF ?_
                  have km' : m' ∈ modes.map nmOf := by
                    rcases then_known row with z | ⟨z, e1, e2⟩
                    · rw [ht0] at z
                      cases z
                    · rw [ht0] at e1
                      injection e1 with e1
                      rw [e1]
                      exact e2
                  have hms' : ∀ z ∈ acc ++ [r], z.m ∈ modes.map nmOf := fun z hz => by
                    rcases List.mem_append.mp hz with hz | hz
                    · exact hms z hz
                    · rw [List.mem_singleton.mp hz, stp.em]
                      exact km
                  refine ⟨_, rfl, a, _, 2, _, rfl, rfl, s08 _ _ ea, atI2, am, xm, _, rfl, .inl rfl, s08 _ _ em, fun J4 wk4 D4 hD4 => ?_⟩
                  have erw8 := s8 _ _ erw
                  have lx4 : xm.length ≤ 4 := by rw [dm.len]; have := (partsD_all PO.modes).2.1; exact Int.ofNat_le.mp this
                  have hDn : H8 D4 = none := hD4
                  refine lc_it wk4 (fun i G => (∀ b o, H8 b = some o → G b = some o) ∧ ∃ ac : List V, G D4 = some (.lst ac) ∧ ac.length ≤ i ∧ (∀ v ∈ ac, ∃ (j : Nat) (md : PyData), xm[j]? = some v ∧ modes[j]? = some md ∧ nmOf md = m') ∧ ((∃ (j : Nat) (md : PyData), j < i ∧ modes[j]? = some md ∧ nmOf md = m') → ac ≠ [])) ⟨Same.new hD4, [], upd_same, Nat.le_refl _, (fun v hv => by cases hv), fun ⟨j, _, lt, _⟩ => by omega⟩ (fun i G _ z => z.1 _ _ (s08 _ _ em)) ?_ ?_
                  · rintro i y G G' hi ⟨kG, ac, hac, lac, mem, ne'⟩ yy
                    obtain ⟨rfl, ex⟩ := yy
                    obtain ⟨dd, edd, gdd⟩ := dm.get ex
                    obtain ⟨zn2, zr2, rows2, rfl⟩ := mk dd (List.mem_of_getElem? edd)
                    obtain ⟨tb, tbs, rfl, dtb, etb, _, _⟩ := gdd.tupOf rfl
                    obtain ⟨yy0, yy1, yy2, cc0, cc1, cc2, rfl, eds', ww0, _, _⟩ := three_dt dtb rfl
                    have eds' : [PyData.str zn2, PyData.str zr2, PyData.list rows2] = [cc0, cc1, cc2] := eds'
                    injection eds' with qq0 _
                    subst qq0
                    cases ww0
                    have etb' := kG _ _ (s08 _ _ etb)
                    have erwG := kG _ _ erw8
                    refine ⟨rfl, _, rfl, tb, _, 0, .str zn2, rfl, rfl, etb', atI0, _, rfl, rwa, rxs, 3, .str m', rfl, rfl, erwG, atI_nat (j := 3) ew3, rfl, _, rfl, ite2 (fun c => ?_) (fun c => ?_)⟩
                    · have c : zn2 = m' := of_seq c
                      refine ⟨_, rfl, ac, hac, Nat.lt_of_le_of_lt (show ac.length ≤ 4 by omega) (by decide), fun b o ho => by rw [upd_ne (ne_of_none ho hDn)]; exact kG _ _ ho, ac ++ [.ref tb], upd_same, by rw [List.length_append]; exact Nat.succ_le_succ lac, fun v hv => ?_, fun _ => by simp⟩
                      rcases List.mem_append.mp hv with hv | hv
                      · exact mem v hv
                      · rw [List.mem_singleton.mp hv]
                        exact ⟨i, _, ex, edd, c⟩
                    · have c : zn2 ≠ m' := of_sne c
                      refine ⟨kG, ac, hac, Nat.le_succ_of_le lac, mem, fun ⟨j, md, lt, e1, e2⟩ => ?_⟩
                      by_cases z : j = i
                      · subst z
                        rw [edd] at e1
                        cases e1
                        exact absurd e2 c
                      · exact ne' ⟨j, md, by omega, e1, e2⟩
                  · rintro G ⟨kG, ac, hac, lac, mem, ne'⟩
                    obtain ⟨mdx, hmx, emx⟩ := List.mem_map.mp km'
                    obtain ⟨jx, ejx⟩ := List.mem_iff_getElem?.mp hmx
                    have ltx : jx < xm.length := by
                      rw [dm.len]
                      exact (List.getElem?_eq_some_iff.mp ejx).1
                    have ne'' := ne' ⟨jx, mdx, ltx, ejx, emx⟩
                    obtain ⟨v0, ac', rfl⟩ := List.exists_cons_of_ne_nil ne''
                    obtain ⟨j2, md2, ev2, emd2, en2⟩ := mem v0 List.mem_cons_self
                    refine ⟨D4, v0 :: ac', 0, v0, rfl, rfl, hac, atI_nat (j := 0) rfl, _, rfl, _, _, rfl, hnx _ _ ⟨n', hn', ?_⟩⟩
                    have nls' : D3 ≠ ss := fun z => by rw [z] at hD3; exact absurd (hD3.symm.trans eS7) (by simp)
                    refine ⟨m', v0, md2, j2, _, acc ++ [r], D3, xs5, _, _, _, _, _, _, _, rfl, ev2, emd2, en2, pa', md_half dv' hb.1 mx, fun b o h => kG _ _ (s08 _ _ h), kG _ _ eV8, kG _ _ (s8 _ _ eS7), nls', ?_, hms', dec_next dv' hb.1 stp.ex dec⟩
                    exact (st7.kt (KT.same s8)).kt fun t vs h => kG _ _ h
end
/-! ### _law_value -/
section
variable {P : Program} {w : World} {K : PySem.W.Frag} {mg : Str → Option Value} {base : Heap} {aR : Addr}
abbrev s__law_value : Stmt := top 72
abbrev N__law_value : List Str := ["_law_parts_here", "_law_side", "_law_word", "_law_number", "_law_wanted", "_law_figure", "_law_values"]
theorem sc__law_value : FnScope N__law_value ["_law_parts_here", "_law_side", "_law_word"] (defScope s__law_value) := ⟨rfl, rfl, rfl, by decide +kernel, rfl, by decide +kernel, by decide +kernel⟩
def spLValue : Sp := fun vs H Q _ => ∃ v b regs modes ends d4 s z ds n m0 R acc gs, vs = [v, .int s, .ref z] ∧ PartsL H v b regs modes ends d4 ∧ H z = some (.tup (ds.map V.int)) ∧ ds.length ≤ 1000 ∧ (s = 1 ∨ s = -1) ∧ (∀ e ∈ ds, 0 ≤ e ∧ e ≤ (if b < 0 then -b else b) - 1) ∧
  Md (s * valF (if b < 0 then -b else b) ds) ∧ (∀ i, Sm (valF (if b < 0 then -b else b) (ds.drop i))) ∧ (modes.map nmOf)[0]? = some m0 ∧ Path b (.list modes) (.list ends) n m0 (s * valF (if b < 0 then -b else b) ds) [] R acc ∧ acc.length ≤ 1000 ∧ WalkSm (firstsD (.list regs)) acc ∧ d4 = .tuple (gs.map PyData.int) ∧ (∀ g ∈ gs, Sm g) ∧
  ∀ H', Same H H' → Q (.int (if ds.getLast? = some 0 then 0 else valR R (.list regs) gs acc)) H'
def ValW (H2 : Hp) (v v4 : V) (s size : Int) (ds : List Int) (z : Addr) (i k : Nat) (σ : L2.St) (H' : Hp) : Prop := i ≤ ds.length ∧ i + k = ds.length ∧ H' = H2 ∧ ∃ u, σ = [some v, some (.int s), some (.ref z), some (.int (valF size (ds.drop (ds.length - i)))), some v4, u, none]
theorem last_dt {Z : Addr → Prop} {H : Hp} {a : Addr} {ds : List Int} (h : H a = some (.tup ((ds.drop (ds.length - 1)).map V.int))) (n : ¬ Z a) : Dt Z H (.ref a) (.tuple ((ds.drop (ds.length - 1)).map PyData.int)) := .tup h n (DtAll.ints _)
theorem last_eqv {ds : List Int} : PyData.eqv (.tuple ((ds.drop (ds.length - 1)).map PyData.int)) (.tuple [.int 0]) = decide (ds.getLast? = some 0) := by
  rcases List.eq_nil_or_concat ds with rfl | ⟨ys, y, rfl⟩
  · simp [PyData.eqv, PyData.eqvAll]
  · have : (ys.concat y).drop ((ys.concat y).length - 1) = [y] := by simp
    rw [this]
    simp [PyData.eqv, PyData.eqvAll]
    cases h : decide (y = 0) <;> simp_all
theorem sIx_last (n : Nat) : HT.sIx n 0 (some (-1)) = n - 1 := by
  show (if (-1 : Int) < 0 then ((-1 : Int) + (n : Int)).toNat else min (-1 : Int).toNat n) = n - 1
  rw [if_pos (by decide)]
  omega
theorem cut_lastV {xs : List V} : cutV xs (some (-1)) none = xs.drop (xs.length - 1) := by
  unfold cutV
  rw [sIx_last, HT.sIx_none]
  exact List.take_of_length_le (by rw [List.length_drop]; omega)
theorem ok__law_value (h : Has K mg "_law_value" s__law_value ["_law_parts_here", "_law_side", "_law_word"]) (T : Txt K mg aR) (O__law_play : Ok P w K mg base 2 "_law_play" ["_law_parts_here", "_law_number"] spPlay)
    (O__law_dot : Ok P w K mg base 1 "_law_dot" ["_law_one", "_law_other"] spDot) : Ok P w K mg base 3 "_law_value" ["_law_parts_here", "_law_side", "_law_word"] spLValue := by
  obtain ⟨f, fd, g, b, F⟩ := h
  refine ⟨f, fd, g, F.kp, b, F.ok sc__law_value (fun vs H Q E h => ?_) (fun cdv A outer s H vs Q E hr h => ?_)⟩
  · obtain ⟨v, b, regs, modes, ends, d4, s, z, ds, n, m0, R, acc, gs, rfl, _⟩ := h
    rfl
  · obtain ⟨v, b, regs, modes, ends, d4, s, z, ds, n, m0, R, acc, gs, rfl, PL, ez, few, hs, hd, md, sm, em0, pa, fa, ws, rfl, sg, q⟩ := h
    have PO := PL.ok
    have hb := baseD_abs PO.base
    obtain ⟨a, v1, am, xm, ae, xe, v4, rfl, ea, _, _, _, _, _, _, _, _, g4⟩ := parts_inv PL.dv
    refine ⟨_, (pss_cons (ps_par (by rfl) sc__law_value.nd (i := 3) (j := 4) rfl rfl (by decide) rfl rfl (pa_cons pe_int (pa_cons (pe_ix ixl (pv 0) pe_int (fun _ _ => rfl)) pa_nil)) (by rfl))
      (pss_cons (ps_for PassesOwn.never rfl (pi_seq (pe_revT (pv 2) (pe_un un_neg pe_int))) (pg_name (i := 5) sc__law_value.nd rfl (.inl rfl))
        (pss_one (ps_set (i := 3) sc__law_value.nd rfl (.inl rfl) (pe_op op_add (pe_op op_mulS (pv 3) (pe_callB call_abs (by rfl) T.abs bb_abs (pa_cons (pe_ix ixl (pv 0) pe_int (fun _ _ => rfl)) pa_nil))) (pv 5)))))
      (pss_cons (ps_set (i := 6) sc__law_value.nd rfl (.inl rfl) (pe_cO O__law_play (hr.mono (by decide)) pass0 rfl (pa_cons (pv 0) (pa_cons (pe_op op_mulS (pv 1) (pv 3)) pa_nil))))
      (pss_cons (ps_if (PW.pt (pw_or (pt_cmpR (eqD hr.units) (pe_slice sl_tupA (pv 2) (po_some (pe_un un_neg pe_int)) po_none) (pe_tup (pa_cons pe_int pa_nil)) (nomark _)) (pw_or1 (pt_cmpR op_isN (pv 6) pe_non (nomark _)))))
        (pss_one (ps_ret pe_int))
        pss_nil)
      (pss_one (ps_ret (pe_cO O__law_dot (hr.mono (by decide)) pass0 rfl (pa_cons (pv 4) (pa_cons (pe_op op_cat (pv 6) (pe_lst (pa_cons pe_int pa_nil))) pa_nil))))))))), ?_⟩
    refine ⟨_, rfl, a, _, 4, v4, rfl, rfl, ea, atI_nat (j := 4) rfl, _, _, rfl, ?_⟩
    refine ⟨_, rfl, _, rfl, rfl, z, _, rfl, ez, fun p np => ?_⟩
    have s1 : Same H (upd H p (.tup (ds.map V.int).reverse)) := Same.new (o := .tup (ds.map V.int).reverse) np
    have ep : (upd H p (.tup (ds.map V.int).reverse)) p = some (.tup (ds.map V.int).reverse) := upd_same
    generalize upd H p (.tup (ds.map V.int).reverse) = H2 at s1 ep ⊢
    have ea2 := s1 _ _ ea
    have ez2 := s1 _ _ ez
    refine ⟨p, _, _, rfl, .inr rfl, ep, fun J wk => ?_⟩
    refine ⟨ValW H2 (.ref a) v4 s (if b < 0 then -b else b) ds z, ⟨ds.length, by omega, by omega, rfl, none, by rw [Nat.sub_zero, List.drop_length]; rfl⟩, ?_⟩
    rintro i k σ H3 ⟨hi, ik, rfl, u, rfl⟩
    have ll : ((ds.map V.int).reverse).length = ds.length := by simp
    by_cases ci : i < ds.length
    · refine .inr ⟨wk.goes i _ (by rw [ll]; exact ci) ep, fun σ' H' => ∃ m', m' < k ∧ ValW H3 (.ref a) v4 s (if b < 0 then -b else b) ds z (i + 1) m' σ' H', fun _ _ h => h, fun x H' yl => ?_⟩
      obtain ⟨rfl, ex⟩ := wk.yields i _ x H' (by rw [ll]; exact ci) ep yl
      rw [List.getElem?_reverse (by simpa using ci), List.length_map, List.getElem?_map] at ex
      obtain ⟨dd, e1, rfl⟩ := Option.map_eq_some_iff.mp ex
      have lt := (List.getElem?_eq_some_iff.mp e1).1
      have e1' : ds[ds.length - 1 - i] = dd := (List.getElem?_eq_some_iff.mp e1).2
      have dr : ds.drop (ds.length - (i + 1)) = dd :: ds.drop (ds.length - i) := by
        rw [show ds.length - (i + 1) = ds.length - 1 - i by omega, List.drop_eq_getElem_cons lt, e1', show ds.length - 1 - i + 1 = ds.length - i by omega]
      have bd := hd dd (List.mem_of_getElem? e1)
      have smb : Sm (if b < 0 then -b else b) := sm_of (by have := hb.2; split <;> omega)
      refine ⟨_, rfl, _, rfl, a, _, 0, _, rfl, rfl, ea2, atI0, b, rfl, _, _, rfl, rfl, ⟨sm _, smb⟩, _, rfl, _, _, rfl, rfl, k - 1, by omega, by omega, by omega, rfl, some (.int dd), ?_⟩
      rw [dr]
      rfl
    · obtain rfl : i = ds.length := by omega
      refine .inl ⟨by have := wk.stops _ ep; rw [ll] at this; exact this, ?_⟩
      rw [Nat.sub_self]
      have sms : Sm s := by rcases hs with rfl | rfl <;> exact ⟨by decide, by decide⟩
      have PL3 := PL.same s1
      refine ⟨_, rfl, _, rfl, _, rfl, _, _, rfl, rfl, ⟨sms, sm 0⟩, .ref a, b, regs, modes, ends, _, s * valF (if b < 0 then -b else b) ds, n, m0, R, acc, rfl, PL3, md, em0, pa, fa, ws, fun uu H4 s4 du => ?_⟩
      have ez4 := s4 _ _ ez2
      have s04 := s1.trans s4
      refine ⟨_, rfl, _, rfl, _, rfl, z, _, rfl, SqT.of ez4, fun cw => ?_, fun cw p2 np2 => ?_⟩
      have s5 : Same H4 H4 := fun _ _ h => h
      have eL : H4 z = some (.tup ((ds.drop (ds.length - 1)).map V.int)) := by
        have := cw.1
        rw [sIx_last, List.length_map] at this
        rw [this]
        exact ez4
      have lL := last_dt (Z := Z0) eL id
      clear eL cw
      rotate_left
      have s5 : Same H4 (upd H4 p2 (.tup (cutV (ds.map V.int) (some (-1)) none))) := Same.new np2
      have eL : (upd H4 p2 (.tup (cutV (ds.map V.int) (some (-1)) none))) p2 = some (.tup ((ds.drop (ds.length - 1)).map V.int)) := by
        rw [upd_same, cut_lastV, List.length_map, List.map_drop]
      have lL := last_dt (Z := Z0) eL id
      clear eL cw
      generalize upd H4 p2 (.tup (cutV (ds.map V.int) (some (-1)) none)) = H5 at s5 lL ⊢
      rotate_left
      all_goals
        refine ⟨by show 1 ≤ sizeLine; decide, fun t nt => ?_⟩
        refine ⟨.tuple ((ds.drop (ds.length - 1)).map PyData.int), .tuple [.int 0], Z0, Z0, lL.fr (Fm.of (Same.new nt)), .tup upd_same id (.cons (.int _) .nil), shp_intsT.ok, (shp_intsT (xs := [0])).ok, ?_⟩
        have s06 := (s04.trans s5).trans (Same.new (o := .tup [.int 0]) nt)
        have s46 := s5.trans (Same.new (o := .tup [.int 0]) nt)
        generalize upd _ t (.tup [.int 0]) = H6 at s06 s46 ⊢
        rw [last_eqv]
        refine ⟨_, rfl, ?_⟩
        by_cases cl : ds.getLast? = some 0
        · rw [if_pos cl] at q
          rw [decide_eq_true cl]
          exact iteT (iteT (q _ s06))
        · rw [if_neg cl] at q
          rw [decide_eq_false cl]
          refine iteF ⟨_, rfl, rfl, _, rfl, ?_⟩
          have ring_or : (∃ i, R = .ring i) ∨ (playD R (firstsD (.list regs)) acc = .list ((lastV (firstsD (.list regs)) acc).map PyData.int) ∧ valR R (.list regs) gs acc = dotI gs (lastV (firstsD (.list regs)) acc ++ [1])) := by
            have ve := valsAt_full (vs := firstsD (.list regs)) (acc := acc)
            cases R with
            | ring i => exact .inl ⟨i, rfl⟩
            | _ => exact .inr ⟨rfl, by rw [← ve]; rfl⟩
          rcases ring_or with ⟨i, rfl⟩ | ⟨pe, ve⟩
          · cases du
            exact iteT (q _ s06)
          · rw [pe] at du
            rw [ve] at q
            clear pe ve
            cases du with
            | @lst l xs _ el _ dl =>
              obtain rfl := dl.ints_eq
              refine iteF ⟨_, rfl, _, rfl, by show 1 ≤ sizeLine; decide, fun l1 n1 => ?_⟩
              have RO := pa.all PO.modesOk (fun r hr => by cases hr)
              have lvl : (lastV (firstsD (.list regs)) acc).length = regs.length := by
                have := valsAt_len (vs := firstsD (.list regs)) RO (by unfold firstsD; rw [List.length_map]) acc.length (Nat.le_refl _)
                rw [valsAt_full] at this
                exact this
              have regs3 : regs.length ≤ 3 := by have := (partsD_all PO.regs).2.1; exact Int.ofNat_le.mp this
              have w0' := ws acc.length (Nat.le_refl _)
              rw [valsAt_full] at w0'
              have t1 : Same H6 (upd H6 l1 (.lst [.int 1])) := Same.new n1
              have x1 : (upd H6 l1 (.lst [.int 1])) l1 = some (.lst [.int 1]) := upd_same
              generalize upd H6 l1 (.lst [.int 1]) = G1 at t1 x1 ⊢
              refine ⟨l, l1, _, _, rfl, rfl, t1 _ _ (s46 _ _ el), x1, by rw [List.length_map, lvl]; exact Nat.le_trans (show regs.length + 1 ≤ 4 by omega) (by decide), fun l2 n2 => ?_⟩
              have t2 : Same G1 (upd G1 l2 (.lst ((lastV (firstsD (.list regs)) acc).map V.int ++ [.int 1]))) := Same.new n2
              have x2 : (upd G1 l2 (.lst ((lastV (firstsD (.list regs)) acc).map V.int ++ [.int 1]))) l2 = some (.lst ((lastV (firstsD (.list regs)) acc ++ [1]).map V.int)) := by rw [upd_same, List.map_append]; rfl
              generalize upd G1 l2 (.lst ((lastV (firstsD (.list regs)) acc).map V.int ++ [.int 1])) = G2 at t2 x2 ⊢
              have g6 := g4.fr (Fm.of (((s06.trans t1).trans t2)))
              obtain ⟨ga, gx, rfl, dgx, ega, _, _⟩ := g6.tupOf rfl
              have dgx : DtAll Z0 G2 gx (gs.map PyData.int) := dgx
              obtain rfl := dgx.ints_eq
              refine ⟨ga, l2, gs, _, rfl, ega, x2, by rw [List.length_append, lvl]; show regs.length + 1 ≤ 1000; omega, sg, fun z hz => ?_, fun G3 t3 => q _ (((s06.trans t1).trans t2).trans t3)⟩
              rcases List.mem_append.mp hz with hz | hz
              · exact w0' z hz
              · rw [List.mem_singleton.mp hz]
                exact ⟨by decide, by decide⟩
end
/-! ### _law_words -/
section
variable {P : Program} {w : World} {K : PySem.W.Frag} {mg : Str → Option Value} {base : Heap} {aR : Addr}
abbrev s__law_words : Stmt := top 73
abbrev N__law_words : List Str := ["_law_size", "_law_most", "_law_found", "_law_last", "_law_turn", "_law_longer", "_law_word", "_law_figure"]
theorem sc__law_words : FnScope N__law_words ["_law_size", "_law_most"] (defScope s__law_words) := ⟨rfl, rfl, rfl, by decide +kernel, rfl, by decide +kernel, by decide +kernel⟩
/-- a list of words -/
def WordsAt (H : Hp) (size : Int) (n : Nat) (xs : List V) : Prop := ∀ v ∈ xs, ∃ (t : Addr) (ds : List Int), v = .ref t ∧ H t = some (.tup (ds.map V.int)) ∧ ds.length ≤ n ∧ ∀ d ∈ ds, 0 ≤ d ∧ d ≤ size - 1
theorem WordsAt.kt {H H' : Hp} {size : Int} {n : Nat} {xs : List V} (h : WordsAt H size n xs) (k : KT H H') : WordsAt H' size n xs := fun v hv => by
  obtain ⟨t, ds, e, a, b⟩ := h v hv
  exact ⟨t, ds, e, k _ _ a, b⟩
theorem WordsAt.le {H : Hp} {size : Int} {n m : Nat} {xs : List V} (h : WordsAt H size n xs) (k : n ≤ m) : WordsAt H size m xs := fun v hv => by
  obtain ⟨t, ds, e, a, l, b⟩ := h v hv
  exact ⟨t, ds, e, a, by omega, b⟩
theorem WordsAt.app {H : Hp} {size : Int} {n : Nat} {xs ys : List V} (h : WordsAt H size n xs) (g : WordsAt H size n ys) : WordsAt H size n (xs ++ ys) := fun v hv => (List.mem_append.mp hv).elim (h v) (g v)
theorem WordsAt.nil {H : Hp} {size : Int} {n : Nat} : WordsAt H size n [] := fun v hv => by cases hv
theorem WordsAt.one {H : Hp} {size : Int} {n : Nat} {t : Addr} {ds : List Int} (h : H t = some (.tup (ds.map V.int))) (l : ds.length ≤ n) (b : ∀ d ∈ ds, 0 ≤ d ∧ d ≤ size - 1) : WordsAt H size n [.ref t] := fun v hv => ⟨t, ds, List.mem_singleton.mp hv, h, l, b⟩
theorem same_none {H H' : Hp} (s : Same H H') {l : Addr} (n : H' l = none) : H l = none := by
  cases e : H l with
  | none => rfl
  | some o =>
    rw [s _ _ e] at n
    cases n
def rCatW : R2 := fun x y H Q => ∃ a b xs ys, x = .ref a ∧ y = .ref b ∧ H a = some (.tup xs) ∧ H b = some (.tup ys) ∧ xs.length + ys.length ≤ sizeLine ∧
  (xs = [] → Q (.ref b) H) ∧ (xs ≠ [] → ys = [] → Q (.ref a) H) ∧ (xs ≠ [] → ys ≠ [] → ∀ p, H p = none → Q (.ref p) (upd H p (.tup (xs ++ ys))))
theorem catW {X : Cx} : OpR X (binaryOp .Add) rCatW := fun a b c d e f g h i j k l ⟨a1, b1, xs, ys, e1, e2, h1, h2, z⟩ => op_catA a b c d e f g h i j k l ⟨a1, b1, xs, ys, e1, e2, SqT.of h1, SqT.of h2, z⟩
def spWords : Sp := fun vs H Q _ => ∃ size most : Int, vs = [.int size, .int most] ∧ 2 ≤ size ∧ size ≤ 3 ∧ most = 3 ∧
  ∀ H' l xs, Same H H' → H l = none → H' l = some (.lst xs) → xs.length ≤ 82 → WordsAt H' size 3 xs → Q (.ref l) H'
theorem ok__law_words (h : Has K mg "_law_words" s__law_words ["_law_size", "_law_most"]) (T : Txt K mg aR) : Ok P w K mg base 1 "_law_words" ["_law_size", "_law_most"] spWords := by
  obtain ⟨f, fd, g, b, F⟩ := h
  refine ⟨f, fd, g, F.kp, b, F.ok sc__law_words (fun vs H Q E h => ?_) (fun cdv A outer s H vs Q E hr h => ?_)⟩
  · obtain ⟨size, most, rfl, _⟩ := h
    rfl
  · obtain ⟨size, most, rfl, s2, s3, rfl, q⟩ := h
    refine ⟨_, (pss_cons (ps_par (by rfl) sc__law_words.nd (i := 2) (j := 3) rfl rfl (by decide) rfl rfl (pa_cons (pe_lst (pa_cons (pe_tup pa_nil) pa_nil)) (pa_cons (pe_lst (pa_cons (pe_tup pa_nil) pa_nil)) pa_nil)) (by rfl))
      (pss_cons (ps_for PassesOwn.never rfl (pi_range1 (by rfl) T.range (pa_cons (pv 1) pa_nil)) (pg_name (i := 4) sc__law_words.nd rfl (.inl rfl))
        (pss_cons (ps_set (i := 5) sc__law_words.nd rfl (.inl rfl) (pe_lst pa_nil))
        (pss_cons (ps_for PassesOwn.never rfl (pi_seq (pv 3)) (pg_name (i := 6) sc__law_words.nd rfl (.inr rfl))
          (pss_one (ps_set (i := 5) sc__law_words.nd rfl (.inl rfl) (pe_op op_cat (pv 5) (pe_lc (own := [("_law_figure", 7)]) (g := (gName 7)) (tt := tYes) rfl sc__law_words.nd (pi_range1 (by rfl) T.range (pa_cons (pv 0) pa_nil)) (blkOk_by (N := N__law_words) (sc := defScope s__law_words) (by decide +kernel)) (fun _ _ _ _ _ => (pg_name (i := 7) sc__law_words.nd rfl (by first | exact Or.inl rfl | exact Or.inr rfl))) (fun _ _ _ _ _ => pts_nil) (fun _ _ _ _ _ => (pe_op catW (pv 6) (pe_tup (pa_cons (pv 7) pa_nil)))))))))
        (pss_one (ps_par (by rfl) sc__law_words.nd (i := 2) (j := 3) rfl rfl (by decide) rfl rfl (pa_cons (pe_op op_cat (pv 2) (pv 5)) (pa_cons (pv 5) pa_nil)) (by rfl))))))
      (pss_one (ps_ret (pv 2))))), ?_⟩
    refine ⟨by show 0 ≤ sizeLine; decide, fun t1 n1 => ?_⟩
    have s1 : Same H (upd H t1 (.tup [])) := Same.new n1
    have e1 : (upd H t1 (.tup [])) t1 = some (.tup (([] : List Int).map V.int)) := upd_same
    generalize upd H t1 (.tup []) = H1 at s1 e1 ⊢
    refine ⟨by show 1 ≤ sizeLine; decide, fun l1 m1 => ?_⟩
    have s2' : Same H1 (upd H1 l1 (.lst [.ref t1])) := Same.new m1
    have e2 : (upd H1 l1 (.lst [.ref t1])) l1 = some (.lst [.ref t1]) := upd_same
    generalize upd H1 l1 (.lst [.ref t1]) = H2 at s2' e2 ⊢
    have s02 := s1.trans s2'
    refine ⟨by show 0 ≤ sizeLine; decide, fun t2 n2 => ?_⟩
    have s3' : Same H2 (upd H2 t2 (.tup [])) := Same.new n2
    have e3 : (upd H2 t2 (.tup [])) t2 = some (.tup (([] : List Int).map V.int)) := upd_same
    generalize upd H2 t2 (.tup []) = H3 at s3' e3 ⊢
    refine ⟨by show 1 ≤ sizeLine; decide, fun l2 m2 => ?_⟩
    have s4 : Same H3 (upd H3 l2 (.lst [.ref t2])) := Same.new m2
    have e4 : (upd H3 l2 (.lst [.ref t2])) l2 = some (.lst [.ref t2]) := upd_same
    generalize upd H3 l2 (.lst [.ref t2]) = H4 at s4 e4 ⊢
    have s24 := s3'.trans s4
    have s04 := s02.trans s24
    refine ⟨_, _, rfl, ?_⟩
    refine ⟨_, rfl, 3, rfl, by decide, by decide, for_range (n := 3) (fun i σ H' => Same H H' ∧ (∃ fl ll fs ls, H' fl = some (.lst fs) ∧ H fl = none ∧ H' ll = some (.lst ls) ∧ WordsAt H' size 3 fs ∧ WordsAt H' size i ls ∧ ls.length ≤ 3 ^ i ∧ fs.length ≤ 1 + 27 * i ∧ ∃ v4 v5 v6 v7 : Option V, σ = [some (.int size), some (.int 3), some (.ref fl), some (.ref ll), v4, v5, v6, v7]))
      ⟨s04, l1, l2, _, _, s24 _ _ e2, same_none s1 m1, e4, WordsAt.one (s24 _ _ (s2' _ _ e1)) (Nat.zero_le _) (fun d hd => by cases hd), WordsAt.one (s4 _ _ e3) (Nat.zero_le _) (fun d hd => by cases hd), Nat.le_refl _, Nat.le_refl _, none, none, none, none, rfl⟩ ?_ ?_⟩
    · rintro i σ H5 hi ⟨s5, fl, ll, fs, ls, efl, nfl, ell, wf, wl, bl, bf, v4, v5, v6, v7, rfl⟩
      have p9 : 3 ^ i ≤ 9 := Nat.pow_le_pow_right (by decide) (by omega : i ≤ 2)
      refine ⟨by show 0 ≤ sizeLine; decide, fun lg nlg => ?_⟩
      have s6 : Same H5 (upd H5 lg (.lst [])) := Same.new nlg
      have elg : (upd H5 lg (.lst [])) lg = some (.lst []) := upd_same
      generalize upd H5 lg (.lst []) = H6 at s6 elg ⊢
      have ell6 := s6 _ _ ell
      have s06 := s5.trans s6
      refine ⟨_, rfl, ll, ls, _, rfl, .inl rfl, ell6, fun J wk => for_it wk (fun n σ H' => Same H6 H' ∧ ∃ lg xs, H' lg = some (.lst xs) ∧ H lg = none ∧ WordsAt H' size (i + 1) xs ∧ xs.length ≤ 3 * n ∧ ∃ v4 v6 v7 : Option V, σ = [some (.int size), some (.int 3), some (.ref fl), some (.ref ll), v4, some (.ref lg), v6, v7]) ⟨Same.refl _, lg, [], elg, same_none s5 nlg, WordsAt.nil, Nat.zero_le _, _, _, _, rfl⟩ (fun n σ H' _ z => z.1 _ _ ell6) ?_ ?_⟩
      · rintro n x σ H7 H' hn ⟨s7, lg, xs, elg, nlg, wx, lx, v4, v6, v7, rfl⟩ yy
        obtain ⟨rfl, ex⟩ := yy
        obtain ⟨t, ds, rfl, et, lds, bds⟩ := (wl.kt (KT.same (s6.trans s7))) x (List.mem_of_getElem? ex)
        refine ⟨_, rfl, _, rfl, size, rfl, by omega, by omega, fun D hD => ?_⟩
        refine lc_range (n := size.toNat) (fun k G => (∀ b o, H' b = some o → G b = some o) ∧ ∃ ac, G D = some (.lst ac) ∧ WordsAt G size (i + 1) ac ∧ ac.length = k) ⟨Same.new hD, [], upd_same, WordsAt.nil, rfl⟩ ?_ ?_
        · rintro k G hk ⟨kG, ac, hac, wac, lac⟩
          refine ⟨rfl, ?_⟩
          have go : ∀ (t' : Addr) (G' : Hp), (∀ b o, G b = some o → G' b = some o) → G' t' = some (.tup ((ds ++ [0 + (k : Int)]).map V.int)) → ∃ acc, G' D = some (HO.lst acc) ∧ acc.length < sizeLine ∧ (∀ (b : Addr) (o : HO), H' b = some o → upd G' D (HO.lst (acc ++ [.ref t'])) b = some o) ∧ ∃ ac, upd G' D (HO.lst (acc ++ [.ref t'])) D = some (HO.lst ac) ∧ WordsAt (upd G' D (HO.lst (acc ++ [.ref t']))) size (i + 1) ac ∧ ac.length = k + 1 := fun t' G' s' et' => by
            refine ⟨ac, s' _ _ hac, Nat.lt_of_lt_of_le (by omega : ac.length < 4) (by decide), fun b o ho => ?_, _, upd_same, ?_, by rw [List.length_append, lac]; rfl⟩
            · rw [upd_ne (fun z => by rw [z, hD] at ho; cases ho)]
              exact s' _ _ (kG _ _ ho)
            · have kt : KT G (upd G' D (.lst (ac ++ [.ref t']))) := (fun t vs h => KT.upd (s' _ _ hac) t vs (s' _ _ h))
              refine (wac.kt kt).app (WordsAt.one (KT.upd (s' _ _ hac) _ _ et') (by rw [List.length_append]; exact Nat.succ_le_succ lds) fun d hd => ?_)
              rcases List.mem_append.mp hd with hd | hd
              · exact bds d hd
              · rw [List.mem_singleton.mp hd]
                omega
          refine ⟨_, rfl, _, rfl, by show 1 ≤ sizeLine; decide, fun p np => ?_⟩
          have t1 : Same G (upd G p (.tup [.int (0 + (k : Int))])) := Same.new np
          have ep : (upd G p (.tup [.int (0 + (k : Int))])) p = some (.tup [.int (0 + (k : Int))]) := upd_same
          generalize upd G p (.tup [.int (0 + (k : Int))]) = G1 at t1 ep ⊢
          refine ⟨t, p, _, _, rfl, rfl, t1 _ _ (kG _ _ et), ep, ?_, fun z => ?_, fun _ z => by simp at z, fun _ _ q' nq => ?_⟩
          · rw [List.length_map]
            exact Nat.le_trans (show ds.length + 1 ≤ 4 by omega) (by decide)
          · have : ds = [] := by simpa using z
            subst this
            exact go p G1 t1 ep
          · refine go q' _ (t1.trans (Same.new nq)) ?_
            rw [upd_same, List.map_append]
            rfl
        · rintro G ⟨kG, ac, hac, wac, lac⟩
          refine ⟨lg, D, _, _, rfl, rfl, kG _ _ elg, hac, Nat.le_trans (show xs.length + ac.length ≤ 100 by omega) (by decide), fun l3 n3 => ?_⟩
          have sG : Same G (upd G l3 (.lst (xs ++ ac))) := Same.new n3
          exact ⟨s7.trans (Same.trans kG sG), l3, xs ++ ac, upd_same, same_none (s06.trans (s7.trans kG)) n3, ((wx.kt (KT.same kG)).app wac).kt (KT.same sG), by rw [List.length_append]; omega, _, _, _, rfl⟩
      · rintro σ H7 ⟨s7, lg, xs, elg, nlg, wx, lx, v4, v6, v7, rfl⟩
        have s57 := s6.trans s7
        have p3 : 3 ^ (i + 1) = 3 ^ i * 3 := Nat.pow_succ 3 i
        refine ⟨_, rfl, _, rfl, fl, lg, _, _, rfl, rfl, s57 _ _ efl, elg, Nat.le_trans (show fs.length + xs.length ≤ 200 by omega) (by decide), fun l4 n4 => ?_⟩
        have s8 : Same H7 (upd H7 l4 (.lst (fs ++ xs))) := Same.new n4
        refine ⟨_, rfl, _, _, rfl, ?_⟩
        exact ⟨s5.trans (s57.trans s8), l4, lg, fs ++ xs, xs, upd_same, same_none (s5.trans s57) n4, s8 _ _ elg, ((wf.kt (KT.same s57)).app (wx.le (by omega))).kt (KT.same s8), wx.kt (KT.same s8), by omega, by rw [List.length_append]; omega, _, _, _, _, rfl⟩
    · rintro σ H5 ⟨s5, fl, ll, fs, ls, efl, nfl, ell, wf, wl, bl, bf, v4, v5, v6, v7, rfl⟩
      exact ⟨_, rfl, q _ _ _ s5 nfl efl (by omega) wf⟩
end
/-! ### _law_refused, _law_no_side -/
section
variable {P : Program} {w : World} {K : PySem.W.Frag} {mg : Str → Option Value} {base : Heap} {aR CP CS CF : Addr}
/-- what the text's top has of a class of errors -/
structure ETw (K : PySem.W.Frag) (mg : Str → Option Value) (n : Str) (CR : Addr) : Prop where
  m : mg n = some (.ref CR)
  e : PySem.W.exmOne K (.ref CR) (.ref CR) = some true
  xf : XfC K CR
  nv : PySem.W.findIn K (.ref CR) "value" = some none
def tsW (CR : Addr) (i : Nat) (v : V) (d : PyData) : Addr → Value → Option Addr → TS := fun a kd dd D τ G => τ.length = 4 → τ[i]? = some (some v) ∧ τ[3]? = some (some (.ref a)) ∧ kd = .ref CR ∧ ∃ (dx : Addr), dd = some dx ∧ G dx = some (.xd [("value", v)]) ∧ Dt Z0 G v d ∧ SeqAt.shaped d = true ∧ D.rt (.bl true) G
theorem takes_none {X : Cx} : Takes X (fun _ _ _ _ => False) := fun _ _ z => by
  obtain ⟨a, B, sI, pins1, τ1, G1, kd, dd, rfl, J1, nb, up, sky, free, os, ag, wish⟩ := z
  exact wish.elim
theorem word_back {size : Int} {ds : List Int} (h : ∀ e ∈ ds, 0 ≤ e ∧ e ≤ size - 1) : wordD (.tuple (ds.map PyData.int)) size = true := by
  unfold wordD
  have a : (itemsD (.tuple (ds.map PyData.int))).all (fun x => betw x 0 (size - 1)) = true := by
    refine List.all_eq_true.mpr fun x hx => ?_
    obtain ⟨i, hi, rfl⟩ := List.mem_map.mp hx
    show (decide (0 ≤ i) && decide (i ≤ size - 1)) = true
    obtain ⟨b, c⟩ := h i hi
    rw [decide_eq_true b, decide_eq_true c]
    rfl
  rw [a]
  rfl
abbrev s__law_refused : Stmt := top 74
abbrev N__law_refused : List Str := ["_law_program", "_law_side", "_law_word", "e"]
theorem sc__law_refused : FnScope N__law_refused ["_law_program", "_law_side", "_law_word"] (defScope s__law_refused) := ⟨rfl, rfl, rfl, by decide +kernel, rfl, by decide +kernel, by decide +kernel⟩
def spWRef (P : Program) (w : World) (CP : Addr) : Sp := fun vs H Q _ => ∃ p v d z dz b d1 d2 d3 d4, vs = [.ref p, v, z] ∧ Dt Z0 H v d ∧ Dt Z0 H z dz ∧ (itemsD dz).length ≤ 1000 ∧ ProgOk P w CP H p b d1 d2 d3 d4 ∧ signD d = true ∧ wordD dz (if b < 0 then -b else b) = false ∧ SeqAt.shaped dz = true ∧ ∀ H', Same H H' → Q (.bl true) H'
theorem ok__law_refused (h : Has K mg "_law_refused" s__law_refused ["_law_program", "_law_side", "_law_word"]) (R : ETw K mg "InvalidFigures" CF) (O_word_value : OkX P w K mg base 10 "word_value" ["program", "sign", "word"] (spWordValue P w CP CS CF)) : Ok P w K mg base 11 "_law_refused" ["_law_program", "_law_side", "_law_word"] (spWRef P w CP) := by
  obtain ⟨f, fd, g, b, F⟩ := h
  refine ⟨f, fd, g, F.kp, b, F.ok sc__law_refused (fun vs H Q E h => ?_) (fun cdv A outer s H vs Q E hr h => ?_)⟩
  · obtain ⟨p, v, d, z, dz, b, d1, d2, d3, d4, rfl, _⟩ := h
    rfl
  · obtain ⟨p, v, d, z, dz, b, d1, d2, d3, d4, rfl, hd, hz, few, PK, sg, bad, shp, q⟩ := h
    obtain ⟨fD, fdD, gD, kpD, bD, GD⟩ := O_word_value
    refine ⟨_, pss_cons (ps_tryN rfl rfl sc__law_refused.nd (out := fun _ _ _ _ => False) (l := [⟨.ref CF, some 3, tsW CF 2 z dz⟩]) ?tk (fun W ps xe tk _ => pss_one (ps_expr (pe_callS GD (hr.mono (by decide)) rfl gD kpD bD (fun σ => passAt tk σ) (pa_cons (pv 0) (pa_cons (pv 1) (pa_cons (pv 2) pa_nil))))))
      (.named (i := 3) ⟨rfl, by decide +kernel, .inl R.m⟩ rfl rfl ?su .nil)) (pss_one (ps_ret pe_bl)), ?_⟩
    case tk => exact takes_none
    case su =>
      intro a ob kd dd ps zc isF
      refine PSs.imp (PSs.len (pss_one (ps_ret (pe_cmpR (eqD hr.units) (pe_xf R.xf R.nv zc isF (pv 3)) (pv 2) (nomark _))))) ?_
      intro D τ G w1 len
      obtain ⟨e0, e1, rfl, dx, rfl, ed, dt, sh, q⟩ := w1 len
      refine ⟨_, e1, rfl, rfl, dx, _, z, rfl, ed, rfl, z, e0, dz, dz, Z0, Z0, dt, dt, sh, sh, ?_⟩
      rw [SeqAt.eqv_refl _ (SeqAt.canLay_of_shaped sh)]
      exact q
    refine ⟨_, rfl, _, rfl, _, rfl, p, v, d, z, dz, b, d1, d2, d3, d4, rfl, hd, hz, few, PK, fun c => ?_, fun _ _ H' dx s' hx => ?_, fun s ds e1 _ e2 e3 => ?_⟩
    · rw [sg] at c
      cases c
    · refine ⟨true, R.e, fun _ a na len => ?_, (fun z => nomatch z)⟩
      have s2 : Same H (upd H' dx (.xd [("value", z)])) := s'.trans (Same.new hx)
      exact ⟨rfl, rfl, rfl, dx, rfl, upd_same, hz.fr (Fm.of s2), shp, q _ s2⟩
    · rw [e2, word_back e3] at bad
      cases bad
abbrev s__law_no_side : Stmt := top 75
abbrev N__law_no_side : List Str := ["_law_program", "_law_side", "_law_word", "e"]
theorem sc__law_no_side : FnScope N__law_no_side ["_law_program", "_law_side", "_law_word"] (defScope s__law_no_side) := ⟨rfl, rfl, rfl, by decide +kernel, rfl, by decide +kernel, by decide +kernel⟩
def spNoSide (P : Program) (w : World) (CP : Addr) : Sp := fun vs H Q _ => ∃ p v d z dz b d1 d2 d3 d4, vs = [.ref p, v, z] ∧ Dt Z0 H v d ∧ Dt Z0 H z dz ∧ (itemsD dz).length ≤ 1000 ∧ ProgOk P w CP H p b d1 d2 d3 d4 ∧ signD d = false ∧ SeqAt.shaped d = true ∧ ∀ H', Same H H' → Q (.bl true) H'
theorem ok__law_no_side (h : Has K mg "_law_no_side" s__law_no_side ["_law_program", "_law_side", "_law_word"]) (R : ETw K mg "InvalidSign" CS) (O_word_value : OkX P w K mg base 10 "word_value" ["program", "sign", "word"] (spWordValue P w CP CS CF)) : Ok P w K mg base 11 "_law_no_side" ["_law_program", "_law_side", "_law_word"] (spNoSide P w CP) := by
  obtain ⟨f, fd, g, b, F⟩ := h
  refine ⟨f, fd, g, F.kp, b, F.ok sc__law_no_side (fun vs H Q E h => ?_) (fun cdv A outer s H vs Q E hr h => ?_)⟩
  · obtain ⟨p, v, d, z, dz, b, d1, d2, d3, d4, rfl, _⟩ := h
    rfl
  · obtain ⟨p, v, d, z, dz, b, d1, d2, d3, d4, rfl, hd, hz, few, PK, sg, shp, q⟩ := h
    obtain ⟨fD, fdD, gD, kpD, bD, GD⟩ := O_word_value
    refine ⟨_, pss_cons (ps_tryN rfl rfl sc__law_no_side.nd (out := fun _ _ _ _ => False) (l := [⟨.ref CS, some 3, tsW CS 1 v d⟩]) ?tk (fun W ps xe tk _ => pss_one (ps_expr (pe_callS GD (hr.mono (by decide)) rfl gD kpD bD (fun σ => passAt tk σ) (pa_cons (pv 0) (pa_cons (pv 1) (pa_cons (pv 2) pa_nil))))))
      (.named (i := 3) ⟨rfl, by decide +kernel, .inl R.m⟩ rfl rfl ?su .nil)) (pss_one (ps_ret pe_bl)), ?_⟩
    case tk => exact takes_none
    case su =>
      intro a ob kd dd ps zc isF
      refine PSs.imp (PSs.len (pss_one (ps_ret (pe_cmpR (eqD hr.units) (pe_xf R.xf R.nv zc isF (pv 3)) (pv 1) (nomark _))))) ?_
      intro D τ G w1 len
      obtain ⟨e0, e1, rfl, dx, rfl, ed, dt, sh, q⟩ := w1 len
      refine ⟨_, e1, rfl, rfl, dx, _, v, rfl, ed, rfl, v, e0, d, d, Z0, Z0, dt, dt, sh, sh, ?_⟩
      rw [SeqAt.eqv_refl _ (SeqAt.canLay_of_shaped sh)]
      exact q
    refine ⟨_, rfl, _, rfl, _, rfl, p, v, d, z, dz, b, d1, d2, d3, d4, rfl, hd, hz, few, PK, fun _ H' dx s' hx => ?_, fun c => ?_, fun s ds e1 e0 _ _ => ?_⟩
    · refine ⟨true, R.e, fun _ a na len => ?_, (fun z => nomatch z)⟩
      have s2 : Same H (upd H' dx (.xd [("value", v)])) := s'.trans (Same.new hx)
      exact ⟨rfl, rfl, rfl, dx, rfl, upd_same, hd.fr (Fm.of s2), shp, q _ s2⟩
    · rw [sg] at c
      cases c
    · subst e1
      rcases e0 with rfl | rfl <;> cases sg
end
/-! ### words of drawn programs -/
section
variable {P : Program} {w : World} {CP : Addr}
theorem ProgOk.keepL {Z : Addr → Prop} {H H' : Hp} {p : Addr} {b : Int} {d1 d2 d3 d4 : PyData} (h : ProgOk P w CP H p b d1 d2 d3 d4) (n : ∀ q, Z q → ∃ xs, H q = some (.lst xs)) (f : Fm Z H H') : ProgOk P w CP H' p b d1 d2 d3 d4 := by
  obtain ⟨⟨dx, vr, vm, ve, va, vt, e, a1, a2, a3, a4, kvs, at_k, pr⟩, PO, z1, z2⟩ := h
  have go : ∀ {q : Addr} {o : HO}, H q = some o → (∀ xs, o ≠ .lst xs) → H' q = some o := fun {q o} g k => f q o g fun z => by
    obtain ⟨xs, l⟩ := n q z
    rw [g] at l
    exact k xs (Option.some.inj l)
  have up : ∀ {v : V} {d : PyData}, noL d = true → Dt Z0 H v d → Dt Z0 H' v d := fun l d => ((d.offL n l).fr f).z0
  obtain ⟨_, _, all2⟩ := partsD_all PO.modes
  refine ⟨⟨dx, vr, vm, ve, va, vt, go e (fun _ h => by cases h), up (by unfold noL; exact PO.regsNoL) a1, up (by
    unfold noL
    refine noLs_all fun x hx => ?_
    obtain ⟨md, hm, rfl⟩ := List.mem_map.mp hx
    have mk := all2 md hm
    have h0 : noL (itD md 0) = true := by rw [modeD_name mk]; exact str_noL
    have h1 := ruleD_noL (modeD_rule mk)
    have h2 : noL (.tuple (itemsD (itD md 2))) = true := by unfold noL; exact PO.rowNoL hm
    unfold normM noL noLs noLs noLs noLs
    rw [h0, h1, h2]
    rfl) a2, up (by unfold noL; exact PO.endsNoL) a3, up PO.resNoL a4, kvs, go at_k (fun _ h => by cases h), ?_⟩, PO, z1, z2⟩
  have nol : ∀ md ∈ itemsD d2, ∀ r ∈ itemsD (itD md 2), noL (valD r) = true := fun md hm r hr => by
    have rd := (wrongRow_rows (rowsErr_none PO.rows md hm)).1 r hr
    unfold rowD at rd
    simp only [Bool.and_eq_true] at rd
    obtain ⟨_, _, _, h1, h2⟩ := rd
    have e3 : noL (itD r 3) = true := by
      revert h2
      cases itD r 3 <;> intro h2 <;> first | (simp [noL]; done) | cases h2
    unfold valD noL noLs noLs noLs
    rw [upsD_noL h1, e3]
    rfl
  refine L2.Paired.mapP (pr_mem pr) fun md kv z => ?_
  obtain ⟨⟨e1, D, e2, kbs, ⟨t1, t2⟩, p2⟩, mm, _⟩ := z
  refine ⟨e1, D, e2, kbs, ⟨go t1 (fun _ h => by cases h), fun x hx => go (t2 x hx) (fun _ h => by cases h)⟩, ?_⟩
  exact L2.Paired.mapP (pr_mem p2) fun r x z => ⟨z.1.1, up (nol md mm r z.2.1) z.1.2⟩
theorem ProgOk.keepP {H H' : Hp} {pp p : Addr} {b : Int} {d1 d2 d3 d4 : PyData} (h : ProgOk P w CP H p b d1 d2 d3 d4) (Pl : PoolAt H pp) (k : Keep pp H H') : ProgOk P w CP H' p b d1 d2 d3 d4 := h.keepL (Z := Zp pp) (fun q z => by
  obtain ⟨c, s, _, _, e⟩ := Pl
  exact ⟨_, by rw [show q = pp from z]; exact e⟩) k.fr
end
section
variable {P : Program} {w : World} {CP : Addr}
theorem Drawn.goals {size b : Int} {many : Nat} {zs : List Str} {regs modes ends goal : List PyData} (h : Drawn size b many zs regs modes ends goal) : ∃ gs : List Int, goal = gs.map PyData.int := by
  refine ⟨goal.map iOf, ?_⟩
  rw [List.map_map]
  conv => lhs; rw [← List.map_id goal]
  refine List.map_congr_left fun d hd => ?_
  obtain ⟨i, ei⟩ := List.mem_iff_getElem?.mp hd
  obtain ⟨c, rfl, _⟩ := h.goal i d ei
  rfl
theorem SqL.sm {K : PySem.W.Frag} {H H' : Hp} {a : Addr} {xs : List V} (e : Same H H') (h : SqL K H a xs) : SqL K H' a xs := by
  rcases h with (h | ⟨o, h⟩) | h
  · exact .inl (.inl (e _ _ h))
  · exact .inl (.inr ⟨o, e _ _ h⟩)
  · exact .inr h
theorem valF_lt {size : Int} (h2 : 2 ≤ size) (h10 : size ≤ 10) : ∀ {ds : List Int}, (∀ e ∈ ds, 0 ≤ e ∧ e ≤ size - 1) → 0 ≤ valF size ds ∧ valF size ds < ((10 ^ ds.length : Nat) : Int)
  | [], _ => ⟨Int.le_refl _, by
    show (0 : Int) < ((10 ^ 0 : Nat) : Int)
    decide⟩
  | d :: ds, h => by
    obtain ⟨a, b⟩ := valF_lt h2 h10 (ds := ds) fun e he => h e (List.mem_cons_of_mem _ he)
    obtain ⟨c, e⟩ := h d List.mem_cons_self
    have v : valF size (d :: ds) = valF size ds * size + d := rfl
    have m : valF size ds * size ≤ valF size ds * 10 := Int.mul_le_mul_of_nonneg_left h10 a
    have z : 0 ≤ valF size ds * size := Int.mul_nonneg a (by omega)
    rw [v, List.length_cons, Nat.pow_succ]
    generalize 10 ^ ds.length = N at b ⊢
    omega
theorem valF_abs {size : Int} (h2 : 2 ≤ size) (h10 : size ≤ 10) {ds : List Int} (l : ds.length ≤ 31) (h : ∀ e ∈ ds, 0 ≤ e ∧ e ≤ size - 1) : (valF size ds).natAbs < 10 ^ 31 := by
  obtain ⟨a, b⟩ := valF_lt h2 h10 h
  have p : 10 ^ ds.length ≤ 10 ^ 31 := Nat.pow_le_pow_right (by decide) l
  generalize 10 ^ ds.length = N at b p
  generalize 10 ^ 31 = M at p ⊢
  omega
theorem md_31 {x : Int} (h : x.natAbs < 10 ^ 31) : Md x := by
  have : (10 : Nat) ^ 31 < 2 ^ 200 := by decide
  have e : ((2 ^ 200 : Nat) : Int) = (2 : Int) ^ 200 := by norm_cast
  unfold Md
  rw [← e]
  generalize (2 : Nat) ^ 200 = M at this ⊢
  generalize (10 : Nat) ^ 31 = N at this h
  omega
theorem abs_b {size b : Int} {many : Nat} {zs : List Str} {regs modes ends goal : List PyData} (h : Drawn size b many zs regs modes ends goal) : (if b < 0 then -b else b) = size := by
  have := h.s0
  rcases h.b with rfl | rfl
  · rw [if_neg (by omega)]
  · rw [if_pos (by omega)]
    omega
theorem Drawn.words {size b : Int} {many : Nat} {zs : List Str} {regs modes ends goal : List PyData} (h : Drawn size b many zs regs modes ends goal) {s : Int} (hs : s = 1 ∨ s = -1) {ds : List Int} (l : ds.length ≤ 31) (hd : ∀ e ∈ ds, 0 ≤ e ∧ e ≤ size - 1) :
    ∃ n m0 R acc, Md (s * valF size ds) ∧ (∀ i, Sm (valF size (ds.drop i))) ∧ (modes.map nmOf)[0]? = some m0 ∧ Path b (.list modes) (.list ends) n m0 (s * valF size ds) [] R acc ∧ acc.length ≤ 1000 ∧ WalkSm (firstsD (.list regs)) acc := by
  have v := valF_abs h.s0 h.s1 l hd
  have va : (s * valF size ds).natAbs < 10 ^ 31 := by
    rcases hs with rfl | rfl <;> omega
  obtain ⟨m0, em⟩ : ∃ m0, (modes.map nmOf)[0]? = some m0 := ⟨_, List.getElem?_eq_getElem (by rw [h.names]; exact h.z0)⟩
  obtain ⟨n, R, acc, p, few, ws⟩ := h.way (x := s * valF size ds) (Nat.le_trans (Nat.le_of_lt va) (Nat.pow_le_pow_right (by decide) (by decide))) em
  refine ⟨n, m0, R, acc, md_31 va, fun i => (md_31 (valF_abs h.s0 h.s1 (by rw [List.length_drop]; omega) fun e he => hd e (List.mem_of_mem_drop he))).sm, em, p, by omega, ws⟩
theorem Drawn.parts {size b : Int} {many : Nat} {zs : List Str} {regs modes ends goal : List PyData} (h : Drawn size b many zs regs modes ends goal) {H : Hp} {v : V} (dv : Dt Z0 H v (.list [.int b, .list regs, .list modes, .list ends, .tuple goal])) : PartsL H v b regs modes ends (.tuple goal) where
  dv := dv
  ok := h.ok
  shape := fun m hm => by
    obtain ⟨i, ei⟩ := List.mem_iff_getElem?.mp hm
    obtain ⟨z, r, rows, _, e, _⟩ := h.modes i m ei
    exact ⟨z, r, rows, e⟩
  rk := fun r hr => by
    obtain ⟨i, ei⟩ := List.mem_iff_getElem?.mp hr
    obtain ⟨s, c, _, e, _⟩ := h.regs i r ei
    exact ⟨s, c, e⟩
theorem Drawn.goalSm {size b : Int} {many : Nat} {zs : List Str} {regs modes ends : List PyData} {gs : List Int} (h : Drawn size b many zs regs modes ends (gs.map PyData.int)) : ∀ g ∈ gs, Sm g := fun g hg => by
  obtain ⟨i, ei⟩ := List.mem_iff_getElem?.mp hg
  obtain ⟨c, e, c1, c2⟩ := h.goal i (.int g) (by rw [List.getElem?_map, ei]; rfl)
  cases e
  exact Sm.of (by omega) (by omega)
end
/-! ### the law -/
section
variable {P : Program} {w : World} {K : PySem.W.Frag} {mg : Str → Option Value} {base : Heap} {aR CP CS CF : Addr}
abbrev s_law : Stmt := top 76
abbrev N_law : List Str := ["_law_script", "_law_k", "_law_pool_here", "_law_parts_here", "_law_size", "_law_side", "_law_program", "_law_words_here", "_law_figure", "_law_turn", "_law_word", "_law_at", "_law_value_here", "_law_wrong"]
theorem sc_law : FnScope N_law ["_law_script"] (defScope s_law) := ⟨rfl, rfl, rfl, by decide +kernel, rfl, by decide +kernel, by decide +kernel⟩
def spLaw (K : PySem.W.Frag) (Pt : Addr) : Sp := fun vs H Q _ => ∃ (a : Addr) (ns : List Int), vs = [.ref a] ∧ SqL K H a (ns.map V.int) ∧ ns.length ≤ 63 ∧ H Pt = some (.tbl #[]) ∧ ∀ H', Q (.bl true) H'
/-- what the law calls -/
structure LawB (P : Program) (w : World) (K : PySem.W.Frag) (mg : Str → Option Value) (base : Heap) (CP CS CF : Addr) : Prop where
  pool : Ok P w K mg base 1 "_law_pool" ["_law_script", "_law_k"] (spPool K)
  draw : Ok P w K mg base 1 "_law_draw" ["_law_pool_here", "_law_many"] spDraw
  parts : Ok P w K mg base 5 "_law_parts" ["_law_pool_here", "_law_sizes", "_law_most", "_law_built_here"] spLParts
  made : Ok P w K mg base 10 "_law_made" ["_law_parts_here"] (spLMade P w CP)
  words : Ok P w K mg base 1 "_law_words" ["_law_size", "_law_most"] spWords
  word : OkX P w K mg base 10 "word_value" ["program", "sign", "word"] (spWordValue P w CP CS CF)
  value : Ok P w K mg base 3 "_law_value" ["_law_parts_here", "_law_side", "_law_word"] spLValue
  refused : Ok P w K mg base 11 "_law_refused" ["_law_program", "_law_side", "_law_word"] (spWRef P w CP)
  noSide : Ok P w K mg base 11 "_law_no_side" ["_law_program", "_law_side", "_law_word"] (spNoSide P w CP)
/-- all words of a size, or the ten of one figure -/
def wordsT : TE := fun σ H Q => ∃ (v0 v1 v2 v3 v5 v6 v7 v8 v9 v10 v11 v12 v13 : Option V) (size : Int), σ = [v0, v1, v2, v3, some (.int size), v5, v6, v7, v8, v9, v10, v11, v12, v13] ∧ size ∈ [(2 : Int), 3, 10] ∧ ∀ H' l xs, Same H H' → H l = none → H' l = some (.lst xs) → xs.length ≤ 82 → WordsAt H' size 3 xs → Q (.ref l) H'
/-- the last figure of a drawn word -/
def lastT : TE := fun σ H Q => ∃ (pp : Addr) (size : Int), σ[2]? = some (some (.ref pp)) ∧ σ[4]? = some (some (.int size)) ∧ 2 ≤ size ∧ size ≤ 10 ∧ PoolAt H pp ∧ ∀ t d H', 0 ≤ d → d ≤ size - 1 → PoolAt H' pp → Keep pp H H' → H' t = some (.tup [.int d]) → Q (.ref t) H'
/-- the value of a word -/
def wordT (P : Program) (w : World) (CP : Addr) : TE := fun σ H Q => ∃ (p : Addr) (s b : Int) (regs modes ends : List PyData) (gs : List Int) (t : Addr) (ds : List Int) (n : Nat) (m0 : Str) (R : Res) (acc : List Rnd), σ[6]? = some (some (.ref p)) ∧ σ[5]? = some (some (.int s)) ∧ σ[10]? = some (some (.ref t)) ∧ (s = 1 ∨ s = -1) ∧ H t = some (.tup (ds.map V.int)) ∧ ds.length ≤ 31 ∧ (∀ e ∈ ds, 0 ≤ e ∧ e ≤ (if b < 0 then -b else b) - 1) ∧
  ProgOk P w CP H p b (.list regs) (.list modes) (.list ends) (.tuple (gs.map PyData.int)) ∧ Md (s * valF (if b < 0 then -b else b) ds) ∧ (∀ i, Sm (valF (if b < 0 then -b else b) (ds.drop i))) ∧ (modes.map nmOf)[0]? = some m0 ∧ Path b (.list modes) (.list ends) n m0 (s * valF (if b < 0 then -b else b) ds) [] R acc ∧ acc.length ≤ 1000 ∧ WalkSm (firstsD (.list regs)) acc ∧
  ∀ H', Same H H' → Q (.int (if ds.getLast? = some 0 then 0 else valR R (.list regs) gs acc)) H'
def LawO (H : Hp) (a0 : Addr) (_ : Nat) (σ : L2.St) (G : Hp) : Prop := Same H G ∧ ∃ v1 v2 v3 v4 v5 v6 v7 v8 v9 v10 v11 v12 v13 : Option V, σ = [some (.ref a0), v1, v2, v3, v4, v5, v6, v7, v8, v9, v10, v11, v12, v13]
def LawT (H7 : Hp) (a0 pp a p L : Addr) (k s size : Int) (i : Nat) (σ : L2.St) (G : Hp) : Prop := Keep pp H7 G ∧ PoolAt G pp ∧ (∃ xs, G L = some (.lst xs) ∧ xs.length ≤ 82 + i ∧ WordsAt G size 31 xs) ∧ ∃ v8 v9 v10 v11 v12 v13 : Option V, σ = [some (.ref a0), some (.int k), some (.ref pp), some (.ref a), some (.int size), some (.int s), some (.ref p), some (.ref L), v8, v9, v10, v11, v12, v13]
def LawW (H8 : Hp) (a0 pp a p L : Addr) (k s size : Int) (_ : Nat) (σ : L2.St) (G : Hp) : Prop := Same H8 G ∧ ∃ v8 v9 v10 v11 v12 v13 : Option V, σ = [some (.ref a0), some (.int k), some (.ref pp), some (.ref a), some (.int size), some (.int s), some (.ref p), some (.ref L), v8, v9, v10, v11, v12, v13]
theorem ok_law {f : Addr} {fd : FuncData} {Pt : Addr} (F : Fun K "law" "law" s_law f fd) (T : Txt K mg aR) (B : LawB P w K mg base CP CS CF) : FnOk P w K mg base CX0 12 f fd ["_law_script"] (spLaw K Pt) := by
  refine F.ok sc_law (fun vs H Q E h => ?_) (fun cdv A outer s0 H vs Q E hr h => ?_)
  · obtain ⟨a, ns, rfl, _⟩ := h
    rfl
  · obtain ⟨a0, ns, rfl, hS, hlen, _, q⟩ := h
    have O__law_pool := B.pool
    have O__law_draw := B.draw
    have O__law_parts := B.parts
    have O__law_made := B.made
    have O__law_words := B.words
    have O_word_value := B.word
    have O__law_value := B.value
    have O__law_refused := B.refused
    have O__law_no_side := B.noSide
    refine ⟨_, (pss_cons (ps_for PassesOwn.never rfl (pi_range1 (by rfl) T.range (pa_cons (pe_callB (call_max2 rfl) (by rfl) T.max bb_max (pa_cons pe_int (pa_cons (pe_callB (call_min2 rfl) (by rfl) T.min bb_min (pa_cons (pe_callB call_len_seq (by rfl) T.len bb_len (pa_cons (pv 0) pa_nil)) (pa_cons pe_int pa_nil))) pa_nil))) pa_nil)) (pg_name (i := 1) sc_law.nd rfl (.inl rfl))
        (pss_cons (ps_set (i := 2) sc_law.nd rfl (.inr rfl) (pe_cO O__law_pool (hr.mono (by decide)) pass0 rfl (pa_cons (pv 0) (pa_cons (pv 1) pa_nil))))
        (pss_cons (ps_set (i := 3) sc_law.nd rfl (.inl rfl) (pe_cO O__law_parts (hr.mono (by decide)) pass0 rfl (pa_cons (pv 2) (pa_cons (pe_lst (pa_cons pe_int (pa_cons pe_int (pa_cons pe_int pa_nil)))) (pa_cons pe_int (pa_cons pe_int pa_nil))))))
        (pss_cons (ps_asg (pe_tup (pa_cons (pe_callB call_abs (by rfl) T.abs bb_abs (pa_cons (pe_ix ixl (pv 3) pe_int (fun _ _ => rfl)) pa_nil)) (pa_cons (pe_ix ixl (pe_lst (pa_cons pe_int (pa_cons (pe_un un_neg pe_int) pa_nil))) (pe_cO O__law_draw (hr.mono (by decide)) pass0 rfl (pa_cons (pv 2) (pa_cons pe_int pa_nil))) (fun _ _ => rfl)) pa_nil))) (pgT (n := 2) (by rfl) (pgs_cons (pg_name (i := 4) sc_law.nd rfl (.inr rfl)) (pgs_cons (pg_name (i := 5) sc_law.nd rfl (.inr rfl)) pgs_nil))))
        (pss_cons (ps_set (i := 6) sc_law.nd rfl (.inr rfl) (pe_cO O__law_made (hr.mono (by decide)) pass0 rfl (pa_cons (pv 3) pa_nil)))
        (pss_cons (ps_set (i := 7) sc_law.nd rfl (.inl rfl) (PE.imp (t' := wordsT) (pe_ifExp (pt_cmpR op_lt (pv 4) pe_int (nomark _)) (pe_cO O__law_words (hr.mono (by decide)) pass0 rfl (pa_cons (pv 4) (pa_cons pe_int pa_nil))) (pe_lc (own := [("_law_figure", 8)]) (g := (gName 8)) (tt := tYes) rfl sc_law.nd (pi_range1 (by rfl) T.range (pa_cons pe_int pa_nil)) (blkOk_by (N := N_law) (sc := defScope s_law) (by decide +kernel)) (fun _ _ _ _ _ => (pg_name (i := 8) sc_law.nd rfl (by first | exact Or.inl rfl | exact Or.inr rfl))) (fun _ _ _ _ _ => pts_nil) (fun _ _ _ _ _ => (pe_tup (pa_cons (pv 8) pa_nil))))) (by
      rintro σ H Q ⟨v0, v1, v2, v3, v5, v6, v7, v8, v9, v10, v11, v12, v13, size, rfl, hz, q⟩
      have hz3 : size = 2 ∨ size = 3 ∨ size = 10 := by simpa using hz
      refine ⟨_, rfl, _, _, rfl, rfl, _, rfl, ite2 (fun c => ?_) (fun c => ?_)⟩
      · have c : size < 4 := of_decide_eq_true c
        exact ⟨_, rfl, size, 3, rfl, by omega, by omega, rfl, fun H' l xs s n e ln w => q H' l xs s n e ln w⟩
      · have c : ¬ size < 4 := fun z => c (decide_eq_true z)
        have h10 : size = 10 := by omega
        refine ⟨10, rfl, by decide, by decide, fun D hD => ?_⟩
        refine lc_range (n := 10) (fun k G => (∀ b o, H b = some o → G b = some o) ∧ ∃ ac, G D = some (.lst ac) ∧ WordsAt G size 3 ac ∧ ac.length = k) ⟨Same.new hD, [], upd_same, WordsAt.nil, rfl⟩ ?_ ?_
        · rintro k G hk ⟨kG, ac, hac, wac, lac⟩
          refine ⟨rfl, _, rfl, by show 1 ≤ sizeLine; decide, fun t nt => ?_⟩
          have t1 : Same G (upd G t (.tup [.int (0 + (k : Int))])) := Same.new nt
          have et : (upd G t (.tup [.int (0 + (k : Int))])) t = some (.tup (([0 + (k : Int)] : List Int).map V.int)) := upd_same
          generalize upd G t (.tup [.int (0 + (k : Int))]) = G1 at t1 et ⊢
          refine ⟨ac, t1 _ _ hac, Nat.lt_of_lt_of_le (by omega : ac.length < 11) (by decide), fun b o ho => ?_, _, upd_same, ?_, by rw [List.length_append, lac]; rfl⟩
          · rw [upd_ne (fun z => by rw [z, hD] at ho; cases ho)]
            exact t1 _ _ (kG _ _ ho)
          · have kt : KT G (upd G1 D (.lst (ac ++ [.ref t]))) := (fun t vs h => KT.upd (t1 _ _ hac) t vs (t1 _ _ h))
            refine (wac.kt kt).app (WordsAt.one (KT.upd (t1 _ _ hac) _ _ et) (by show 1 ≤ 3; decide) fun d hd => ?_)
            rw [List.mem_singleton.mp hd]
            omega
        · rintro G ⟨kG, ac, hac, wac, lac⟩
          exact q _ _ _ kG hD hac (by omega) wac
)))
        (pss_cons (ps_for PassesOwn.never rfl (pi_range1 (by rfl) T.range (pa_cons pe_int pa_nil)) (pg_name (i := 9) sc_law.nd rfl (.inl rfl))
          (pss_cons (ps_set (i := 10) sc_law.nd rfl (.inl rfl) (pe_callTy tupT (by rfl) T.tuple bb_tuple (pa_cons (pe_lc (own := [("_law_at", 11)]) (g := (gName 11)) (tt := tYes) rfl sc_law.nd (pi_range1 (by rfl) T.range (pa_cons (pe_cO O__law_draw (hr.mono (by decide)) pass0 rfl (pa_cons (pv 2) (pa_cons pe_int pa_nil))) pa_nil)) (blkOk_by (N := N_law) (sc := defScope s_law) (by decide +kernel)) (fun _ _ _ _ _ => (pg_name (i := 11) sc_law.nd rfl (by first | exact Or.inl rfl | exact Or.inr rfl))) (fun _ _ _ _ _ => pts_nil) (fun _ _ _ _ _ => (pe_cO O__law_draw (hr.mono (by decide)) pass0 rfl (pa_cons (pv 2) (pa_cons (pv 4) pa_nil))))) pa_nil)))
          (pss_one (ps_expr (pe_bm PySem.F.plainAttrs_list PySem.F.slot_list_append PySem.F.type_list_append mt_append (pv 7) (pa_cons (pe_op catW (pv 10) (PE.imp (t' := lastT) (pe_ifExp (pt_cmpR op_eq (pe_cO O__law_draw (hr.mono (by decide)) pass0 rfl (pa_cons (pv 2) (pa_cons pe_int pa_nil))) pe_int (nomark _)) (pe_tup (pa_cons pe_int pa_nil)) (pe_tup (pa_cons (pe_op op_add pe_int (pe_cO O__law_draw (hr.mono (by decide)) pass0 rfl (pa_cons (pv 2) (pa_cons (pe_op op_sub (pv 4) pe_int) pa_nil)))) pa_nil))) (by
      rintro σ H Q ⟨pp, size, e2, e4, z0, z1, hP, q⟩
      refine ⟨_, e2, pp, 2, rfl, by decide, ⟨by decide, by decide⟩, hP, fun d H1 d0 d1 P1 k1 => ⟨rfl, _, rfl, ite2 (fun c => ?_) (fun c => ?_)⟩⟩
      · exact ⟨by show 1 ≤ sizeLine; decide, fun t nt => q t 0 _ (by omega) (by omega) (P1.same (Same.new nt)) (k1.trans (Same.keep (Same.new nt))) upd_same⟩
      · exact ⟨_, e2, _, e4, _, _, rfl, rfl, pp, size - 1, rfl, by omega, Sm.of (by omega) (by omega), P1, fun d2 H2 b0 b1 P2 k2 => ⟨_, _, rfl, rfl, by show 1 ≤ sizeLine; decide, fun t nt => q t (1 + d2) _ (by omega) (by omega) (P2.same (Same.new nt)) ((k1.trans k2).trans (Same.keep (Same.new nt))) upd_same⟩⟩
))) pa_nil))))))
        (pss_cons (ps_for PassesOwn.never rfl (pi_seq (pv 7)) (pg_name (i := 10) sc_law.nd rfl (.inl rfl))
          (pss_cons (ps_set (i := 12) sc_law.nd rfl (.inl rfl) (PE.imp (t' := wordT P w CP) (pe_cX O_word_value (hr.mono (by decide)) passL rfl (pa_cons (pv 6) (pa_cons (pv 5) (pa_cons (pv 10) pa_nil)))) (by
      rintro σ H Q ⟨p, s, b, regs, modes, ends, gs, t, ds, n, m0, R, acc, e6, e5, e10, hs, ht, few, hd, PK, md, sm, em, pa, fa, ws, q⟩
      refine ⟨_, e6, _, e5, _, e10, p, .int s, .int s, .ref t, .tuple (ds.map PyData.int), b, _, _, _, _, rfl, .int _, .tup ht id (DtAll.ints _), by show (ds.map PyData.int).length ≤ 1000; rw [List.length_map]; omega, PK, (fun c => by rcases hs with rfl | rfl <;> cases c), (fun _ c => by rw [word_back hd] at c; cases c), fun s' ds' e1 _ e3 _ => ?_⟩
      injection e1 with e1
      injection e3 with e3
      have e3 : ds = ds' := (List.map_inj_right (fun _ _ z => by injection z)).mp e3
      subst e1 e3
      refine ⟨fun l H' s' => ?_, fun l => ⟨sm, gs, R, acc, ⟨n, m0, PK, md, em, pa, fa, ws⟩, fun H' s' => ?_⟩⟩
      · have := q H' s'
        rw [if_pos l] at this
        exact this
      · have := q H' s'
        rw [if_neg l] at this
        exact this
)))
          (pss_one (ps_if (PW.pt (pw_or (pt_val (pe_callB call_isi (by rfl) T.isinstance bb_isinstance (pa_cons (pv 12) (pa_cons (pe_bltn (v := .ty "bool") (by rfl) T.bool bb_bool rfl) pa_nil)))) (pw_or (pt_not (pt_val (pe_callB call_isi (by rfl) T.isinstance bb_isinstance (pa_cons (pv 12) (pa_cons (pe_bltn (v := .ty "int") (by rfl) T.int bb_int rfl) pa_nil))))) (pw_or1 (pt_cmpR op_ne (pv 12) (pe_cO O__law_value (hr.mono (by decide)) pass0 rfl (pa_cons (pv 3) (pa_cons (pv 5) (pa_cons (pv 10) pa_nil)))) (nomark _))))))
            (pss_one (ps_ret pe_bl))
            pss_nil))))
        (pss_cons (ps_if (pt_not (pt_val (pe_callB (allT rfl) (by rfl) T.all bb_all (pa_cons (pe_lc (own := [("_law_word", 10)]) (g := (gName 10)) (tt := tYes) rfl sc_law.nd (pi_seq (pe_lst (pa_cons (pe_tup (pa_cons (pv 4) pa_nil)) (pa_cons (pe_tup (pa_cons pe_int (pa_cons (pe_un un_neg pe_int) pa_nil))) (pa_cons (pe_lst (pa_cons pe_int pa_nil)) (pa_cons pe_non (pa_cons (pe_tup (pa_cons pe_bl pa_nil)) (pa_cons pe_int (pa_cons (pe_tup (pa_cons pe_str pa_nil)) pa_nil))))))))) (blkOk_by (N := N_law) (sc := defScope s_law) (by decide +kernel)) (fun _ _ _ _ _ => (pg_name (i := 10) sc_law.nd rfl (by first | exact Or.inl rfl | exact Or.inr rfl))) (fun _ _ _ _ _ => pts_nil) (fun _ _ _ _ _ => (pe_cO O__law_refused (hr.mono (by decide)) pass0 rfl (pa_cons (pv 6) (pa_cons (pv 5) (pa_cons (pv 10) pa_nil)))))) pa_nil))))
          (pss_one (ps_ret pe_bl))
          pss_nil)
        (pss_one (ps_if (pt_not (pt_val (pe_callB (allT rfl) (by rfl) T.all bb_all (pa_cons (pe_lc (own := [("_law_wrong", 13)]) (g := (gName 13)) (tt := tYes) rfl sc_law.nd (pi_seq (pe_lst (pa_cons pe_int (pa_cons pe_non (pa_cons pe_int (pa_cons pe_bl (pa_cons pe_str pa_nil))))))) (blkOk_by (N := N_law) (sc := defScope s_law) (by decide +kernel)) (fun _ _ _ _ _ => (pg_name (i := 13) sc_law.nd rfl (by first | exact Or.inl rfl | exact Or.inr rfl))) (fun _ _ _ _ _ => pts_nil) (fun _ _ _ _ _ => (pe_cO O__law_no_side (hr.mono (by decide)) pass0 rfl (pa_cons (pv 6) (pa_cons (pv 13) (pa_cons (pe_tup (pa_cons (pv 4) pa_nil)) pa_nil)))))) pa_nil))))
          (pss_one (ps_ret pe_bl))
          pss_nil)))))))))))
      (pss_one (ps_ret pe_bl))), ?_⟩
    refine ⟨_, rfl, a0, _, rfl, .inl hS, _, _, rfl, _, _, rfl, ?_⟩
    rw [List.length_map]
    have hn : ∃ n : Int, n = (if (if (4 : Int) < (ns.length : Int) then (4 : Int) else (ns.length : Int)) > 1 then (if (4 : Int) < (ns.length : Int) then (4 : Int) else (ns.length : Int)) else 1) ∧ 1 ≤ n ∧ n ≤ 4 := by
      refine ⟨_, rfl, ?_, ?_⟩ <;> split <;> split <;> omega
    obtain ⟨nt, en, n0, n1⟩ := hn
    rw [← en]
    refine ⟨nt, rfl, by omega, by omega, for_rangeD (n := nt.toNat) (LawO H a0) ⟨Same.refl _, none, none, none, none, none, none, none, none, none, none, none, none, none, rfl⟩ ?_ ?_⟩
    · rintro i σ H1 hi ⟨x1, v1, v2, v3, v4, v5, v6, v7, v8, v9, v10, v11, v12, v13, rfl⟩ D' hnx _
      refine ⟨_, rfl, _, rfl, a0, ns, i, by rw [Int.zero_add]; rfl, SqL.sm x1 hS, by omega, fun pp H2 s2 hpp P2 => ?_⟩
      refine ⟨_, rfl, by show 3 ≤ sizeLine; decide, fun sl hsl => ?_⟩
      have s3 : Same H2 (upd H2 sl (.lst [.int 2, .int 3, .int 10])) := Same.new hsl
      refine ⟨pp, sl, [2, 3, 10], 3, 1, rfl, upd_same, P2.ne hsl, (by decide), by decide, by decide, by decide, by decide, P2.same s3, fun a size b1 many zs regs modes ends goal H4 hsz ha P4 k4 DR dv => ?_⟩
      have PO := DR.ok
      obtain ⟨gs, rfl⟩ := DR.goals
      have z0 := DR.s0
      have z1 := DR.s1
      obtain ⟨a', v1', am, xm, ae, xe, v4', ea1, ea, na, g1', em, nam, dm, ee, nae, de, g4'⟩ := parts_inv dv
      cases ea1
      refine ⟨_, rfl, a, _, 0, _, rfl, rfl, ea, atI0, b1, rfl, 1, rfl, by show 2 ≤ sizeLine; decide, fun l2 hl2 => ?_⟩
      rw [abs_b DR]
      have s5 : Same H4 (upd H4 l2 (.lst [.int 1, .int (-1)])) := Same.new hl2
      have e5 : (upd H4 l2 (.lst [.int 1, .int (-1)])) l2 = some (.lst [.int 1, .int (-1)]) := upd_same
      have nl2 : l2 ≠ pp := P4.ne hl2
      generalize upd H4 l2 (.lst [.int 1, .int (-1)]) = H5 at s5 e5 ⊢
      refine ⟨_, rfl, pp, 2, rfl, by decide, ⟨by decide, by decide⟩, P4.same s5, fun d H6 d0 d1 P6 k6 => ?_⟩
      obtain ⟨s, hs, es⟩ : ∃ s : Int, (s = 1 ∨ s = -1) ∧ atI [V.int 1, .int (-1)] d = some (.int s) := by
        rcases (by omega : d = 0 ∨ d = 1) with rfl | rfl
        · exact ⟨1, .inl rfl, rfl⟩
        · exact ⟨-1, .inr rfl, rfl⟩
      have e6 := k6 _ _ e5 nl2
      refine ⟨l2, _, d, _, rfl, rfl, e6, es, by show 2 ≤ sizeLine; decide, fun t nt => ?_⟩
      have s7 : Same H6 (upd H6 t (.tup [.int size, .int s])) := Same.new nt
      have e7 : (upd H6 t (.tup [.int size, .int s])) t = some (.tup [.int size, .int s]) := upd_same
      refine ⟨t, _, rfl, upd_same, rfl, _, _, rfl, _, _, rfl, rfl, ?_⟩
      have dv7 := ((dv.fr (Fm.of s5)).fr k6.fr).fr (Fm.of s7)
      have P7 := P6.same s7
      refine ⟨_, rfl, .ref a, b1, _, _, _, _, rfl, dv7.z0, PO, DR.sz1, DR.sz2, fun p H8 np s8 PK8 => ?_⟩
      have dv8 := dv7.fr (Fm.of s8)
      have P8 := P7.same s8
      have k18 : Same H1 H8 := fun b o h => by
        have nb : b ≠ pp := ne_of_none h hpp
        exact s8 _ _ (s7 _ _ (k6 _ _ (s5 _ _ (k4 _ _ (s3 _ _ (s2 _ _ h)) nb)) nb))
      clear s7 e7 dv7 P7 P6 k6 e6 es nt
      refine ⟨_, _, _, _, _, _, _, _, _, _, _, _, _, size, rfl, hsz, fun H9 L xs0 s9 nL eL0 lxs0 wL => ?_⟩
      have P9 := P8.same s9
      have nLp : L ≠ pp := P8.ne nL
      refine ⟨4, rfl, by decide, by decide, for_rangeD (n := 4) (LawT H8 a0 pp a p L (0 + (i : Int)) s size) ⟨Same.keep s9, P9, ⟨xs0, eL0, lxs0, wL.le (by decide)⟩, _, _, _, _, _, _, rfl⟩ ?_ ?_⟩
      · rintro j σ G hj ⟨kG, PG, ⟨xs, eL, lxs, wx⟩, v8, v9, v10, v11, v12, v13, rfl⟩ D2 hn2 _
        have smz : Sm size := Sm.of (by omega) (by omega)
        refine ⟨_, rfl, pp, 31, rfl, by decide, ⟨by decide, by decide⟩, PG, fun m G1 m0 m1 P1 k1 => ⟨m, rfl, by omega, by omega, fun D hD => ?_⟩⟩
        refine lc_draw walk_range (Zp pp) (fun G => PoolAt G pp) (fun _ d => ∃ x : Int, d = .int x ∧ (0 ≤ x ∧ x ≤ size - 1)) hD (Zp.new P1 hD) P1 pool_iS (by show m.toNat < sizeLine; exact Nat.lt_of_lt_of_le (by omega : m.toNat < 32) (by decide)) (fun _ _ => True.intro) ?_ ?_
        · intro i x G0 G Qk hi f PG ne yy z
          obtain ⟨rfl, rfl⟩ := yy
          refine ⟨rfl, ?_⟩
          exact ⟨_, rfl, _, rfl, pp, size, rfl, by omega, smz, PG, fun d G' b1 b2 P' k' => z _ (.int d) G' k'.fr P' (.int _) ⟨d, rfl, b1, by omega⟩⟩
        · intro G7 xs7 ds7 f7 P7 eD7 dD7 lds hds
          obtain ⟨fs, rfl, lfs, hfs⟩ := drawn_ints (B := fun x => 0 ≤ x ∧ x ≤ size - 1) dD7 fun d hd => by
            obtain ⟨i, ei⟩ := List.mem_iff_getElem?.mp hd
            exact hds i d ei
          have lfs : fs.length ≤ 30 := by rw [lfs, lds]; omega
          have k7 : Keep pp G G7 := k1.trans f7.keep
          refine ⟨D, _, rfl, .inl ⟨eD7, fun u nu => ?_⟩⟩
          have s8 : Same G7 (upd G7 u (.tup (fs.map V.int))) := Same.new nu
          have eu : (upd G7 u (.tup (fs.map V.int))) u = some (.tup (fs.map V.int)) := upd_same
          generalize upd G7 u (.tup (fs.map V.int)) = G8 at s8 eu ⊢
          have k8 := k7.trans (Same.keep s8)
          have P8' := P7.same s8
          have fin : ∀ (wt : Addr) (ws : List Int) (G9 : Hp), Keep pp G G9 → PoolAt G9 pp → G9 wt = some (.tup (ws.map V.int)) → ws.length ≤ 31 → (∀ e ∈ ws, 0 ≤ e ∧ e ≤ size - 1) → Keep pp H8 (upd G9 L (.lst (xs ++ [.ref wt]))) ∧ PoolAt (upd G9 L (.lst (xs ++ [.ref wt]))) pp ∧ ∃ xs', (upd G9 L (.lst (xs ++ [.ref wt]))) L = some (.lst xs') ∧ xs'.length ≤ 82 + (j + 1) ∧ WordsAt (upd G9 L (.lst (xs ++ [.ref wt]))) size 31 xs' := fun wt ws G9 k9 P9 ew lw bw => by
            have eL9 := k9 _ _ eL nLp
            have kt : ∀ t vs, G9 t = some (.tup vs) → upd G9 L (.lst (xs ++ [.ref wt])) t = some (.tup vs) := KT.upd eL9
            have kt0 : KT G (upd G9 L (.lst (xs ++ [.ref wt]))) := fun t vs h => kt t vs (k9 _ _ h (PG.nep h))
            exact ⟨(kG.trans k9).off nL, P9.upd nLp, _, upd_same, by rw [List.length_append]; show xs.length + 1 ≤ _; omega, (wx.kt kt0).app (WordsAt.one (kt _ _ ew) lw bw)⟩
          refine ⟨_, rfl, .inl ⟨rfl, _, SqL.of (k8 _ _ eL nLp)⟩, _, rfl, pp, size, rfl, rfl, z0, z1, P8', fun t d G9 d0 d1 P9 k9 e9 => ?_⟩
          have eu9 := k9 _ _ eu (P8'.nep eu)
          have k09 := k8.trans k9
          refine ⟨u, t, _, _, rfl, rfl, eu9, e9, by rw [List.length_map]; exact Nat.le_trans (show fs.length + 1 ≤ 31 by omega) (by decide), fun z => ?_, fun _ z => by simp at z, fun _ _ q' nq => ?_⟩
          · have : fs = [] := by simpa using z
            subst this
            have r := fin t [d] G9 k09 P9 e9 (by show 1 ≤ 31; decide) (fun e he => by rw [List.mem_singleton.mp he]; exact ⟨d0, d1⟩)
            exact ⟨L, xs, .ref t, rfl, rfl, k09 _ _ eL nLp, Nat.lt_of_lt_of_le (by omega : xs.length < 100) (by decide), hn2 _ _ ⟨r.1, r.2.1, r.2.2, _, _, _, _, _, _, rfl⟩⟩
          · have sq : Same G9 (upd G9 q' (.tup (fs.map V.int ++ [.int d]))) := Same.new nq
            have r := fin q' (fs ++ [d]) (upd G9 q' (.tup (fs.map V.int ++ [.int d]))) (k09.trans (Same.keep sq)) (P9.same sq) (by rw [upd_same, List.map_append]; rfl) (by rw [List.length_append]; show fs.length + 1 ≤ 31; omega) (fun e he => by
              rcases List.mem_append.mp he with he | he
              · exact hfs e he
              · rw [List.mem_singleton.mp he]; exact ⟨d0, d1⟩)
            exact ⟨L, xs, .ref q', rfl, rfl, sq _ _ (k09 _ _ eL nLp), Nat.lt_of_lt_of_le (by omega : xs.length < 100) (by decide), hn2 _ _ ⟨r.1, r.2.1, r.2.2, _, _, _, _, _, _, rfl⟩⟩
      · rintro σ G ⟨kG, PG, ⟨xs, eL, lxs, wx⟩, v8, v9, v10, v11, v12, v13, rfl⟩
        have PKG := PK8.keepP P8 kG
        have dvG := (dv8.fr kG.fr).z0
        have kG1 : Same H1 G := fun b o h => kG _ _ (k18 _ _ h) (ne_of_none h hpp)
        have gsm := DR.goalSm
        have ab := abs_b DR
        refine ⟨_, rfl, L, _, _, rfl, .inl rfl, eL, fun J wk => for_itD wk (LawW G a0 pp a p L (0 + (i : Int)) s size) ⟨Same.refl _, _, _, _, _, _, _, rfl⟩ (fun n σ G' _ z => z.1 _ _ eL) ?_ ?_⟩
        · rintro n y σ G0 G1 hn ⟨sG, v8, v9, v10, v11, v12, v13, rfl⟩ ⟨rfl, ey⟩ D3 hn3 hr3
          obtain ⟨t, ds, rfl, et, lds, bds⟩ := wx y (List.mem_of_getElem? ey)
          obtain ⟨n', m0, R, acc, md, sm, em, pa, fa, ws⟩ := DR.words hs lds bds
          rw [← ab] at md pa bds
          have sm : ∀ i, Sm (valF (if b1 < 0 then -b1 else b1) (ds.drop i)) := by rw [ab]; exact sm
          refine ⟨p, s, b1, regs, modes, ends, gs, t, ds, n', m0, R, acc, rfl, rfl, rfl, hs, sG _ _ et, lds, bds, PKG.same sG, md, sm, em, pa, fa, ws, fun G2 s2' => ?_⟩
          have sG2 := sG.trans s2'
          have PLG := DR.parts (dvG.fr (Fm.of sG2))
          refine ⟨_, rfl, _, _, _, _, _, rfl, .ty _, .base (.int _), kIntBool, _, rfl, iteF ?_⟩
          refine ⟨_, rfl, _, _, _, _, _, rfl, .ty _, .base (.int _), kIntInt, _, rfl, iteF ?_⟩
          refine ⟨_, rfl, _, rfl, _, rfl, _, rfl, .ref a, b1, regs, modes, ends, _, s, t, ds, n', m0, R, acc, gs, rfl, PLG, sG2 _ _ et, by omega, hs, bds, md, sm, em, pa, fa, ws, rfl, gsm, fun G3 s3 => ?_⟩
          refine ⟨rfl, _, rfl, ?_⟩
          exact iteN (by simp) (hn3 _ _ ⟨sG2.trans s3, _, _, _, _, _, _, rfl⟩)
        · rintro σ G2 ⟨sG, v8, v9, v10, v11, v12, v13, rfl⟩
          have PK2 := PKG.same sG
          refine ⟨_, rfl, by show 1 ≤ sizeLine; decide, fun t1 n1 => ?_⟩
          have q1 : Same G2 (upd G2 t1 (.tup [.int size])) := Same.new n1
          have f1 : (upd G2 t1 (.tup [.int size])) t1 = some (.tup [.int size]) := upd_same
          generalize upd G2 t1 (.tup [.int size]) = J1 at q1 f1 ⊢
          refine ⟨1, rfl, by show 2 ≤ sizeLine; decide, fun t2 n2 => ?_⟩
          have q2 : Same J1 (upd J1 t2 (.tup [.int 0, .int (-1)])) := Same.new n2
          have f2 : (upd J1 t2 (.tup [.int 0, .int (-1)])) t2 = some (.tup [.int 0, .int (-1)]) := upd_same
          generalize upd J1 t2 (.tup [.int 0, .int (-1)]) = J2 at q2 f2 ⊢
          refine ⟨by show 1 ≤ sizeLine; decide, fun t3 n3 => ?_⟩
          have q3 : Same J2 (upd J2 t3 (.lst [.int 1])) := Same.new n3
          have f3 : (upd J2 t3 (.lst [.int 1])) t3 = some (.lst [.int 1]) := upd_same
          generalize upd J2 t3 (.lst [.int 1]) = J3 at q3 f3 ⊢
          refine ⟨by show 1 ≤ sizeLine; decide, fun t4 n4 => ?_⟩
          have q4 : Same J3 (upd J3 t4 (.tup [.bl true])) := Same.new n4
          have f4 : (upd J3 t4 (.tup [.bl true])) t4 = some (.tup [.bl true]) := upd_same
          generalize upd J3 t4 (.tup [.bl true]) = J4 at q4 f4 ⊢
          refine ⟨by show 1 ≤ sizeLine; decide, fun t5 n5 => ?_⟩
          have q5 : Same J4 (upd J4 t5 (.tup [.str "1"])) := Same.new n5
          have f5 : (upd J4 t5 (.tup [.str "1"])) t5 = some (.tup [.str "1"]) := upd_same
          generalize upd J4 t5 (.tup [.str "1"]) = J5 at q5 f5 ⊢
          refine ⟨by show 7 ≤ sizeLine; decide, fun t6 n6 => ?_⟩
          have q6 : Same J5 (upd J5 t6 (.lst [.ref t1, .ref t2, .ref t3, .non, .ref t4, .int 1, .ref t5])) := Same.new n6
          have f6 : (upd J5 t6 (.lst [.ref t1, .ref t2, .ref t3, .non, .ref t4, .int 1, .ref t5])) t6 = some (.lst [.ref t1, .ref t2, .ref t3, .non, .ref t4, .int 1, .ref t5]) := upd_same
          generalize upd J5 t6 (.lst [.ref t1, .ref t2, .ref t3, .non, .ref t4, .int 1, .ref t5]) = J6 at q6 f6 ⊢
          have oks : ∀ v ∈ [V.ref t1, .ref t2, .ref t3, .non, .ref t4, .int 1, .ref t5], ∃ dz, Dt Z0 J6 v dz ∧ (itemsD dz).length ≤ 1000 ∧ wordD dz (if b1 < 0 then -b1 else b1) = false ∧ SeqAt.shaped dz = true := fun v hv => by
            rw [ab]
            simp only [List.mem_cons, List.not_mem_nil, or_false] at hv
            rcases hv with rfl | rfl | rfl | rfl | rfl | rfl | rfl
            · refine ⟨.tuple [.int size], .tup (q6 _ _ (q5 _ _ (q4 _ _ (q3 _ _ (q2 _ _ f1))))) id (.cons (.int _) .nil), by show 1 ≤ 1000; decide, ?_, (shp_intsT (xs := [size])).ok⟩
              show (true && ((decide (0 ≤ size) && decide (size ≤ size - 1)) && true)) = false
              rw [decide_eq_false (show ¬ size ≤ size - 1 by omega)]
              simp
            · exact ⟨.tuple [.int 0, .int (-1)], .tup (q6 _ _ (q5 _ _ (q4 _ _ (q3 _ _ f2)))) id (.cons (.int _) (.cons (.int _) .nil)), by decide, by
                show (true && ((decide ((0 : Int) ≤ 0) && decide (0 ≤ size - 1)) && ((decide ((0 : Int) ≤ -1) && decide (-1 ≤ size - 1)) && true))) = false
                simp, (shp_intsT (xs := [0, -1])).ok⟩
            · exact ⟨.list [.int 1], .lst (q6 _ _ (q5 _ _ (q4 _ _ f3))) id (.cons (.int _) .nil), by decide, rfl, by decide⟩
            · exact ⟨.none, .non, by decide, rfl, by decide⟩
            · exact ⟨.tuple [.bool true], .tup (q6 _ _ (q5 _ _ f4)) id (.cons (.bl _) .nil), by decide, rfl, by decide⟩
            · exact ⟨.int 1, .int _, by decide, rfl, by decide⟩
            · exact ⟨.tuple [.str "1"], .tup (q6 _ _ f5) id (.cons (.str _) .nil), by decide, rfl, by decide +kernel⟩
          have s26 : Same G2 J6 := ((((q1.trans q2).trans q3).trans q4).trans q5).trans q6
          have PK6 := PK2.same s26
          refine ⟨t6, _, _, rfl, .inl rfl, f6, fun J wk D hD => ?_⟩
          refine lc_vals wk Z0 (fun _ => True) (List.replicate 7 (V.bl true)) rfl hD id True.intro (fun _ _ _ _ => True.intro) (by show 7 < sizeLine; decide) (fun G f => f _ _ f6 id) ?_ ?_
          · intro i y k G0 G' Qk ek f _ _ yy z
            obtain ⟨rfl, ex⟩ := yy
            obtain rfl : k = V.bl true := List.eq_of_mem_replicate (List.mem_of_getElem? ek)
            obtain ⟨dz, h1, h2, h3, h4⟩ := oks y (List.mem_of_getElem? ex)
            exact ⟨rfl, _, rfl, _, rfl, _, rfl, p, .int s, .int s, y, dz, b1, _, _, _, _, rfl, .int _, h1.fr f, h2, PK6.same f.same, (by rcases hs with rfl | rfl <;> rfl), h3, h4, fun G4 s4 => z _ (Fm.of s4) True.intro⟩
          · intro G4 f4 _ hD2
            refine ⟨D, List.replicate 7 true, rfl, hD2, _, rfl, iteF ?_⟩
            have PK7 := PK6.same f4.same
            refine ⟨by show 5 ≤ sizeLine; decide, fun t7 n7 => ?_⟩
            have q7 : Same G4 (upd G4 t7 (.lst [.int 0, .non, .int 2, .bl true, .str "+"])) := Same.new n7
            have f7 : (upd G4 t7 (.lst [.int 0, .non, .int 2, .bl true, .str "+"])) t7 = some (.lst [.int 0, .non, .int 2, .bl true, .str "+"]) := upd_same
            generalize upd G4 t7 (.lst [.int 0, .non, .int 2, .bl true, .str "+"]) = J7 at q7 f7 ⊢
            have PK8' := PK7.same q7
            have oks2 : ∀ v ∈ [V.int 0, .non, .int 2, .bl true, .str "+"], ∃ d, Dt Z0 J7 v d ∧ signD d = false ∧ SeqAt.shaped d = true := fun v hv => by
              simp only [List.mem_cons, List.not_mem_nil, or_false] at hv
              rcases hv with rfl | rfl | rfl | rfl | rfl
              · exact ⟨_, .int _, rfl, by decide⟩
              · exact ⟨_, .non, rfl, by decide⟩
              · exact ⟨_, .int _, rfl, by decide⟩
              · exact ⟨_, .bl _, rfl, by decide⟩
              · exact ⟨_, .str _, rfl, by decide +kernel⟩
            refine ⟨t7, _, _, rfl, .inl rfl, f7, fun J9 wk9 D9 hD9 => ?_⟩
            refine lc_vals wk9 Z0 (fun _ => True) (List.replicate 5 (V.bl true)) rfl hD9 id True.intro (fun _ _ _ _ => True.intro) (by show 5 < sizeLine; decide) (fun G f => f _ _ f7 id) ?_ ?_
            · intro i y k G0 G' Qk ek f _ _ yy z
              obtain ⟨rfl, ex⟩ := yy
              obtain rfl : k = V.bl true := List.eq_of_mem_replicate (List.mem_of_getElem? ek)
              obtain ⟨dy, h1, h2, h3⟩ := oks2 y (List.mem_of_getElem? ex)
              refine ⟨rfl, _, rfl, _, rfl, _, rfl, by show 1 ≤ sizeLine; decide, fun tn nn => ?_⟩
              have sn : Same G' (upd G' tn (.tup [.int size])) := Same.new nn
              exact ⟨p, y, dy, .ref tn, .tuple [.int size], b1, _, _, _, _, rfl, (h1.fr f).fr (Fm.of sn), .tup upd_same id (.cons (.int _) .nil), by show 1 ≤ 1000; decide, (PK8'.same f.same).same sn, h2, h3, fun G4 s4 => z _ (Fm.of (sn.trans s4)) True.intro⟩
            · intro G5 f5 _ hD5
              refine ⟨D9, List.replicate 5 true, rfl, hD5, _, rfl, iteF ?_⟩
              refine hnx _ _ ⟨x1.trans (((kG1.trans sG).trans (s26.trans f4.same)).trans (q7.trans f5.same)), _, _, _, _, _, _, _, _, _, _, _, _, _, rfl⟩
    · rintro σ G ⟨x1, v1, v2, v3, v4, v5, v6, v7, v8, v9, v10, v11, v12, v13, rfl⟩
      exact q _
end
theorem pfun_mk {K : PySem.W.Frag} {C p g : Addr} {nm q : Str} {st : Stmt} {rest : List Value} {oc : Value} {od an : Option Addr} {osl : Array (Option Value)} {kV doc pm cdv ct : Value}
    (b : ∀ (kV doc pm : Value) (an : Option Addr) (cdv ct : Value) (us : List Value), us.length = 1 → bindArgs (PySem.W.fnOf nm q (defArgs st) (defBody st) (defScope st) .none kV doc pm an cdv ct) ⟨us, []⟩ = pure ((["self"] : List Str).zip us))
    (a : PySem.W.findIn K (.ref C) nm = some (some (.ref p))) (s : PySem.W.specialIn K (.ref p) "__get__" = some (some (.builtin "property.__get__"))) (t : PySem.W.takesIn K (.ref p) = some true) (r : PySem.W.recIn K p "property" = some (.ref g :: rest))
    (l : K.lookup g = some ⟨oc, od, .func (PySem.W.fnOf nm q (defArgs st) (defBody st) (defScope st) .none kV doc pm an cdv ct), osl⟩) (c : PySem.W.codeIn K cdv q = true) (k : PySem.W.keepIn K (.ref g) = true) : PFun K C nm q st :=
  ⟨p, g, _, ⟨a, s, t, rest, r⟩, fun_mk (st := st) l c k, (fun_mk (st := st) l c k).binds (ps := ["self"]) b⟩
section
theorem ba0 {ws : List Value} (l : ws.length = 0) : ws = [] := List.eq_nil_of_length_eq_zero l
theorem ba1 {us : List Value} (l : us.length = 1) : ∃ a, us = [a] := by
  obtain ⟨a, t, rfl⟩ := List.exists_cons_of_length_eq_add_one l
  obtain rfl := ba0 (Nat.succ.inj l)
  exact ⟨a, rfl⟩
theorem ba2 {us : List Value} (l : us.length = 2) : ∃ a b, us = [a, b] := by
  obtain ⟨a, t, rfl⟩ := List.exists_cons_of_length_eq_add_one l
  obtain ⟨b, rfl⟩ := ba1 (Nat.succ.inj l)
  exact ⟨a, b, rfl⟩
theorem ba3 {us : List Value} (l : us.length = 3) : ∃ a b c, us = [a, b, c] := by
  obtain ⟨a, t, rfl⟩ := List.exists_cons_of_length_eq_add_one l
  obtain ⟨b, c, rfl⟩ := ba2 (Nat.succ.inj l)
  exact ⟨a, b, c, rfl⟩
theorem ba4 {us : List Value} (l : us.length = 4) : ∃ a b c d, us = [a, b, c, d] := by
  obtain ⟨a, t, rfl⟩ := List.exists_cons_of_length_eq_add_one l
  obtain ⟨b, c, d, rfl⟩ := ba3 (Nat.succ.inj l)
  exact ⟨a, b, c, d, rfl⟩
theorem ba5 {us : List Value} (l : us.length = 5) : ∃ a b c d e, us = [a, b, c, d, e] := by
  obtain ⟨a, t, rfl⟩ := List.exists_cons_of_length_eq_add_one l
  obtain ⟨b, c, d, e, rfl⟩ := ba4 (Nat.succ.inj l)
  exact ⟨a, b, c, d, e, rfl⟩
theorem ba6 {us : List Value} (l : us.length = 6) : ∃ a b c d e f, us = [a, b, c, d, e, f] := by
  obtain ⟨a, t, rfl⟩ := List.exists_cons_of_length_eq_add_one l
  obtain ⟨b, c, d, e, f, rfl⟩ := ba5 (Nat.succ.inj l)
  exact ⟨a, b, c, d, e, f, rfl⟩
end
/-! ### the errors; what the top has written -/
section
variable {P : Program} {w : World} {K : PySem.W.Frag} {mg : Str → Option Value} {base : Heap}
abbrev si_InvalidBase : Stmt := inClass (top 4) 0
theorem sci_InvalidBase : FnScope ["self", "value"] ["self", "value"] (defScope si_InvalidBase) := ⟨rfl, rfl, rfl, by decide +kernel, rfl, by decide +kernel, by decide +kernel⟩
theorem in_InvalidBase {C fI : Addr} {fd : FuncData} (F : Fun K "__init__" "InvalidBase.__init__" si_InvalidBase fI fd) (L : Cl K C fI [.type "ValueError", .type "Exception", .type "BaseException", .type "object"] "ValueError.__new__" ["value"]) (m : mg "InvalidBase" = some (.ref C)) : XRz P w K mg base "InvalidBase" C 1 (sp1n "value" C) := by
  obtain ⟨oc, od, kV, doc, pm, an, cdv, ct, osl, rfl, lk, hcd⟩ := F.ex
  refine ⟨fI, _, ["self", "value"], "ValueError", "ValueError.__new__", "ValueError.__init__", [.type "ValueError", .type "Exception", .type "BaseException", .type "object"], PySem.F.excBase_ValueError, L.T, m, F.ok sci_InvalidBase (fun vs H Q E h => ?_) (fun cdv A outer s H vs Q E hr h => ?_),
    ⟨fun s us ws _ l1 l2 => match us, ws, l1, l2 with | [_, _], [], _, _ => .of_eq rfl, fun r _ => r⟩, L.look.xf.exC, L.ty⟩
  · obtain ⟨a, v, rfl, _⟩ := h
    rfl
  · obtain ⟨a, v, rfl, ea, q⟩ := h
    refine ⟨_, pss_one (ps_xst PySem.F.store_ValueError (newId := "ValueError.__new__") (pv 0) (pv 1)), ?_⟩
    exact ⟨_, rfl, _, rfl, a, C, fI, rfl, L.T, L.no _ (by simp), .inl ⟨ea, q⟩⟩
abbrev si_InvalidRegisters : Stmt := inClass (top 5) 0
theorem sci_InvalidRegisters : FnScope ["self", "number"] ["self", "number"] (defScope si_InvalidRegisters) := ⟨rfl, rfl, rfl, by decide +kernel, rfl, by decide +kernel, by decide +kernel⟩
theorem in_InvalidRegisters {C fI : Addr} {fd : FuncData} (F : Fun K "__init__" "InvalidRegisters.__init__" si_InvalidRegisters fI fd) (L : Cl K C fI [.type "ValueError", .type "Exception", .type "BaseException", .type "object"] "ValueError.__new__" ["number"]) (m : mg "InvalidRegisters" = some (.ref C)) : XRz P w K mg base "InvalidRegisters" C 1 (sp1n "number" C) := by
  obtain ⟨oc, od, kV, doc, pm, an, cdv, ct, osl, rfl, lk, hcd⟩ := F.ex
  refine ⟨fI, _, ["self", "number"], "ValueError", "ValueError.__new__", "ValueError.__init__", [.type "ValueError", .type "Exception", .type "BaseException", .type "object"], PySem.F.excBase_ValueError, L.T, m, F.ok sci_InvalidRegisters (fun vs H Q E h => ?_) (fun cdv A outer s H vs Q E hr h => ?_),
    ⟨fun s us ws _ l1 l2 => match us, ws, l1, l2 with | [_, _], [], _, _ => .of_eq rfl, fun r _ => r⟩, L.look.xf.exC, L.ty⟩
  · obtain ⟨a, v, rfl, _⟩ := h
    rfl
  · obtain ⟨a, v, rfl, ea, q⟩ := h
    refine ⟨_, pss_one (ps_xst PySem.F.store_ValueError (newId := "ValueError.__new__") (pv 0) (pv 1)), ?_⟩
    exact ⟨_, rfl, _, rfl, a, C, fI, rfl, L.T, L.no _ (by simp), .inl ⟨ea, q⟩⟩
abbrev si_InvalidModes : Stmt := inClass (top 6) 0
theorem sci_InvalidModes : FnScope ["self", "number"] ["self", "number"] (defScope si_InvalidModes) := ⟨rfl, rfl, rfl, by decide +kernel, rfl, by decide +kernel, by decide +kernel⟩
theorem in_InvalidModes {C fI : Addr} {fd : FuncData} (F : Fun K "__init__" "InvalidModes.__init__" si_InvalidModes fI fd) (L : Cl K C fI [.type "ValueError", .type "Exception", .type "BaseException", .type "object"] "ValueError.__new__" ["number"]) (m : mg "InvalidModes" = some (.ref C)) : XRz P w K mg base "InvalidModes" C 1 (sp1n "number" C) := by
  obtain ⟨oc, od, kV, doc, pm, an, cdv, ct, osl, rfl, lk, hcd⟩ := F.ex
  refine ⟨fI, _, ["self", "number"], "ValueError", "ValueError.__new__", "ValueError.__init__", [.type "ValueError", .type "Exception", .type "BaseException", .type "object"], PySem.F.excBase_ValueError, L.T, m, F.ok sci_InvalidModes (fun vs H Q E h => ?_) (fun cdv A outer s H vs Q E hr h => ?_),
    ⟨fun s us ws _ l1 l2 => match us, ws, l1, l2 with | [_, _], [], _, _ => .of_eq rfl, fun r _ => r⟩, L.look.xf.exC, L.ty⟩
  · obtain ⟨a, v, rfl, _⟩ := h
    rfl
  · obtain ⟨a, v, rfl, ea, q⟩ := h
    refine ⟨_, pss_one (ps_xst PySem.F.store_ValueError (newId := "ValueError.__new__") (pv 0) (pv 1)), ?_⟩
    exact ⟨_, rfl, _, rfl, a, C, fI, rfl, L.T, L.no _ (by simp), .inl ⟨ea, q⟩⟩
abbrev si_InvalidEnds : Stmt := inClass (top 8) 0
theorem sci_InvalidEnds : FnScope ["self", "value"] ["self", "value"] (defScope si_InvalidEnds) := ⟨rfl, rfl, rfl, by decide +kernel, rfl, by decide +kernel, by decide +kernel⟩
theorem in_InvalidEnds {C fI : Addr} {fd : FuncData} (F : Fun K "__init__" "InvalidEnds.__init__" si_InvalidEnds fI fd) (L : Cl K C fI [.type "ValueError", .type "Exception", .type "BaseException", .type "object"] "ValueError.__new__" ["value"]) (m : mg "InvalidEnds" = some (.ref C)) : XRz P w K mg base "InvalidEnds" C 1 (sp1n "value" C) := by
  obtain ⟨oc, od, kV, doc, pm, an, cdv, ct, osl, rfl, lk, hcd⟩ := F.ex
  refine ⟨fI, _, ["self", "value"], "ValueError", "ValueError.__new__", "ValueError.__init__", [.type "ValueError", .type "Exception", .type "BaseException", .type "object"], PySem.F.excBase_ValueError, L.T, m, F.ok sci_InvalidEnds (fun vs H Q E h => ?_) (fun cdv A outer s H vs Q E hr h => ?_),
    ⟨fun s us ws _ l1 l2 => match us, ws, l1, l2 with | [_, _], [], _, _ => .of_eq rfl, fun r _ => r⟩, L.look.xf.exC, L.ty⟩
  · obtain ⟨a, v, rfl, _⟩ := h
    rfl
  · obtain ⟨a, v, rfl, ea, q⟩ := h
    refine ⟨_, pss_one (ps_xst PySem.F.store_ValueError (newId := "ValueError.__new__") (pv 0) (pv 1)), ?_⟩
    exact ⟨_, rfl, _, rfl, a, C, fI, rfl, L.T, L.no _ (by simp), .inl ⟨ea, q⟩⟩
abbrev si_InvalidResult : Stmt := inClass (top 9) 0
theorem sci_InvalidResult : FnScope ["self", "value"] ["self", "value"] (defScope si_InvalidResult) := ⟨rfl, rfl, rfl, by decide +kernel, rfl, by decide +kernel, by decide +kernel⟩
theorem in_InvalidResult {C fI : Addr} {fd : FuncData} (F : Fun K "__init__" "InvalidResult.__init__" si_InvalidResult fI fd) (L : Cl K C fI [.type "ValueError", .type "Exception", .type "BaseException", .type "object"] "ValueError.__new__" ["value"]) (m : mg "InvalidResult" = some (.ref C)) : XRz P w K mg base "InvalidResult" C 1 (sp1n "value" C) := by
  obtain ⟨oc, od, kV, doc, pm, an, cdv, ct, osl, rfl, lk, hcd⟩ := F.ex
  refine ⟨fI, _, ["self", "value"], "ValueError", "ValueError.__new__", "ValueError.__init__", [.type "ValueError", .type "Exception", .type "BaseException", .type "object"], PySem.F.excBase_ValueError, L.T, m, F.ok sci_InvalidResult (fun vs H Q E h => ?_) (fun cdv A outer s H vs Q E hr h => ?_),
    ⟨fun s us ws _ l1 l2 => match us, ws, l1, l2 with | [_, _], [], _, _ => .of_eq rfl, fun r _ => r⟩, L.look.xf.exC, L.ty⟩
  · obtain ⟨a, v, rfl, _⟩ := h
    rfl
  · obtain ⟨a, v, rfl, ea, q⟩ := h
    refine ⟨_, pss_one (ps_xst PySem.F.store_ValueError (newId := "ValueError.__new__") (pv 0) (pv 1)), ?_⟩
    exact ⟨_, rfl, _, rfl, a, C, fI, rfl, L.T, L.no _ (by simp), .inl ⟨ea, q⟩⟩
abbrev si_InvalidSign : Stmt := inClass (top 12) 0
theorem sci_InvalidSign : FnScope ["self", "value"] ["self", "value"] (defScope si_InvalidSign) := ⟨rfl, rfl, rfl, by decide +kernel, rfl, by decide +kernel, by decide +kernel⟩
theorem in_InvalidSign {C fI : Addr} {fd : FuncData} (F : Fun K "__init__" "InvalidSign.__init__" si_InvalidSign fI fd) (L : Cl K C fI [.type "ValueError", .type "Exception", .type "BaseException", .type "object"] "ValueError.__new__" ["value"]) (m : mg "InvalidSign" = some (.ref C)) : XRz P w K mg base "InvalidSign" C 1 (sp1n "value" C) := by
  obtain ⟨oc, od, kV, doc, pm, an, cdv, ct, osl, rfl, lk, hcd⟩ := F.ex
  refine ⟨fI, _, ["self", "value"], "ValueError", "ValueError.__new__", "ValueError.__init__", [.type "ValueError", .type "Exception", .type "BaseException", .type "object"], PySem.F.excBase_ValueError, L.T, m, F.ok sci_InvalidSign (fun vs H Q E h => ?_) (fun cdv A outer s H vs Q E hr h => ?_),
    ⟨fun s us ws _ l1 l2 => match us, ws, l1, l2 with | [_, _], [], _, _ => .of_eq rfl, fun r _ => r⟩, L.look.xf.exC, L.ty⟩
  · obtain ⟨a, v, rfl, _⟩ := h
    rfl
  · obtain ⟨a, v, rfl, ea, q⟩ := h
    refine ⟨_, pss_one (ps_xst PySem.F.store_ValueError (newId := "ValueError.__new__") (pv 0) (pv 1)), ?_⟩
    exact ⟨_, rfl, _, rfl, a, C, fI, rfl, L.T, L.no _ (by simp), .inl ⟨ea, q⟩⟩
abbrev si_InvalidNumber : Stmt := inClass (top 3) 0
theorem sci_InvalidNumber : FnScope ["self", "value"] ["self", "value"] (defScope si_InvalidNumber) := ⟨rfl, rfl, rfl, by decide +kernel, rfl, by decide +kernel, by decide +kernel⟩
theorem in_InvalidNumber {C fI : Addr} {fd : FuncData} (F : Fun K "__init__" "InvalidNumber.__init__" si_InvalidNumber fI fd) (L : Cl K C fI [.type "ValueError", .type "Exception", .type "BaseException", .type "object"] "ValueError.__new__" ["value"]) (m : mg "InvalidNumber" = some (.ref C)) : XRz P w K mg base "InvalidNumber" C 1 (sp1n "value" C) := by
  obtain ⟨oc, od, kV, doc, pm, an, cdv, ct, osl, rfl, lk, hcd⟩ := F.ex
  refine ⟨fI, _, ["self", "value"], "ValueError", "ValueError.__new__", "ValueError.__init__", [.type "ValueError", .type "Exception", .type "BaseException", .type "object"], PySem.F.excBase_ValueError, L.T, m, F.ok sci_InvalidNumber (fun vs H Q E h => ?_) (fun cdv A outer s H vs Q E hr h => ?_),
    ⟨fun s us ws _ l1 l2 => match us, ws, l1, l2 with | [_, _], [], _, _ => .of_eq rfl, fun r _ => r⟩, L.look.xf.exC, L.ty⟩
  · obtain ⟨a, v, rfl, _⟩ := h
    rfl
  · obtain ⟨a, v, rfl, ea, q⟩ := h
    refine ⟨_, pss_one (ps_xst PySem.F.store_ValueError (newId := "ValueError.__new__") (pv 0) (pv 1)), ?_⟩
    exact ⟨_, rfl, _, rfl, a, C, fI, rfl, L.T, L.no _ (by simp), .inl ⟨ea, q⟩⟩
abbrev si_UnknownName : Stmt := inClass (top 13) 0
theorem sci_UnknownName : FnScope ["self", "value"] ["self", "value"] (defScope si_UnknownName) := ⟨rfl, rfl, rfl, by decide +kernel, rfl, by decide +kernel, by decide +kernel⟩
theorem in_UnknownName {C fI : Addr} {fd : FuncData} (F : Fun K "__init__" "UnknownName.__init__" si_UnknownName fI fd) (L : Cl K C fI [.type "LookupError", .type "Exception", .type "BaseException", .type "object"] "LookupError.__new__" ["value"]) (m : mg "UnknownName" = some (.ref C)) : XRz P w K mg base "UnknownName" C 1 (sp1n "value" C) := by
  obtain ⟨oc, od, kV, doc, pm, an, cdv, ct, osl, rfl, lk, hcd⟩ := F.ex
  refine ⟨fI, _, ["self", "value"], "LookupError", "LookupError.__new__", "LookupError.__init__", [.type "LookupError", .type "Exception", .type "BaseException", .type "object"], PySem.F.excBase_LookupError, L.T, m, F.ok sci_UnknownName (fun vs H Q E h => ?_) (fun cdv A outer s H vs Q E hr h => ?_),
    ⟨fun s us ws _ l1 l2 => match us, ws, l1, l2 with | [_, _], [], _, _ => .of_eq rfl, fun r _ => r⟩, L.look.xf.exC, L.ty⟩
  · obtain ⟨a, v, rfl, _⟩ := h
    rfl
  · obtain ⟨a, v, rfl, ea, q⟩ := h
    refine ⟨_, pss_one (ps_xst PySem.F.store_LookupError (newId := "LookupError.__new__") (pv 0) (pv 1)), ?_⟩
    exact ⟨_, rfl, _, rfl, a, C, fI, rfl, L.T, L.no _ (by simp), .inl ⟨ea, q⟩⟩
abbrev si_InvalidFigures : Stmt := inClass (top 11) 0
theorem sci_InvalidFigures : FnScope ["self", "value"] ["self", "value"] (defScope si_InvalidFigures) := ⟨rfl, rfl, rfl, by decide +kernel, rfl, by decide +kernel, by decide +kernel⟩
theorem in_InvalidFigures {C fI : Addr} {fd : FuncData} (F : Fun K "__init__" "InvalidFigures.__init__" si_InvalidFigures fI fd) (L : Cl K C fI [.type "ValueError", .type "Exception", .type "BaseException", .type "object"] "ValueError.__new__" ["value"]) (m : mg "InvalidFigures" = some (.ref C)) : XRz P w K mg base "InvalidFigures" C 1 (sp1n "value" C) := by
  obtain ⟨oc, od, kV, doc, pm, an, cdv, ct, osl, rfl, lk, hcd⟩ := F.ex
  refine ⟨fI, _, ["self", "value"], "ValueError", "ValueError.__new__", "ValueError.__init__", [.type "ValueError", .type "Exception", .type "BaseException", .type "object"], PySem.F.excBase_ValueError, L.T, m, F.ok sci_InvalidFigures (fun vs H Q E h => ?_) (fun cdv A outer s H vs Q E hr h => ?_),
    ⟨fun s us ws _ l1 l2 => match us, ws, l1, l2 with | [_, _], [], _, _ => .of_eq rfl, fun r _ => r⟩, L.look.xf.exC, L.ty⟩
  · obtain ⟨a, v, rfl, _⟩ := h
    rfl
  · obtain ⟨a, v, rfl, ea, q⟩ := h
    refine ⟨_, pss_one (ps_xst PySem.F.store_ValueError (newId := "ValueError.__new__") (pv 0) (pv 1)), ?_⟩
    exact ⟨_, rfl, _, rfl, a, C, fI, rfl, L.T, L.no _ (by simp), .inl ⟨ea, q⟩⟩
abbrev si_InvalidProgram : Stmt := inClass (top 10) 0
theorem sci_InvalidProgram : FnScope ["self", "value"] ["self", "value"] (defScope si_InvalidProgram) := ⟨rfl, rfl, rfl, by decide +kernel, rfl, by decide +kernel, by decide +kernel⟩
theorem in_InvalidProgram {C fI : Addr} {fd : FuncData} (F : Fun K "__init__" "InvalidProgram.__init__" si_InvalidProgram fI fd) (L : Cl K C fI [.type "ValueError", .type "Exception", .type "BaseException", .type "object"] "ValueError.__new__" ["value"]) (m : mg "InvalidProgram" = some (.ref C)) : XRz P w K mg base "InvalidProgram" C 1 (sp1n "value" C) := by
  obtain ⟨oc, od, kV, doc, pm, an, cdv, ct, osl, rfl, lk, hcd⟩ := F.ex
  refine ⟨fI, _, ["self", "value"], "ValueError", "ValueError.__new__", "ValueError.__init__", [.type "ValueError", .type "Exception", .type "BaseException", .type "object"], PySem.F.excBase_ValueError, L.T, m, F.ok sci_InvalidProgram (fun vs H Q E h => ?_) (fun cdv A outer s H vs Q E hr h => ?_),
    ⟨fun s us ws _ l1 l2 => match us, ws, l1, l2 with | [_, _], [], _, _ => .of_eq rfl, fun r _ => r⟩, L.look.xf.exC, L.ty⟩
  · obtain ⟨a, v, rfl, _⟩ := h
    rfl
  · obtain ⟨a, v, rfl, ea, q⟩ := h
    refine ⟨_, pss_one (ps_xst PySem.F.store_ValueError (newId := "ValueError.__new__") (pv 0) (pv 1)), ?_⟩
    exact ⟨_, rfl, _, rfl, a, C, fI, rfl, L.T, L.no _ (by simp), .inl ⟨ea, q⟩⟩
abbrev si_InvalidRow : Stmt := inClass (top 7) 0
theorem sci_InvalidRow : FnScope ["self", "mode", "number"] ["self", "mode", "number"] (defScope si_InvalidRow) := ⟨rfl, rfl, rfl, by decide +kernel, rfl, by decide +kernel, by decide +kernel⟩
theorem in_InvalidRow {C fI : Addr} {fd : FuncData} (F : Fun K "__init__" "InvalidRow.__init__" si_InvalidRow fI fd) (L : Cl K C fI [.type "ValueError", .type "Exception", .type "BaseException", .type "object"] "ValueError.__new__" ["mode", "number"]) (m : mg "InvalidRow" = some (.ref C)) : XRz P w K mg base "InvalidRow" C 2 (sp2n "mode" "number" C) := by
  obtain ⟨oc, od, kV, doc, pm, an, cdv, ct, osl, rfl, lk, hcd⟩ := F.ex
  refine ⟨fI, _, ["self", "mode", "number"], "ValueError", "ValueError.__new__", "ValueError.__init__", [.type "ValueError", .type "Exception", .type "BaseException", .type "object"], PySem.F.excBase_ValueError, L.T, m, F.ok sci_InvalidRow (fun vs H Q E h => ?_) (fun cdv A outer s H vs Q E hr h => ?_),
    ⟨fun s us ws _ l1 l2 => match us, ws, l1, l2 with | [_, _, _], [], _, _ => .of_eq rfl, fun r _ => r⟩, L.look.xf.exC, L.ty⟩
  · obtain ⟨a, v, u, rfl, _⟩ := h
    rfl
  · obtain ⟨a, v, u, rfl, ea, q⟩ := h
    refine ⟨_, pss_cons (ps_xst PySem.F.store_ValueError (newId := "ValueError.__new__") (pv 0) (pv 1)) (pss_one (ps_xst PySem.F.store_ValueError (newId := "ValueError.__new__") (pv 0) (pv 2))), ?_⟩
    refine ⟨_, rfl, _, rfl, a, C, fI, rfl, L.T, L.no _ (by simp), .inl ⟨ea, fun dx n ne => ?_⟩⟩
    exact ⟨_, rfl, _, rfl, a, C, fI, rfl, L.T, L.no _ (by simp), .inr ⟨dx, _, upd_same, (by rw [upd_ne ne, upd_same]), (by show 1 ≤ 900; decide), q dx n ne⟩⟩
end
section
variable {K : PySem.W.Frag}
/-- an __init__ without defaults -/
def IFun (K : PySem.W.Frag) (C : Addr) (q : Str) (st : Stmt) (ps : List Str) : Prop := ∃ f fd, Mk K C f ∧ Fun K "__init__" q st f fd ∧ Binds K fd ps []
theorem ifun_mk {C f : Addr} {q : Str} {st : Stmt} {ps : List Str} {oc : Value} {od an : Option Addr} {osl : Array (Option Value)} {kV doc pm cdv ct : Value}
    (b : ∀ (kV doc pm : Value) (an : Option Addr) (cdv ct : Value) (us : List Value), us.length = ps.length → bindArgs (PySem.W.fnOf "__init__" q (defArgs st) (defBody st) (defScope st) .none kV doc pm an cdv ct) ⟨us, []⟩ = pure (ps.zip us))
    (a : PySem.W.findIn K (.ref C) "__init__" = some (some (.ref f))) (l : K.lookup f = some ⟨oc, od, .func (PySem.W.fnOf "__init__" q (defArgs st) (defBody st) (defScope st) .none kV doc pm an cdv ct), osl⟩) (c : PySem.W.codeIn K cdv q = true) (k : PySem.W.keepIn K (.ref f) = true)
    (m : PySem.W.makesIn K C = true) (i : PySem.W.isFn K (.ref f) = true) (kc : PySem.W.keepIn K (.ref C) = true) : IFun K C q st ps :=
  ⟨f, _, ⟨m, a, i, kc⟩, fun_mk (st := st) l c k, (fun_mk (st := st) l c k).binds (ps := ps) b⟩
/-- a method -/
def MeFun (K : PySem.W.Frag) (C : Addr) (nm q : Str) (st : Stmt) (ps : List Str) : Prop := ∃ f fd, Meth K C nm f ∧ Fun K nm q st f fd ∧ Binds K fd ps []
def IxFun (K : PySem.W.Frag) (C : Addr) (q : Str) (st : Stmt) (ps : List Str) : Prop := ∃ f fd, PySem.W.findIn K (.ref C) "__getitem__" = some (some (.ref f)) ∧ PySem.W.fnIn K f = true ∧ PySem.W.isFn K (.ref f) = true ∧ Fun K "__getitem__" q st f fd ∧ Binds K fd ps []
theorem ixfun_mk {C f : Addr} {q : Str} {st : Stmt} {ps : List Str} {oc : Value} {od an : Option Addr} {osl : Array (Option Value)} {kV doc pm cdv ct : Value}
    (b : ∀ (kV doc pm : Value) (an : Option Addr) (cdv ct : Value) (us : List Value), us.length = ps.length → bindArgs (PySem.W.fnOf "__getitem__" q (defArgs st) (defBody st) (defScope st) .none kV doc pm an cdv ct) ⟨us, []⟩ = pure (ps.zip us))
    (a : PySem.W.findIn K (.ref C) "__getitem__" = some (some (.ref f))) (l : K.lookup f = some ⟨oc, od, .func (PySem.W.fnOf "__getitem__" q (defArgs st) (defBody st) (defScope st) .none kV doc pm an cdv ct), osl⟩) (c : PySem.W.codeIn K cdv q = true) (k : PySem.W.keepIn K (.ref f) = true)
    (i : PySem.W.isFn K (.ref f) = true) (n : PySem.W.fnIn K f = true) : IxFun K C q st ps := ⟨f, _, a, n, i, fun_mk (st := st) l c k, (fun_mk (st := st) l c k).binds (ps := ps) b⟩
theorem cls_mk {C : Addr} (t : (PySem.W.plainGet K C Str.empty, PySem.W.hasDictIn K C, PySem.W.plainOver K C) = (true, true, true)) (u : PySem.W.findIn K (.ref C) "__setattr__" = some (some (.builtin "object.__setattr__"))) : Cls K C := by
  simp only [Prod.mk.injEq] at t
  obtain ⟨t1, t2, t3⟩ := t
  exact ⟨t1, t2, t3, u⟩
/-- what == asks of an own class -/
theorem pkit_mk {CP : Addr} (g1 : PySem.W.specialIn K (.builtin "object.__class__") "__get__" = some (some (.builtin "getset_descriptor.__get__"))) (g2 : PySem.W.takesIn K (.builtin "object.__class__") = some true)
    (u : PySem.W.findIn K (.ref CP) "__class__" = some (some (.builtin "object.__class__"))) (v : PySem.W.mroIn K CP (.type "object") = some true)
    (o : PySem.W.kitOne K (.ref CP) (.ref CP) = some true)
    (d1 : PySem.W.kitOne K (.type "NoneType") (.ref CP) = some false) (d2 : PySem.W.kitOne K (.type "bool") (.ref CP) = some false) (d3 : PySem.W.kitOne K (.type "int") (.ref CP) = some false) (d4 : PySem.W.kitOne K (.type "str") (.ref CP) = some false) (d5 : PySem.W.kitOne K (.type "list") (.ref CP) = some false) (d6 : PySem.W.kitOne K (.type "tuple") (.ref CP) = some false) : PKit K CP := by
  refine ⟨u, g1, g2, v, o, fun h => ?_⟩
  cases h
  · exact d1
  · exact d2
  · exact d3
  · exact d4
  · exact d5
  · exact d6
structure PIn (K : PySem.W.Frag) (CP : Addr) : Prop where
  n1 : NoAttr K CP "_base"
  n2 : NoAttr K CP "_registers"
  n3 : NoAttr K CP "_modes"
  n4 : NoAttr K CP "_ends"
  n5 : NoAttr K CP "_result"
  n6 : NoAttr K CP "_tables"
theorem lift_fn {P : Program} {w : World} {mg : Str → Option Value} {base : Heap} {CX : CXT} {k k' : Nat} {f : Addr} {fd : FuncData} {ps : List Str} {sp : Sp} (F : FnOk P w K mg base CX k f fd ps sp) (l : k ≤ k') : FnOk P w K mg base CX k' f fd ps sp :=
  ⟨F.len, fun A outer s H args us vs Q E hr e0 bt r h => F.run A outer s H args us vs Q E (hr.mono l) e0 bt r h⟩
theorem reg_named : ∀ d, regD d = true → ∃ s rest, d = .tuple (.str s :: rest) := fun d h => by
  unfold regD at h
  simp only [Bool.and_eq_true] at h
  obtain ⟨a, b, c, _⟩ := h
  have e := isTup_eq a
  rw [items_of (of_decide_eq_true b)] at e
  have c' := c
  cases k : itD d 0 <;> rw [k] at c' <;> first | cases c' | skip
  rename_i s
  refine ⟨s, [itD d 1], ?_⟩
  refine e.trans ?_
  show PyData.tuple [itD d 0, itD d 1] = _
  rw [k]
theorem mode_named : ∀ d, modeD d = true → ∃ s rest, d = .tuple (.str s :: rest) := fun d h => by
  have h0 := h
  unfold modeD at h
  simp only [Bool.and_eq_true] at h
  obtain ⟨a, b, _⟩ := h
  have e := isTup_eq a
  rw [items_of (of_decide_eq_true b)] at e
  refine ⟨nmOf d, [itD d 1, itD d 2], ?_⟩
  have k := modeD_name h0
  refine e.trans ?_
  show PyData.tuple [itD d 0, itD d 1, itD d 2] = _
  rw [k]
end
theorem all_mk {l : PySem.W.OpenLaw} {w : World} {K : PySem.W.Frag} {h : Heap} {mg : Str → Option Value} {fa fL fV c Pt C_InvalidBase C_InvalidRegisters C_InvalidModes C_InvalidRow C_InvalidEnds C_InvalidResult C_InvalidSign C_InvalidNumber C_UnknownName C_InvalidFigures C_InvalidProgram aR CP : Addr} {otR : Obj} {itR : Array Value} {nR : Nat} {tkL tkS : Tok} {cdL kVV docV pmV ctV ocV kVL docL pmL ctL ocL : Value} {odV anV odL anL : Option Addr} {oslV oslL : Array (Option Value)} (X : K.In h) (G : h.Ns mainGlobals mg) (hfa : mg "law" = some (.ref fa)) (tb : h.get? Pt = some noTab)
    (D_is_integer : Has K mg "is_integer" s_is_integer ["value"])
    (D_is_between : Has K mg "is_between" s_is_between ["value", "low", "high"])
    (D_is_rule : Has K mg "is_rule" s_is_rule ["value"])
    (D_is_sign : Has K mg "is_sign" s_is_sign ["value"])
    (D_is_base : Has K mg "is_base" s_is_base ["value"])
    (D_is_remainder : Has K mg "is_remainder" s_is_remainder ["value", "size"])
    (D_is_name : Has K mg "is_name" s_is_name ["value"])
    (D_is_listing : Has K mg "is_listing" s_is_listing ["value", "least", "most"])
    (D_is_factors : Has K mg "is_factors" s_is_factors ["value", "many"])
    (D_is_register : Has K mg "is_register" s_is_register ["value"])
    (D_is_mode : Has K mg "is_mode" s_is_mode ["value"])
    (D_is_row : Has K mg "is_row" s_is_row ["value", "size", "many", "names"])
    (D_first_wrong : Has K mg "first_wrong" s_first_wrong ["parts", "is_part"])
    (D_check_registers : Has K mg "check_registers" s_check_registers ["registers"])
    (D_check_modes : Has K mg "check_modes" s_check_modes ["modes"])
    (D_check_rows : Has K mg "check_rows" s_check_rows ["mode", "rows", "size", "many", "names"])
    (D_check_ends : Has K mg "check_ends" s_check_ends ["ends", "size"])
    (D_check_program : Has K mg "check_program" s_check_program ["base", "registers", "modes", "ends", "result"])
    (D_goes_up : Has K mg "goes_up" s_goes_up ["rule", "rest", "base"])
    (D_divide : Has K mg "divide" s_divide ["rule", "x", "base"])
    (D_table_of : Has K mg "table_of" s_table_of ["rows"])
    (D_sign_of : Has K mg "sign_of" s_sign_of ["x"])
    (D_weighed : Has K mg "weighed" s_weighed ["factors", "values"])
    (D_result_of : Has K mg "result_of" s_result_of ["program", "registers"])
    (D_path_of : Has K mg "path_of" s_path_of ["program", "mode", "x"])
    (D_first_mode : Has K mg "first_mode" s_first_mode ["program"])
    (D_first_values : Has K mg "first_values" s_first_values ["program"])
    (D_walk : Has K mg "walk" s_walk ["program", "number"])
    (D_result_at : Has K mg "result_at" s_result_at ["program", "number"])
    (D_is_word : Has K mg "is_word" s_is_word ["value", "size"])
    (D_is_figures : Has K mg "is_figures" s_is_figures ["value", "size"])
    (D_number_of : Has K mg "number_of" s_number_of ["sign", "figures", "size"])
    (D_check_meant : Has K mg "check_meant" s_check_meant ["program", "sign"])
    (D_value_at : Has K mg "value_at" s_value_at ["program", "number"])
    (D_word_value : Has K mg "word_value" s_word_value ["program", "sign", "word"])
    (D__law_pool : Has K mg "_law_pool" s__law_pool ["_law_script", "_law_k"])
    (D__law_draw : Has K mg "_law_draw" s__law_draw ["_law_pool_here", "_law_many"])
    (D__law_choose : Has K mg "_law_choose" s__law_choose ["_law_pool_here", "_law_items"])
    (D__law_update : Has K mg "_law_update" s__law_update ["_law_pool_here", "_law_at", "_law_many", "_law_size"])
    (D__law_rows : Has K mg "_law_rows" s__law_rows ["_law_pool_here", "_law_size", "_law_many", "_law_names"])
    (D__law_built : Has K mg "_law_built" s__law_built ["_law_pool_here", "_law_base"])
    (D__law_parts : Has K mg "_law_parts" s__law_parts ["_law_pool_here", "_law_sizes", "_law_most", "_law_built_here"])
    (D__law_made : Has K mg "_law_made" s__law_made ["_law_parts_here"])
    (D__law_split : Has K mg "_law_split" s__law_split ["_law_rule", "_law_x", "_law_base"])
    (D__law_line : Has K mg "_law_line" s__law_line ["_law_rows_here", "_law_side", "_law_part"])
    (D__law_play : Has K mg "_law_play" s__law_play ["_law_parts_here", "_law_number"])
    (D__law_dot : Has K mg "_law_dot" s__law_dot ["_law_one", "_law_other"])
    (D__law_value : Has K mg "_law_value" s__law_value ["_law_parts_here", "_law_side", "_law_word"])
    (D__law_words : Has K mg "_law_words" s__law_words ["_law_size", "_law_most"])
    (D__law_refused : Has K mg "_law_refused" s__law_refused ["_law_program", "_law_side", "_law_word"])
    (D__law_no_side : Has K mg "_law_no_side" s__law_no_side ["_law_program", "_law_side", "_law_word"])
    (N_InvalidBase : CIn K "InvalidBase" "InvalidBase.__init__" si_InvalidBase C_InvalidBase [.type "ValueError", .type "Exception", .type "BaseException", .type "object"] "ValueError.__new__" ["value"])
    (N_InvalidRegisters : CIn K "InvalidRegisters" "InvalidRegisters.__init__" si_InvalidRegisters C_InvalidRegisters [.type "ValueError", .type "Exception", .type "BaseException", .type "object"] "ValueError.__new__" ["number"])
    (N_InvalidModes : CIn K "InvalidModes" "InvalidModes.__init__" si_InvalidModes C_InvalidModes [.type "ValueError", .type "Exception", .type "BaseException", .type "object"] "ValueError.__new__" ["number"])
    (N_InvalidRow : CIn K "InvalidRow" "InvalidRow.__init__" si_InvalidRow C_InvalidRow [.type "ValueError", .type "Exception", .type "BaseException", .type "object"] "ValueError.__new__" ["mode", "number"])
    (N_InvalidEnds : CIn K "InvalidEnds" "InvalidEnds.__init__" si_InvalidEnds C_InvalidEnds [.type "ValueError", .type "Exception", .type "BaseException", .type "object"] "ValueError.__new__" ["value"])
    (N_InvalidResult : CIn K "InvalidResult" "InvalidResult.__init__" si_InvalidResult C_InvalidResult [.type "ValueError", .type "Exception", .type "BaseException", .type "object"] "ValueError.__new__" ["value"])
    (N_InvalidSign : CIn K "InvalidSign" "InvalidSign.__init__" si_InvalidSign C_InvalidSign [.type "ValueError", .type "Exception", .type "BaseException", .type "object"] "ValueError.__new__" ["value"])
    (N_InvalidNumber : CIn K "InvalidNumber" "InvalidNumber.__init__" si_InvalidNumber C_InvalidNumber [.type "ValueError", .type "Exception", .type "BaseException", .type "object"] "ValueError.__new__" ["value"])
    (N_UnknownName : CIn K "UnknownName" "UnknownName.__init__" si_UnknownName C_UnknownName [.type "LookupError", .type "Exception", .type "BaseException", .type "object"] "LookupError.__new__" ["value"])
    (N_InvalidFigures : CIn K "InvalidFigures" "InvalidFigures.__init__" si_InvalidFigures C_InvalidFigures [.type "ValueError", .type "Exception", .type "BaseException", .type "object"] "ValueError.__new__" ["value"])
    (N_InvalidProgram : CIn K "InvalidProgram" "InvalidProgram.__init__" si_InvalidProgram C_InvalidProgram [.type "ValueError", .type "Exception", .type "BaseException", .type "object"] "ValueError.__new__" ["value"])
    (aCP : PySem.W.nsIn K mainGlobals "Program" = some (some (.ref CP)))
    (clCP : Cls K CP)
    (pin : PIn K CP)
    (iP : IFun K CP "Program.__init__" s_Program___init__ ["self", "base", "registers", "modes", "ends", "result"])
    (p_base : PFun K CP "base" "Program.base" s_Program_base)
    (p_size : PFun K CP "size" "Program.size" s_Program_size)
    (p_ends : PFun K CP "ends" "Program.ends" s_Program_ends)
    (p_result : PFun K CP "result" "Program.result" s_Program_result)
    (m_registers : MeFun K CP "registers" "Program.registers" s_Program_registers ["self"])
    (m_modes : MeFun K CP "modes" "Program.modes" s_Program_modes ["self"])
    (m_rule_of : MeFun K CP "rule_of" "Program.rule_of" s_Program_rule_of ["self", "mode"])
    (m__mode : MeFun K CP "_mode" "Program._mode" s_Program__mode ["self", "mode"])
    (m_getitem : IxFun K CP "Program.__getitem__" s_Program___getitem__ ["self", "at"])
    (kitCP : PKit K CP)
    (aV : PySem.W.nsIn K mainGlobals "_law_value" = some (some (.ref fV)))
    (lV : K.lookup fV = some ⟨ocV, odV, .func (PySem.W.fnOf "_law_value" "_law_value" (defArgs s__law_value) (defBody s__law_value) (defScope s__law_value) .none kVV docV pmV anV (.ref c) ctV), oslV⟩)
    (cV : PySem.W.codeIn K (.ref c) "_law_value" = true)
    (kV : PySem.W.keepIn K (.ref fV) = true)
    (aL : PySem.W.nsIn K mainGlobals "law" = some (some (.ref fL)))
    (lL : K.lookup fL = some ⟨ocL, odL, .func (PySem.W.fnOf "law" "law" (defArgs s_law) (defBody s_law) (defScope s_law) .none kVL docL pmL anL cdL ctL), oslL⟩)
    (cL : PySem.W.codeIn K cdL "law" = true)
    (kL : PySem.W.keepIn K (.ref fL) = true)
    (eF : PySem.W.exmOne K (.ref C_InvalidFigures) (.ref C_InvalidFigures) = some true)
    (eS : PySem.W.exmOne K (.ref C_InvalidSign) (.ref C_InvalidSign) = some true)
    (aT : PySem.W.nsIn K mainGlobals "RULES" = some (some (.ref aR)))
    (lT : K.lookup aR = some otR)
    (cT : otR.cls = .type "tuple")
    (dT : otR.data = .seq itR nR)
    (sT : itR.size ≤ sizeLine)
    (vT : Vals (five.map V.str) itR.toList)
    (gL : PySem.W.nsIn K mainGlobals "LARGEST" = some (some (.int 1000000 tkL)))
    (gS : PySem.W.nsIn K mainGlobals "LETTERS" = some (some (.str abc tkS)))
    (ch : PySem.W.codeHdIn K c Pt = true)
    (tk : K.lookup Pt = none)
    (z0 : PySem.W.nsIn K mainGlobals "isinstance" = some none)
    (z1 : PySem.W.nsIn K mainGlobals "int" = some none)
    (z2 : PySem.W.nsIn K mainGlobals "bool" = some none)
    (z3 : PySem.W.nsIn K mainGlobals "str" = some none)
    (z4 : PySem.W.nsIn K mainGlobals "abs" = some none)
    (z5 : PySem.W.nsIn K mainGlobals "len" = some none)
    (z6 : PySem.W.nsIn K mainGlobals "list" = some none)
    (z7 : PySem.W.nsIn K mainGlobals "tuple" = some none)
    (z8 : PySem.W.nsIn K mainGlobals "range" = some none)
    (z9 : PySem.W.nsIn K mainGlobals "enumerate" = some none)
    (z10 : PySem.W.nsIn K mainGlobals "all" = some none)
    (z11 : PySem.W.nsIn K mainGlobals "max" = some none)
    (z12 : PySem.W.nsIn K mainGlobals "min" = some none)
    (z13 : PySem.W.nsIn K mainGlobals "sum" = some none)
    (z14 : PySem.W.nsIn K mainGlobals "zip" = some none)
    (z15 : PySem.W.nsIn K mainGlobals "dict" = some none)
    (z16 : PySem.W.nsIn K mainGlobals "iter" = some none)
    (z17 : PySem.W.nsIn K mainGlobals "repr" = some none) :
    ∃ (fd : FuncData) (c Pt : Addr), (∀ (s : Shared) (v : Value), BindsTo s fd ⟨[v], []⟩ [("_law_script", v)]) ∧ h.get? Pt = some noTab ∧ K.lookup Pt = none ∧ PySem.W.CodeHd h c Pt ∧
      (∀ base : Heap, K.In base → base.Ns mainGlobals mg → LamX.TabB base mg c Pt → FnG l.prog w K mg base CX0 12 fa fd ["_law_script"] (spLaw K Pt)) := by
  have e := hfa.symm.trans (PySem.W.mg_of X G aL)
  cases e
  have fr : ∀ {y : Str}, PySem.W.nsIn K mainGlobals y = some none → mg y = none := fun z => PySem.W.mg_none_of X G z
  have T : Txt K mg 0 := ⟨fr z0, fr z1, fr z2, fr z3, fr z4, fr z5, fr z6, fr z7, fr z8, fr z9, fr z10, fr z11, fr z12, fr z13, fr z14, fr z15, fr z16, fr z17⟩
  obtain ⟨fI_InvalidBase, dI_InvalidBase, aI_InvalidBase, FI_InvalidBase, LI_InvalidBase⟩ := N_InvalidBase
  have m_InvalidBase := PySem.W.mg_of X G aI_InvalidBase
  obtain ⟨fI_InvalidRegisters, dI_InvalidRegisters, aI_InvalidRegisters, FI_InvalidRegisters, LI_InvalidRegisters⟩ := N_InvalidRegisters
  have m_InvalidRegisters := PySem.W.mg_of X G aI_InvalidRegisters
  obtain ⟨fI_InvalidModes, dI_InvalidModes, aI_InvalidModes, FI_InvalidModes, LI_InvalidModes⟩ := N_InvalidModes
  have m_InvalidModes := PySem.W.mg_of X G aI_InvalidModes
  obtain ⟨fI_InvalidRow, dI_InvalidRow, aI_InvalidRow, FI_InvalidRow, LI_InvalidRow⟩ := N_InvalidRow
  have m_InvalidRow := PySem.W.mg_of X G aI_InvalidRow
  obtain ⟨fI_InvalidEnds, dI_InvalidEnds, aI_InvalidEnds, FI_InvalidEnds, LI_InvalidEnds⟩ := N_InvalidEnds
  have m_InvalidEnds := PySem.W.mg_of X G aI_InvalidEnds
  obtain ⟨fI_InvalidResult, dI_InvalidResult, aI_InvalidResult, FI_InvalidResult, LI_InvalidResult⟩ := N_InvalidResult
  have m_InvalidResult := PySem.W.mg_of X G aI_InvalidResult
  obtain ⟨fI_InvalidSign, dI_InvalidSign, aI_InvalidSign, FI_InvalidSign, LI_InvalidSign⟩ := N_InvalidSign
  have m_InvalidSign := PySem.W.mg_of X G aI_InvalidSign
  obtain ⟨fI_InvalidNumber, dI_InvalidNumber, aI_InvalidNumber, FI_InvalidNumber, LI_InvalidNumber⟩ := N_InvalidNumber
  have m_InvalidNumber := PySem.W.mg_of X G aI_InvalidNumber
  obtain ⟨fI_UnknownName, dI_UnknownName, aI_UnknownName, FI_UnknownName, LI_UnknownName⟩ := N_UnknownName
  have m_UnknownName := PySem.W.mg_of X G aI_UnknownName
  obtain ⟨fI_InvalidFigures, dI_InvalidFigures, aI_InvalidFigures, FI_InvalidFigures, LI_InvalidFigures⟩ := N_InvalidFigures
  have m_InvalidFigures := PySem.W.mg_of X G aI_InvalidFigures
  obtain ⟨fI_InvalidProgram, dI_InvalidProgram, aI_InvalidProgram, FI_InvalidProgram, LI_InvalidProgram⟩ := N_InvalidProgram
  have m_InvalidProgram := PySem.W.mg_of X G aI_InvalidProgram
  refine ⟨PySem.W.fnOf "law" "law" (defArgs s_law) (defBody s_law) (defScope s_law) .none kVL docL pmL anL cdL ctL, c, Pt, fun s v => .of_eq rfl, tb, tk, PySem.W.codeHd_of_K X ch, fun base _ _ TB => ?_⟩
  have X_InvalidBase := in_InvalidBase (P := l.prog) (w := w) (base := base) FI_InvalidBase LI_InvalidBase m_InvalidBase
  have X_InvalidRegisters := in_InvalidRegisters (P := l.prog) (w := w) (base := base) FI_InvalidRegisters LI_InvalidRegisters m_InvalidRegisters
  have X_InvalidModes := in_InvalidModes (P := l.prog) (w := w) (base := base) FI_InvalidModes LI_InvalidModes m_InvalidModes
  have X_InvalidRow := in_InvalidRow (P := l.prog) (w := w) (base := base) FI_InvalidRow LI_InvalidRow m_InvalidRow
  have X_InvalidEnds := in_InvalidEnds (P := l.prog) (w := w) (base := base) FI_InvalidEnds LI_InvalidEnds m_InvalidEnds
  have X_InvalidResult := in_InvalidResult (P := l.prog) (w := w) (base := base) FI_InvalidResult LI_InvalidResult m_InvalidResult
  have X_InvalidSign := in_InvalidSign (P := l.prog) (w := w) (base := base) FI_InvalidSign LI_InvalidSign m_InvalidSign
  have X_InvalidNumber := in_InvalidNumber (P := l.prog) (w := w) (base := base) FI_InvalidNumber LI_InvalidNumber m_InvalidNumber
  have X_UnknownName := in_UnknownName (P := l.prog) (w := w) (base := base) FI_UnknownName LI_UnknownName m_UnknownName
  have X_InvalidFigures := in_InvalidFigures (P := l.prog) (w := w) (base := base) FI_InvalidFigures LI_InvalidFigures m_InvalidFigures
  have X_InvalidProgram := in_InvalidProgram (P := l.prog) (w := w) (base := base) FI_InvalidProgram LI_InvalidProgram m_InvalidProgram
  have PT : PTx K mg aR := ⟨T, PySem.W.mg_of X G aT, fun H => .inr ⟨otR, itR, nR, lT, cT, dT, sT, vT⟩, ⟨tkL, PySem.W.mg_of X G gL⟩, ⟨tkS, PySem.W.mg_of X G gS⟩⟩
  have C : PCls K mg CP := ⟨clCP, PySem.W.mg_of X G aCP, pin.n1, pin.n2, pin.n3, pin.n4, pin.n5, pin.n6⟩
  have O_is_integer := ok_is_integer (P := l.prog) (w := w) (base := base) D_is_integer PT
  have O_is_between := ok_is_between (P := l.prog) (w := w) (base := base) D_is_between O_is_integer
  have O_is_rule := ok_is_rule (P := l.prog) (w := w) (base := base) D_is_rule PT
  have O_is_sign := ok_is_sign (P := l.prog) (w := w) (base := base) D_is_sign O_is_between
  have O_is_base := ok_is_base (P := l.prog) (w := w) (base := base) D_is_base PT O_is_between
  have O_is_remainder := ok_is_remainder (P := l.prog) (w := w) (base := base) D_is_remainder O_is_between
  have O_is_name := ok_is_name (P := l.prog) (w := w) (base := base) D_is_name PT
  have O_is_listing := ok_is_listing (P := l.prog) (w := w) (base := base) D_is_listing PT
  have O_is_factors := ok_is_factors (P := l.prog) (w := w) (base := base) D_is_factors PT O_is_between
  have O_is_register := ok_is_register (P := l.prog) (w := w) (base := base) D_is_register PT O_is_name O_is_factors
  have O_is_mode := ok_is_mode (P := l.prog) (w := w) (base := base) D_is_mode PT O_is_name O_is_rule
  have O_is_row := ok_is_row (P := l.prog) (w := w) (base := base) D_is_row PT O_is_between O_is_remainder O_is_factors
  obtain ⟨f0, fd0, g0, k0, b0, F0⟩ := id O_is_register
  have O_fw1 := ok_first_wrong (P := l.prog) (w := w) (base := base) (part := regD) D_first_wrong PT F0 k0 b0 reg_named
  have O_check_registers := ok_check_registers D_check_registers g0 O_is_listing O_fw1 X_InvalidRegisters
  obtain ⟨f1, fd1, g1, k1, b1, F1⟩ := id O_is_mode
  have O_fw2 := ok_first_wrong (P := l.prog) (w := w) (base := base) (part := modeD) D_first_wrong PT (lift_fn F1 (by decide)) k1 b1 mode_named
  have O_check_modes := ok_check_modes D_check_modes g1 O_is_listing O_fw2 X_InvalidModes
  have O_check_rows := ok_check_rows (P := l.prog) (w := w) (base := base) D_check_rows PT O_is_row X_InvalidRow
  have O_check_ends := ok_check_ends (P := l.prog) (w := w) (base := base) D_check_ends PT O_is_remainder X_InvalidEnds
  have O_check_program := ok_check_program (P := l.prog) (w := w) (base := base) D_check_program PT O_is_base O_check_registers O_check_modes O_check_rows O_check_ends O_is_factors X_InvalidBase X_InvalidResult
  have O_table_of := ok_table_of (P := l.prog) (w := w) (base := base) D_table_of 
  have mk : MkP l.prog w K mg base CP C_InvalidBase C_InvalidRegisters C_InvalidModes C_InvalidRow C_InvalidEnds C_InvalidResult := by
    obtain ⟨f, fd, m, F, b⟩ := iP
    exact ⟨f, fd, m, ok_Program_init F C PT O_check_program O_table_of, b⟩
  have pBase := ok_Program_base (P := l.prog) (w := w) (base := base) p_base C
  have pSize := ok_Program_size (P := l.prog) (w := w) (base := base) p_size C PT
  have pEnds := ok_Program_ends (P := l.prog) (w := w) (base := base) p_ends C
  have pResult := ok_Program_result (P := l.prog) (w := w) (base := base) p_result C
  have mM : OwnMeth l.prog w K mg base CP 3 "_mode" ["self", "mode"] (spPMode l.prog w CP C_UnknownName) := by
    obtain ⟨f, fd, m, F, b⟩ := m__mode
    exact ⟨f, fd, m, b, ok_Program__mode F C PT X_UnknownName⟩
  have mRegs : OwnMeth l.prog w K mg base CP 1 "registers" ["self"] (spPRegs l.prog w CP) := by
    obtain ⟨f, fd, m, F, b⟩ := m_registers
    exact ⟨f, fd, m, b, ok_Program_registers F C PT⟩
  have mModes : OwnMeth l.prog w K mg base CP 1 "modes" ["self"] (spPModes l.prog w CP) := by
    obtain ⟨f, fd, m, F, b⟩ := m_modes
    exact ⟨f, fd, m, b, ok_Program_modes F C⟩
  have mRule : OwnMeth l.prog w K mg base CP 4 "rule_of" ["self", "mode"] (spPRuleOf l.prog w CP C_UnknownName) := by
    obtain ⟨f, fd, m, F, b⟩ := m_rule_of
    exact ⟨f, fd, m, b, ok_Program_rule_of F C mM⟩
  have mIx : OwnIx l.prog w K mg base CP 4 ["self", "at"] (spPGet l.prog w CP C_UnknownName C_InvalidSign C_InvalidNumber) := by
    obtain ⟨f, fd, a, n, i, F, b⟩ := m_getitem
    exact ⟨f, fd, a, n, i, b, ok_Program_getitem F C mM pSize O_is_between O_is_remainder X_InvalidSign X_InvalidNumber⟩
  have O_goes_up := ok_goes_up (P := l.prog) (w := w) (base := base) (aR := 0) D_goes_up T
  have O_divide := ok_divide (P := l.prog) (w := w) (base := base) D_divide O_is_rule O_is_integer O_goes_up
  have O_sign_of := ok_sign_of (P := l.prog) (w := w) (base := base) D_sign_of 
  have O_weighed := ok_weighed (P := l.prog) (w := w) (base := base) (aR := 0) D_weighed T
  have O_result_of := ok_result_of (P := l.prog) (w := w) (base := base) D_result_of C pResult O_weighed
  have O_path_of := ok_path_of (P := l.prog) (w := w) (base := base) (aR := 0) D_path_of T C pBase pEnds mRule mIx O_divide O_sign_of
  have O_first_mode := ok_first_mode (P := l.prog) (w := w) (base := base) D_first_mode C mModes
  have O_first_values := ok_first_values (P := l.prog) (w := w) (base := base) (aR := 0) D_first_values T C mRegs
  have O_walk := ok_walk (P := l.prog) (w := w) (base := base) (aR := 0) D_walk T O_path_of O_first_mode O_first_values O_weighed
  have O_result_at := ok_result_at (P := l.prog) (w := w) (base := base) D_result_at O_walk O_result_of
  have O_is_word := ok_is_word (P := l.prog) (w := w) (base := base) (aR := 0) D_is_word T O_is_between
  have O_is_figures := ok_is_figures (P := l.prog) (w := w) (base := base) (aR := 0) D_is_figures T O_is_word
  have O_number_of := ok_number_of (aR := 0) D_number_of T O_is_sign O_is_between O_is_figures X_InvalidSign X_InvalidBase X_InvalidFigures
  have O_check_meant := ok_check_meant (aR := 0) D_check_meant T C kitCP O_is_sign X_InvalidProgram X_InvalidSign
  have O_value_at := ok_value_at D_value_at O_result_at
  have O_word_value := ok_word_value (aR := 0) D_word_value T C pSize O_check_meant O_is_word O_value_at O_number_of X_InvalidFigures
  have O__law_pool := ok__law_pool (P := l.prog) (w := w) (base := base) (aR := 0) D__law_pool T
  have O__law_draw := ok__law_draw (P := l.prog) (w := w) (base := base) (aR := 0) D__law_draw T
  have O__law_choose := ok__law_choose (aR := 0) D__law_choose T O__law_draw
  have O__law_update := ok__law_update (aR := 0) D__law_update T O__law_draw
  have O__law_rows := ok__law_rows (aR := 0) D__law_rows T O__law_draw O__law_choose O__law_update
  have O__law_built := ok__law_built (P := l.prog) (w := w) (base := base) (aR := 0) D__law_built T
  have O__law_parts := ok__law_parts (aR := 0) D__law_parts T O__law_draw O__law_choose O__law_rows O__law_built
  have O__law_made := ok__law_made D__law_made C mk
  have O__law_split := ok__law_split (P := l.prog) (w := w) (base := base) (aR := 0) D__law_split T
  have O__law_line := ok__law_line (P := l.prog) (w := w) (base := base) D__law_line
  have O__law_dot := ok__law_dot (P := l.prog) (w := w) (base := base) (aR := 0) D__law_dot T
  have O__law_play := ok__law_play (aR := 0) D__law_play T O__law_split O__law_line O__law_dot
  have O__law_value := ok__law_value (aR := 0) D__law_value T O__law_play O__law_dot
  have O__law_words := ok__law_words (P := l.prog) (w := w) (base := base) (aR := 0) D__law_words T
  have RF : ETw K mg "InvalidFigures" C_InvalidFigures := ⟨m_InvalidFigures, eF, LI_InvalidFigures.look.xf, LI_InvalidFigures.no _ (by simp)⟩
  have RS : ETw K mg "InvalidSign" C_InvalidSign := ⟨m_InvalidSign, eS, LI_InvalidSign.look.xf, LI_InvalidSign.no _ (by simp)⟩
  have O__law_refused := ok__law_refused D__law_refused RF O_word_value
  have O__law_no_side := ok__law_no_side D__law_no_side RS O_word_value
  exact FnG.of (ok_law (aR := 0) (fun_mk (st := s_law) lL cL kL) T ⟨O__law_pool, O__law_draw, O__law_parts, O__law_made, O__law_words, O_word_value, O__law_value, O__law_refused, O__law_no_side⟩)
theorem walk {l : PySem.W.OpenLaw} {q : Program} {loose : List Str} {XP : (Str → Option Value) → Heap → Prop} {YP : World → Heap → Prop} {d : DefRec} {K : Params → PySem.W.Frag} (hn : l.most = some 63) (hdf : d.params.defaults = [])
    (hY : ∀ (w : World) (h : Heap), YP w h → (K w.params).In h)
    (F : ∀ (w : World) (mg : Str → Option Value) (fa : Addr) (h : Heap), YP w h → (K w.params).In h → h.Ns mainGlobals mg → mg d.name = some (.ref fa) → ∃ (fd : FuncData) (c Pt : Addr), (∀ (s : Shared) (u : Value), BindsTo s fd ⟨[u], []⟩ [("_law_script", u)]) ∧
      h.get? Pt = some noTab ∧ (K w.params).lookup Pt = none ∧ PySem.W.CodeHd h c Pt ∧
      (∀ base : Heap, (K w.params).In base → base.Ns mainGlobals mg → LamX.TabB base mg c Pt → FnG l.prog w (K w.params) mg base CX0 12 fa fd ["_law_script"] (spLaw (K w.params) Pt))) :
    PySem.W.WalkO q loose XP YP l.row.toRowW d [] (fun f vs => PySem.call f vs) :=
  walk_ofGT (n := 63) (k := 12) (x := "_law_script") (CX := fun _ => CX0) (sp := fun w Pt => spLaw (K w.params) Pt) hn (by decide) hdf ⟨rfl, by decide, by decide⟩ hY F (fun _ _ H a ns hl t hS => ⟨a, ns, rfl, hS, hl, t, fun _ => rfl⟩) fun _ _ _ _ _ z => z
section
open PySem.W PySem.Calls PyProof.Rows
/-- the goal behind such a head -/
theorem walk_ofY {l : PySem.W.OpenLaw} {n k : Nat} {q : Program} {loose : List Str} {XP : (Str → Option Value) → Heap → Prop} {YP : World → Heap → Prop} {d : DefRec} {CX : World → CXT} {sp : PySem.W.Frag → Addr → Sp} {x : Str}
    (hn : l.most = some n) (few : n ≤ sizeLine) (hdf : d.params.defaults = []) (room : Room k callerA)
    (F : ∀ (w : World) (mg : Str → Option Value) (fa : Addr) (h : Heap), YP w h → h.Ns mainGlobals mg → mg d.name = some (.ref fa) → ∃ K : PySem.W.Frag, K.In h ∧ ∃ (fd : FuncData) (c Pt : Addr), (∀ (s : Shared) (u : Value), BindsTo s fd ⟨[u], []⟩ [(x, u)]) ∧
      h.get? Pt = some noTab ∧ K.lookup Pt = none ∧ PySem.W.CodeHd h c Pt ∧
      (∀ base : Heap, K.In base → base.Ns mainGlobals mg → LamX.TabB base mg c Pt → FnG l.prog w K mg base (CX w) k fa fd [x] (sp K Pt)))
    (want : ∀ (K : PySem.W.Frag) (Pt : Addr) (H : Hp) (a : Addr) (ns : List Int), ns.length ≤ n → H Pt = some (.tbl #[]) → SqL K H a (ns.map V.int) → sp K Pt [.ref a] H (fun v _ => v = .bl true) fun _ _ _ => False)
    (noX : ∀ (w : World) (H : Hp) (s : Shared) (e : Value) (s' : Shared), CX w [] H s (fun _ _ _ => False) e s' → False) : PySem.W.WalkO q loose XP YP l.row.toRowW d [] (fun f vs => PySem.call f vs) :=
  Att.attach_call hn hdf fun w s₀ s₁ mg mb fa o pm cd doc a vs ns G Y ho hd hcd hmg hobj hints hlen hg => by
    obtain ⟨K, KX, fd, c, Pt, hb, t1, t2, t3, hF⟩ := F w mg fa _ Y G.T.g hmg
    exact law_callGT KX G.T.g G.T.b G.T.builtins G.T.nolimit hg hobj hints (Nat.le_trans hlen few) t1 t2 t3 G.T.bmain room hF hb (fun H z1 z2 => want K Pt H a ns hlen z1 z2) fun H e s' => noX w H s₁ e s'
end
section
set_option maxHeartbeats 0 in
theorem top2 {l : PySem.W.OpenLaw} {w : World} {K : PySem.W.Frag} {h : Heap} {mg : Str → Option Value} {fa : Addr} (X : K.In h) (G : h.Ns mainGlobals mg) (hfa : mg "law" = some (.ref fa)) (c : SaysY defsY testsY vfY h K) :
    ∃ (fd : FuncData) (c Pt : Addr), (∀ (s : Shared) (v : Value), BindsTo s fd ⟨[v], []⟩ [("_law_script", v)]) ∧ h.get? Pt = some noTab ∧ K.lookup Pt = none ∧ PySem.W.CodeHd h c Pt ∧
      (∀ base : Heap, K.In base → base.Ns mainGlobals mg → LamX.TabB base mg c Pt → FnG l.prog w K mg base CX0 12 fa fd ["_law_script"] (spLaw K Pt)) := by
  obtain ⟨ocV, kVV, docV, pmV, cdvV, ctV, odV, anV, oslV, lkV, cdV, kpV⟩ := c.d 72 (d := dY72)
  obtain ⟨cc, rfl⟩ := He.codeIn_ref cdV
  have eC : codeY K (vfY K) = cc := codeY_eq lkV rfl
  have hd := c.hd
  have out := c.out
  have emp := c.empty
  rw [eC] at hd out emp
  obtain ⟨ocL, kVL, docL, pmL, cdvL, ctL, odL, anL, oslL, lkL, cdL, kpL⟩ := c.d 73 (d := dY73)
  obtain ⟨otR, itR, nR, lT, cT, dT, sT, vT⟩ := tupY_ok (K := K) (a := (He.ga K "RULES")) (vs := five.map V.str) (c.t 173 (t := tY173))
  obtain ⟨tkL, gL⟩ := intB_ok (K := K) (x := "LARGEST") (i := 1000000) (c.t 174 (t := tY174))
  obtain ⟨tkS, gS⟩ := strB_ok (K := K) (x := "LETTERS") (z := abc) (c.t 175 (t := tY175))
  refine' all_mk (aR := (He.ga K "RULES")) (fV := (He.ga K "_law_value")) (fL := (He.ga K "law")) (CP := (He.ga K "Program")) (C_InvalidBase := (He.ga K "InvalidBase")) (C_InvalidRegisters := (He.ga K "InvalidRegisters")) (C_InvalidModes := (He.ga K "InvalidModes")) (C_InvalidRow := (He.ga K "InvalidRow")) (C_InvalidEnds := (He.ga K "InvalidEnds")) (C_InvalidResult := (He.ga K "InvalidResult")) (C_InvalidSign := (He.ga K "InvalidSign")) (C_InvalidNumber := (He.ga K "InvalidNumber")) (C_UnknownName := (He.ga K "UnknownName")) (C_InvalidFigures := (He.ga K "InvalidFigures")) (C_InvalidProgram := (He.ga K "InvalidProgram")) (c := cc) (Pt := He.tabOf K cc) X G hfa emp ?XD_is_integer ?XD_is_between ?XD_is_rule ?XD_is_sign ?XD_is_base ?XD_is_remainder ?XD_is_name ?XD_is_listing ?XD_is_factors ?XD_is_register ?XD_is_mode ?XD_is_row ?XD_first_wrong ?XD_check_registers ?XD_check_modes ?XD_check_rows ?XD_check_ends ?XD_check_program ?XD_goes_up ?XD_divide ?XD_table_of ?XD_sign_of ?XD_weighed ?XD_result_of ?XD_path_of ?XD_first_mode ?XD_first_values ?XD_walk ?XD_result_at ?XD_is_word ?XD_is_figures ?XD_number_of ?XD_check_meant ?XD_value_at ?XD_word_value ?XD__law_pool ?XD__law_draw ?XD__law_choose ?XD__law_update ?XD__law_rows ?XD__law_built ?XD__law_parts ?XD__law_made ?XD__law_split ?XD__law_line ?XD__law_play ?XD__law_dot ?XD__law_value ?XD__law_words ?XD__law_refused ?XD__law_no_side ?XN_InvalidBase ?XN_InvalidRegisters ?XN_InvalidModes ?XN_InvalidRow ?XN_InvalidEnds ?XN_InvalidResult ?XN_InvalidSign ?XN_InvalidNumber ?XN_UnknownName ?XN_InvalidFigures ?XN_InvalidProgram ?XaCP ?XclCP ?Xpin ?XiP ?Xp_base ?Xp_size ?Xp_ends ?Xp_result ?Xm_registers ?Xm_modes ?Xm_rule_of ?Xm__mode ?Xm_getitem ?XkitCP ?XaV ?XlV ?XcV ?XkV ?XaL ?XlL ?XcL ?XkL ?XeF ?XeS ?XaT ?XlT ?XcT ?XdT ?XsT ?XvT ?XgL ?XgS ?Xch ?Xtk ?Xz0 ?Xz1 ?Xz2 ?Xz3 ?Xz4 ?Xz5 ?Xz6 ?Xz7 ?Xz8 ?Xz9 ?Xz10 ?Xz11 ?Xz12 ?Xz13 ?Xz14 ?Xz15 ?Xz16 ?Xz17
  case XD_is_integer => obtain ⟨oc, kV, doc, pm, cdv, ct, od, an, osl, lk, cd, kp⟩ := c.d 0 (d := dY0); exact has_mk X G (fun _ _ _ _ _ _ us hl => by (obtain ⟨x0, rfl⟩ := ba1 hl; rfl)) (of_decide_eq_true (p := PySem.W.nsIn K mainGlobals "is_integer" = some (some (.ref (He.ga K "is_integer")))) (c.t 0 (t := tY0))) lk cd kp
  case XD_is_between => obtain ⟨oc, kV, doc, pm, cdv, ct, od, an, osl, lk, cd, kp⟩ := c.d 1 (d := dY1); exact has_mk X G (fun _ _ _ _ _ _ us hl => by (obtain ⟨x0, x1, x2, rfl⟩ := ba3 hl; rfl)) (of_decide_eq_true (p := PySem.W.nsIn K mainGlobals "is_between" = some (some (.ref (He.ga K "is_between")))) (c.t 1 (t := tY1))) lk cd kp
  case XD_is_rule => obtain ⟨oc, kV, doc, pm, cdv, ct, od, an, osl, lk, cd, kp⟩ := c.d 2 (d := dY2); exact has_mk X G (fun _ _ _ _ _ _ us hl => by (obtain ⟨x0, rfl⟩ := ba1 hl; rfl)) (of_decide_eq_true (p := PySem.W.nsIn K mainGlobals "is_rule" = some (some (.ref (He.ga K "is_rule")))) (c.t 2 (t := tY2))) lk cd kp
  case XD_is_sign => obtain ⟨oc, kV, doc, pm, cdv, ct, od, an, osl, lk, cd, kp⟩ := c.d 3 (d := dY3); exact has_mk X G (fun _ _ _ _ _ _ us hl => by (obtain ⟨x0, rfl⟩ := ba1 hl; rfl)) (of_decide_eq_true (p := PySem.W.nsIn K mainGlobals "is_sign" = some (some (.ref (He.ga K "is_sign")))) (c.t 3 (t := tY3))) lk cd kp
  case XD_is_base => obtain ⟨oc, kV, doc, pm, cdv, ct, od, an, osl, lk, cd, kp⟩ := c.d 4 (d := dY4); exact has_mk X G (fun _ _ _ _ _ _ us hl => by (obtain ⟨x0, rfl⟩ := ba1 hl; rfl)) (of_decide_eq_true (p := PySem.W.nsIn K mainGlobals "is_base" = some (some (.ref (He.ga K "is_base")))) (c.t 4 (t := tY4))) lk cd kp
  case XD_is_remainder => obtain ⟨oc, kV, doc, pm, cdv, ct, od, an, osl, lk, cd, kp⟩ := c.d 5 (d := dY5); exact has_mk X G (fun _ _ _ _ _ _ us hl => by (obtain ⟨x0, x1, rfl⟩ := ba2 hl; rfl)) (of_decide_eq_true (p := PySem.W.nsIn K mainGlobals "is_remainder" = some (some (.ref (He.ga K "is_remainder")))) (c.t 5 (t := tY5))) lk cd kp
  case XD_is_name => obtain ⟨oc, kV, doc, pm, cdv, ct, od, an, osl, lk, cd, kp⟩ := c.d 6 (d := dY6); exact has_mk X G (fun _ _ _ _ _ _ us hl => by (obtain ⟨x0, rfl⟩ := ba1 hl; rfl)) (of_decide_eq_true (p := PySem.W.nsIn K mainGlobals "is_name" = some (some (.ref (He.ga K "is_name")))) (c.t 6 (t := tY6))) lk cd kp
  case XD_is_listing => obtain ⟨oc, kV, doc, pm, cdv, ct, od, an, osl, lk, cd, kp⟩ := c.d 7 (d := dY7); exact has_mk X G (fun _ _ _ _ _ _ us hl => by (obtain ⟨x0, x1, x2, rfl⟩ := ba3 hl; rfl)) (of_decide_eq_true (p := PySem.W.nsIn K mainGlobals "is_listing" = some (some (.ref (He.ga K "is_listing")))) (c.t 7 (t := tY7))) lk cd kp
  case XD_is_factors => obtain ⟨oc, kV, doc, pm, cdv, ct, od, an, osl, lk, cd, kp⟩ := c.d 8 (d := dY8); exact has_mk X G (fun _ _ _ _ _ _ us hl => by (obtain ⟨x0, x1, rfl⟩ := ba2 hl; rfl)) (of_decide_eq_true (p := PySem.W.nsIn K mainGlobals "is_factors" = some (some (.ref (He.ga K "is_factors")))) (c.t 8 (t := tY8))) lk cd kp
  case XD_is_register => obtain ⟨oc, kV, doc, pm, cdv, ct, od, an, osl, lk, cd, kp⟩ := c.d 9 (d := dY9); exact has_mk X G (fun _ _ _ _ _ _ us hl => by (obtain ⟨x0, rfl⟩ := ba1 hl; rfl)) (of_decide_eq_true (p := PySem.W.nsIn K mainGlobals "is_register" = some (some (.ref (He.ga K "is_register")))) (c.t 9 (t := tY9))) lk cd kp
  case XD_is_mode => obtain ⟨oc, kV, doc, pm, cdv, ct, od, an, osl, lk, cd, kp⟩ := c.d 10 (d := dY10); exact has_mk X G (fun _ _ _ _ _ _ us hl => by (obtain ⟨x0, rfl⟩ := ba1 hl; rfl)) (of_decide_eq_true (p := PySem.W.nsIn K mainGlobals "is_mode" = some (some (.ref (He.ga K "is_mode")))) (c.t 10 (t := tY10))) lk cd kp
  case XD_is_row => obtain ⟨oc, kV, doc, pm, cdv, ct, od, an, osl, lk, cd, kp⟩ := c.d 11 (d := dY11); exact has_mk X G (fun _ _ _ _ _ _ us hl => by (obtain ⟨x0, x1, x2, x3, rfl⟩ := ba4 hl; rfl)) (of_decide_eq_true (p := PySem.W.nsIn K mainGlobals "is_row" = some (some (.ref (He.ga K "is_row")))) (c.t 11 (t := tY11))) lk cd kp
  case XD_first_wrong => obtain ⟨oc, kV, doc, pm, cdv, ct, od, an, osl, lk, cd, kp⟩ := c.d 12 (d := dY12); exact has_mk X G (fun _ _ _ _ _ _ us hl => by (obtain ⟨x0, x1, rfl⟩ := ba2 hl; rfl)) (of_decide_eq_true (p := PySem.W.nsIn K mainGlobals "first_wrong" = some (some (.ref (He.ga K "first_wrong")))) (c.t 12 (t := tY12))) lk cd kp
  case XD_check_registers => obtain ⟨oc, kV, doc, pm, cdv, ct, od, an, osl, lk, cd, kp⟩ := c.d 13 (d := dY13); exact has_mk X G (fun _ _ _ _ _ _ us hl => by (obtain ⟨x0, rfl⟩ := ba1 hl; rfl)) (of_decide_eq_true (p := PySem.W.nsIn K mainGlobals "check_registers" = some (some (.ref (He.ga K "check_registers")))) (c.t 13 (t := tY13))) lk cd kp
  case XD_check_modes => obtain ⟨oc, kV, doc, pm, cdv, ct, od, an, osl, lk, cd, kp⟩ := c.d 14 (d := dY14); exact has_mk X G (fun _ _ _ _ _ _ us hl => by (obtain ⟨x0, rfl⟩ := ba1 hl; rfl)) (of_decide_eq_true (p := PySem.W.nsIn K mainGlobals "check_modes" = some (some (.ref (He.ga K "check_modes")))) (c.t 14 (t := tY14))) lk cd kp
  case XD_check_rows => obtain ⟨oc, kV, doc, pm, cdv, ct, od, an, osl, lk, cd, kp⟩ := c.d 15 (d := dY15); exact has_mk X G (fun _ _ _ _ _ _ us hl => by (obtain ⟨x0, x1, x2, x3, x4, rfl⟩ := ba5 hl; rfl)) (of_decide_eq_true (p := PySem.W.nsIn K mainGlobals "check_rows" = some (some (.ref (He.ga K "check_rows")))) (c.t 15 (t := tY15))) lk cd kp
  case XD_check_ends => obtain ⟨oc, kV, doc, pm, cdv, ct, od, an, osl, lk, cd, kp⟩ := c.d 16 (d := dY16); exact has_mk X G (fun _ _ _ _ _ _ us hl => by (obtain ⟨x0, x1, rfl⟩ := ba2 hl; rfl)) (of_decide_eq_true (p := PySem.W.nsIn K mainGlobals "check_ends" = some (some (.ref (He.ga K "check_ends")))) (c.t 16 (t := tY16))) lk cd kp
  case XD_check_program => obtain ⟨oc, kV, doc, pm, cdv, ct, od, an, osl, lk, cd, kp⟩ := c.d 17 (d := dY17); exact has_mk X G (fun _ _ _ _ _ _ us hl => by (obtain ⟨x0, x1, x2, x3, x4, rfl⟩ := ba5 hl; rfl)) (of_decide_eq_true (p := PySem.W.nsIn K mainGlobals "check_program" = some (some (.ref (He.ga K "check_program")))) (c.t 17 (t := tY17))) lk cd kp
  case XD_goes_up => obtain ⟨oc, kV, doc, pm, cdv, ct, od, an, osl, lk, cd, kp⟩ := c.d 18 (d := dY18); exact has_mk X G (fun _ _ _ _ _ _ us hl => by (obtain ⟨x0, x1, x2, rfl⟩ := ba3 hl; rfl)) (of_decide_eq_true (p := PySem.W.nsIn K mainGlobals "goes_up" = some (some (.ref (He.ga K "goes_up")))) (c.t 18 (t := tY18))) lk cd kp
  case XD_divide => obtain ⟨oc, kV, doc, pm, cdv, ct, od, an, osl, lk, cd, kp⟩ := c.d 19 (d := dY19); exact has_mk X G (fun _ _ _ _ _ _ us hl => by (obtain ⟨x0, x1, x2, rfl⟩ := ba3 hl; rfl)) (of_decide_eq_true (p := PySem.W.nsIn K mainGlobals "divide" = some (some (.ref (He.ga K "divide")))) (c.t 19 (t := tY19))) lk cd kp
  case XD_table_of => obtain ⟨oc, kV, doc, pm, cdv, ct, od, an, osl, lk, cd, kp⟩ := c.d 20 (d := dY20); exact has_mk X G (fun _ _ _ _ _ _ us hl => by (obtain ⟨x0, rfl⟩ := ba1 hl; rfl)) (of_decide_eq_true (p := PySem.W.nsIn K mainGlobals "table_of" = some (some (.ref (He.ga K "table_of")))) (c.t 20 (t := tY20))) lk cd kp
  case XD_sign_of => obtain ⟨oc, kV, doc, pm, cdv, ct, od, an, osl, lk, cd, kp⟩ := c.d 21 (d := dY21); exact has_mk X G (fun _ _ _ _ _ _ us hl => by (obtain ⟨x0, rfl⟩ := ba1 hl; rfl)) (of_decide_eq_true (p := PySem.W.nsIn K mainGlobals "sign_of" = some (some (.ref (He.ga K "sign_of")))) (c.t 21 (t := tY21))) lk cd kp
  case XD_weighed => obtain ⟨oc, kV, doc, pm, cdv, ct, od, an, osl, lk, cd, kp⟩ := c.d 22 (d := dY22); exact has_mk X G (fun _ _ _ _ _ _ us hl => by (obtain ⟨x0, x1, rfl⟩ := ba2 hl; rfl)) (of_decide_eq_true (p := PySem.W.nsIn K mainGlobals "weighed" = some (some (.ref (He.ga K "weighed")))) (c.t 22 (t := tY22))) lk cd kp
  case XD_result_of => obtain ⟨oc, kV, doc, pm, cdv, ct, od, an, osl, lk, cd, kp⟩ := c.d 23 (d := dY23); exact has_mk X G (fun _ _ _ _ _ _ us hl => by (obtain ⟨x0, x1, rfl⟩ := ba2 hl; rfl)) (of_decide_eq_true (p := PySem.W.nsIn K mainGlobals "result_of" = some (some (.ref (He.ga K "result_of")))) (c.t 23 (t := tY23))) lk cd kp
  case XD_path_of => obtain ⟨oc, kV, doc, pm, cdv, ct, od, an, osl, lk, cd, kp⟩ := c.d 24 (d := dY24); exact has_mk X G (fun _ _ _ _ _ _ us hl => by (obtain ⟨x0, x1, x2, rfl⟩ := ba3 hl; rfl)) (of_decide_eq_true (p := PySem.W.nsIn K mainGlobals "path_of" = some (some (.ref (He.ga K "path_of")))) (c.t 24 (t := tY24))) lk cd kp
  case XD_first_mode => obtain ⟨oc, kV, doc, pm, cdv, ct, od, an, osl, lk, cd, kp⟩ := c.d 25 (d := dY25); exact has_mk X G (fun _ _ _ _ _ _ us hl => by (obtain ⟨x0, rfl⟩ := ba1 hl; rfl)) (of_decide_eq_true (p := PySem.W.nsIn K mainGlobals "first_mode" = some (some (.ref (He.ga K "first_mode")))) (c.t 25 (t := tY25))) lk cd kp
  case XD_first_values => obtain ⟨oc, kV, doc, pm, cdv, ct, od, an, osl, lk, cd, kp⟩ := c.d 26 (d := dY26); exact has_mk X G (fun _ _ _ _ _ _ us hl => by (obtain ⟨x0, rfl⟩ := ba1 hl; rfl)) (of_decide_eq_true (p := PySem.W.nsIn K mainGlobals "first_values" = some (some (.ref (He.ga K "first_values")))) (c.t 26 (t := tY26))) lk cd kp
  case XD_walk => obtain ⟨oc, kV, doc, pm, cdv, ct, od, an, osl, lk, cd, kp⟩ := c.d 27 (d := dY27); exact has_mk X G (fun _ _ _ _ _ _ us hl => by (obtain ⟨x0, x1, rfl⟩ := ba2 hl; rfl)) (of_decide_eq_true (p := PySem.W.nsIn K mainGlobals "walk" = some (some (.ref (He.ga K "walk")))) (c.t 27 (t := tY27))) lk cd kp
  case XD_result_at => obtain ⟨oc, kV, doc, pm, cdv, ct, od, an, osl, lk, cd, kp⟩ := c.d 28 (d := dY28); exact has_mk X G (fun _ _ _ _ _ _ us hl => by (obtain ⟨x0, x1, rfl⟩ := ba2 hl; rfl)) (of_decide_eq_true (p := PySem.W.nsIn K mainGlobals "result_at" = some (some (.ref (He.ga K "result_at")))) (c.t 28 (t := tY28))) lk cd kp
  case XD_is_word => obtain ⟨oc, kV, doc, pm, cdv, ct, od, an, osl, lk, cd, kp⟩ := c.d 29 (d := dY29); exact has_mk X G (fun _ _ _ _ _ _ us hl => by (obtain ⟨x0, x1, rfl⟩ := ba2 hl; rfl)) (of_decide_eq_true (p := PySem.W.nsIn K mainGlobals "is_word" = some (some (.ref (He.ga K "is_word")))) (c.t 29 (t := tY29))) lk cd kp
  case XD_is_figures => obtain ⟨oc, kV, doc, pm, cdv, ct, od, an, osl, lk, cd, kp⟩ := c.d 30 (d := dY30); exact has_mk X G (fun _ _ _ _ _ _ us hl => by (obtain ⟨x0, x1, rfl⟩ := ba2 hl; rfl)) (of_decide_eq_true (p := PySem.W.nsIn K mainGlobals "is_figures" = some (some (.ref (He.ga K "is_figures")))) (c.t 30 (t := tY30))) lk cd kp
  case XD_number_of => obtain ⟨oc, kV, doc, pm, cdv, ct, od, an, osl, lk, cd, kp⟩ := c.d 31 (d := dY31); exact has_mk X G (fun _ _ _ _ _ _ us hl => by (obtain ⟨x0, x1, x2, rfl⟩ := ba3 hl; rfl)) (of_decide_eq_true (p := PySem.W.nsIn K mainGlobals "number_of" = some (some (.ref (He.ga K "number_of")))) (c.t 31 (t := tY31))) lk cd kp
  case XD_check_meant => obtain ⟨oc, kV, doc, pm, cdv, ct, od, an, osl, lk, cd, kp⟩ := c.d 32 (d := dY32); exact has_mk X G (fun _ _ _ _ _ _ us hl => by (obtain ⟨x0, x1, rfl⟩ := ba2 hl; rfl)) (of_decide_eq_true (p := PySem.W.nsIn K mainGlobals "check_meant" = some (some (.ref (He.ga K "check_meant")))) (c.t 32 (t := tY32))) lk cd kp
  case XD_value_at => obtain ⟨oc, kV, doc, pm, cdv, ct, od, an, osl, lk, cd, kp⟩ := c.d 33 (d := dY33); exact has_mk X G (fun _ _ _ _ _ _ us hl => by (obtain ⟨x0, x1, rfl⟩ := ba2 hl; rfl)) (of_decide_eq_true (p := PySem.W.nsIn K mainGlobals "value_at" = some (some (.ref (He.ga K "value_at")))) (c.t 33 (t := tY33))) lk cd kp
  case XD_word_value => obtain ⟨oc, kV, doc, pm, cdv, ct, od, an, osl, lk, cd, kp⟩ := c.d 34 (d := dY34); exact has_mk X G (fun _ _ _ _ _ _ us hl => by (obtain ⟨x0, x1, x2, rfl⟩ := ba3 hl; rfl)) (of_decide_eq_true (p := PySem.W.nsIn K mainGlobals "word_value" = some (some (.ref (He.ga K "word_value")))) (c.t 34 (t := tY34))) lk cd kp
  case XD__law_pool => obtain ⟨oc, kV, doc, pm, cdv, ct, od, an, osl, lk, cd, kp⟩ := c.d 35 (d := dY35); exact has_mk X G (fun _ _ _ _ _ _ us hl => by (obtain ⟨x0, x1, rfl⟩ := ba2 hl; rfl)) (of_decide_eq_true (p := PySem.W.nsIn K mainGlobals "_law_pool" = some (some (.ref (He.ga K "_law_pool")))) (c.t 35 (t := tY35))) lk cd kp
  case XD__law_draw => obtain ⟨oc, kV, doc, pm, cdv, ct, od, an, osl, lk, cd, kp⟩ := c.d 36 (d := dY36); exact has_mk X G (fun _ _ _ _ _ _ us hl => by (obtain ⟨x0, x1, rfl⟩ := ba2 hl; rfl)) (of_decide_eq_true (p := PySem.W.nsIn K mainGlobals "_law_draw" = some (some (.ref (He.ga K "_law_draw")))) (c.t 36 (t := tY36))) lk cd kp
  case XD__law_choose => obtain ⟨oc, kV, doc, pm, cdv, ct, od, an, osl, lk, cd, kp⟩ := c.d 37 (d := dY37); exact has_mk X G (fun _ _ _ _ _ _ us hl => by (obtain ⟨x0, x1, rfl⟩ := ba2 hl; rfl)) (of_decide_eq_true (p := PySem.W.nsIn K mainGlobals "_law_choose" = some (some (.ref (He.ga K "_law_choose")))) (c.t 37 (t := tY37))) lk cd kp
  case XD__law_update => obtain ⟨oc, kV, doc, pm, cdv, ct, od, an, osl, lk, cd, kp⟩ := c.d 38 (d := dY38); exact has_mk X G (fun _ _ _ _ _ _ us hl => by (obtain ⟨x0, x1, x2, x3, rfl⟩ := ba4 hl; rfl)) (of_decide_eq_true (p := PySem.W.nsIn K mainGlobals "_law_update" = some (some (.ref (He.ga K "_law_update")))) (c.t 38 (t := tY38))) lk cd kp
  case XD__law_rows => obtain ⟨oc, kV, doc, pm, cdv, ct, od, an, osl, lk, cd, kp⟩ := c.d 39 (d := dY39); exact has_mk X G (fun _ _ _ _ _ _ us hl => by (obtain ⟨x0, x1, x2, x3, rfl⟩ := ba4 hl; rfl)) (of_decide_eq_true (p := PySem.W.nsIn K mainGlobals "_law_rows" = some (some (.ref (He.ga K "_law_rows")))) (c.t 39 (t := tY39))) lk cd kp
  case XD__law_built => obtain ⟨oc, kV, doc, pm, cdv, ct, od, an, osl, lk, cd, kp⟩ := c.d 40 (d := dY40); exact has_mk X G (fun _ _ _ _ _ _ us hl => by (obtain ⟨x0, x1, rfl⟩ := ba2 hl; rfl)) (of_decide_eq_true (p := PySem.W.nsIn K mainGlobals "_law_built" = some (some (.ref (He.ga K "_law_built")))) (c.t 40 (t := tY40))) lk cd kp
  case XD__law_parts => obtain ⟨oc, kV, doc, pm, cdv, ct, od, an, osl, lk, cd, kp⟩ := c.d 41 (d := dY41); exact has_mk X G (fun _ _ _ _ _ _ us hl => by (obtain ⟨x0, x1, x2, x3, rfl⟩ := ba4 hl; rfl)) (of_decide_eq_true (p := PySem.W.nsIn K mainGlobals "_law_parts" = some (some (.ref (He.ga K "_law_parts")))) (c.t 41 (t := tY41))) lk cd kp
  case XD__law_made => obtain ⟨oc, kV, doc, pm, cdv, ct, od, an, osl, lk, cd, kp⟩ := c.d 42 (d := dY42); exact has_mk X G (fun _ _ _ _ _ _ us hl => by (obtain ⟨x0, rfl⟩ := ba1 hl; rfl)) (of_decide_eq_true (p := PySem.W.nsIn K mainGlobals "_law_made" = some (some (.ref (He.ga K "_law_made")))) (c.t 42 (t := tY42))) lk cd kp
  case XD__law_split => obtain ⟨oc, kV, doc, pm, cdv, ct, od, an, osl, lk, cd, kp⟩ := c.d 43 (d := dY43); exact has_mk X G (fun _ _ _ _ _ _ us hl => by (obtain ⟨x0, x1, x2, rfl⟩ := ba3 hl; rfl)) (of_decide_eq_true (p := PySem.W.nsIn K mainGlobals "_law_split" = some (some (.ref (He.ga K "_law_split")))) (c.t 43 (t := tY43))) lk cd kp
  case XD__law_line => obtain ⟨oc, kV, doc, pm, cdv, ct, od, an, osl, lk, cd, kp⟩ := c.d 44 (d := dY44); exact has_mk X G (fun _ _ _ _ _ _ us hl => by (obtain ⟨x0, x1, x2, rfl⟩ := ba3 hl; rfl)) (of_decide_eq_true (p := PySem.W.nsIn K mainGlobals "_law_line" = some (some (.ref (He.ga K "_law_line")))) (c.t 44 (t := tY44))) lk cd kp
  case XD__law_play => obtain ⟨oc, kV, doc, pm, cdv, ct, od, an, osl, lk, cd, kp⟩ := c.d 45 (d := dY45); exact has_mk X G (fun _ _ _ _ _ _ us hl => by (obtain ⟨x0, x1, rfl⟩ := ba2 hl; rfl)) (of_decide_eq_true (p := PySem.W.nsIn K mainGlobals "_law_play" = some (some (.ref (He.ga K "_law_play")))) (c.t 45 (t := tY45))) lk cd kp
  case XD__law_dot => obtain ⟨oc, kV, doc, pm, cdv, ct, od, an, osl, lk, cd, kp⟩ := c.d 46 (d := dY46); exact has_mk X G (fun _ _ _ _ _ _ us hl => by (obtain ⟨x0, x1, rfl⟩ := ba2 hl; rfl)) (of_decide_eq_true (p := PySem.W.nsIn K mainGlobals "_law_dot" = some (some (.ref (He.ga K "_law_dot")))) (c.t 46 (t := tY46))) lk cd kp
  case XD__law_value => obtain ⟨oc, kV, doc, pm, cdv, ct, od, an, osl, lk, cd, kp⟩ := c.d 47 (d := dY47); exact has_mk X G (fun _ _ _ _ _ _ us hl => by (obtain ⟨x0, x1, x2, rfl⟩ := ba3 hl; rfl)) (of_decide_eq_true (p := PySem.W.nsIn K mainGlobals "_law_value" = some (some (.ref (He.ga K "_law_value")))) (c.t 47 (t := tY47))) lk cd kp
  case XD__law_words => obtain ⟨oc, kV, doc, pm, cdv, ct, od, an, osl, lk, cd, kp⟩ := c.d 48 (d := dY48); exact has_mk X G (fun _ _ _ _ _ _ us hl => by (obtain ⟨x0, x1, rfl⟩ := ba2 hl; rfl)) (of_decide_eq_true (p := PySem.W.nsIn K mainGlobals "_law_words" = some (some (.ref (He.ga K "_law_words")))) (c.t 48 (t := tY48))) lk cd kp
  case XD__law_refused => obtain ⟨oc, kV, doc, pm, cdv, ct, od, an, osl, lk, cd, kp⟩ := c.d 49 (d := dY49); exact has_mk X G (fun _ _ _ _ _ _ us hl => by (obtain ⟨x0, x1, x2, rfl⟩ := ba3 hl; rfl)) (of_decide_eq_true (p := PySem.W.nsIn K mainGlobals "_law_refused" = some (some (.ref (He.ga K "_law_refused")))) (c.t 49 (t := tY49))) lk cd kp
  case XD__law_no_side => obtain ⟨oc, kV, doc, pm, cdv, ct, od, an, osl, lk, cd, kp⟩ := c.d 50 (d := dY50); exact has_mk X G (fun _ _ _ _ _ _ us hl => by (obtain ⟨x0, x1, x2, rfl⟩ := ba3 hl; rfl)) (of_decide_eq_true (p := PySem.W.nsIn K mainGlobals "_law_no_side" = some (some (.ref (He.ga K "_law_no_side")))) (c.t 50 (t := tY50))) lk cd kp
  case XN_InvalidBase => obtain ⟨oc, kV, doc, pm, cdv, ct, od, an, osl, lk, cd, kp⟩ := c.d 51 (d := dY51); exact cin_mk (of_decide_eq_true (p := PySem.W.nsIn K mainGlobals "InvalidBase" = some (some (.ref (He.ga K "InvalidBase")))) (c.t 53 (t := tY53))) (of_decide_eq_true (p := PySem.W.findIn K (.ref (He.ga K "InvalidBase")) "__init__" = some (some (.ref (He.ma K (He.ga K "InvalidBase") "__init__")))) (c.t 54 (t := tY54))) lk cd kp (of_decide_eq_true (p := PySem.W.specialIn K (.builtin "object.__class__") "__get__" = some (some (.builtin "getset_descriptor.__get__"))) (c.t 51 (t := tY51))) (of_decide_eq_true (p := PySem.W.takesIn K (.builtin "object.__class__") = some true) (c.t 52 (t := tY52))) (of_decide_eq_true (p := (PySem.W.excInitIn K (He.ga K "InvalidBase") [.type "ValueError", .type "Exception", .type "BaseException", .type "object"] "ValueError.__new__", PySem.W.excOver K (He.ga K "InvalidBase") [.type "ValueError", .type "Exception", .type "BaseException", .type "object"], PySem.W.hasDictIn K (He.ga K "InvalidBase"), PySem.W.isFn K (.ref (He.ma K (He.ga K "InvalidBase") "__init__")), PySem.W.keepIn K (.ref (He.ga K "InvalidBase"))) = (true, true, true, true, true)) (c.t 55 (t := tY55))) (of_decide_eq_true (p := (PySem.W.findIn K (.ref (He.ga K "InvalidBase")) "__setattr__", PySem.W.findIn K (.ref (He.ga K "InvalidBase")) "__getattribute__", PySem.W.findIn K (.ref (He.ga K "InvalidBase")) "__getattr__", PySem.W.findIn K (.ref (He.ga K "InvalidBase")) "__class__") = (some (some (.builtin "object.__setattr__")), some (some (.builtin "BaseException.__getattribute__")), some none, some (some (.builtin "object.__class__")))) (c.t 56 (t := tY56))) (of_decide_eq_true (p := (PySem.W.subIn K (.ref (He.ga K "InvalidBase")) (.type "BaseException"), PySem.W.mroIn K (He.ga K "InvalidBase") (.type "object"), (PySem.W.clsIn K (He.ga K "InvalidBase")).map (·.mro), PySem.W.typeIn K (.ref (He.ga K "InvalidBase"))) = (some true, some true, some (.ref (He.ga K "InvalidBase") :: [.type "ValueError", .type "Exception", .type "BaseException", .type "object"]), some (.type "type"))) (c.t 57 (t := tY57))) (of_decide_eq_true (p := (["value"] : List Str).map (fun f => PySem.W.findIn K (.ref (He.ga K "InvalidBase")) f) = (["value"] : List Str).map fun _ => some none) (c.t 58 (t := tY58)))
  case XN_InvalidRegisters => obtain ⟨oc, kV, doc, pm, cdv, ct, od, an, osl, lk, cd, kp⟩ := c.d 52 (d := dY52); exact cin_mk (of_decide_eq_true (p := PySem.W.nsIn K mainGlobals "InvalidRegisters" = some (some (.ref (He.ga K "InvalidRegisters")))) (c.t 59 (t := tY59))) (of_decide_eq_true (p := PySem.W.findIn K (.ref (He.ga K "InvalidRegisters")) "__init__" = some (some (.ref (He.ma K (He.ga K "InvalidRegisters") "__init__")))) (c.t 60 (t := tY60))) lk cd kp (of_decide_eq_true (p := PySem.W.specialIn K (.builtin "object.__class__") "__get__" = some (some (.builtin "getset_descriptor.__get__"))) (c.t 51 (t := tY51))) (of_decide_eq_true (p := PySem.W.takesIn K (.builtin "object.__class__") = some true) (c.t 52 (t := tY52))) (of_decide_eq_true (p := (PySem.W.excInitIn K (He.ga K "InvalidRegisters") [.type "ValueError", .type "Exception", .type "BaseException", .type "object"] "ValueError.__new__", PySem.W.excOver K (He.ga K "InvalidRegisters") [.type "ValueError", .type "Exception", .type "BaseException", .type "object"], PySem.W.hasDictIn K (He.ga K "InvalidRegisters"), PySem.W.isFn K (.ref (He.ma K (He.ga K "InvalidRegisters") "__init__")), PySem.W.keepIn K (.ref (He.ga K "InvalidRegisters"))) = (true, true, true, true, true)) (c.t 61 (t := tY61))) (of_decide_eq_true (p := (PySem.W.findIn K (.ref (He.ga K "InvalidRegisters")) "__setattr__", PySem.W.findIn K (.ref (He.ga K "InvalidRegisters")) "__getattribute__", PySem.W.findIn K (.ref (He.ga K "InvalidRegisters")) "__getattr__", PySem.W.findIn K (.ref (He.ga K "InvalidRegisters")) "__class__") = (some (some (.builtin "object.__setattr__")), some (some (.builtin "BaseException.__getattribute__")), some none, some (some (.builtin "object.__class__")))) (c.t 62 (t := tY62))) (of_decide_eq_true (p := (PySem.W.subIn K (.ref (He.ga K "InvalidRegisters")) (.type "BaseException"), PySem.W.mroIn K (He.ga K "InvalidRegisters") (.type "object"), (PySem.W.clsIn K (He.ga K "InvalidRegisters")).map (·.mro), PySem.W.typeIn K (.ref (He.ga K "InvalidRegisters"))) = (some true, some true, some (.ref (He.ga K "InvalidRegisters") :: [.type "ValueError", .type "Exception", .type "BaseException", .type "object"]), some (.type "type"))) (c.t 63 (t := tY63))) (of_decide_eq_true (p := (["number"] : List Str).map (fun f => PySem.W.findIn K (.ref (He.ga K "InvalidRegisters")) f) = (["number"] : List Str).map fun _ => some none) (c.t 64 (t := tY64)))
  case XN_InvalidModes => obtain ⟨oc, kV, doc, pm, cdv, ct, od, an, osl, lk, cd, kp⟩ := c.d 53 (d := dY53); exact cin_mk (of_decide_eq_true (p := PySem.W.nsIn K mainGlobals "InvalidModes" = some (some (.ref (He.ga K "InvalidModes")))) (c.t 65 (t := tY65))) (of_decide_eq_true (p := PySem.W.findIn K (.ref (He.ga K "InvalidModes")) "__init__" = some (some (.ref (He.ma K (He.ga K "InvalidModes") "__init__")))) (c.t 66 (t := tY66))) lk cd kp (of_decide_eq_true (p := PySem.W.specialIn K (.builtin "object.__class__") "__get__" = some (some (.builtin "getset_descriptor.__get__"))) (c.t 51 (t := tY51))) (of_decide_eq_true (p := PySem.W.takesIn K (.builtin "object.__class__") = some true) (c.t 52 (t := tY52))) (of_decide_eq_true (p := (PySem.W.excInitIn K (He.ga K "InvalidModes") [.type "ValueError", .type "Exception", .type "BaseException", .type "object"] "ValueError.__new__", PySem.W.excOver K (He.ga K "InvalidModes") [.type "ValueError", .type "Exception", .type "BaseException", .type "object"], PySem.W.hasDictIn K (He.ga K "InvalidModes"), PySem.W.isFn K (.ref (He.ma K (He.ga K "InvalidModes") "__init__")), PySem.W.keepIn K (.ref (He.ga K "InvalidModes"))) = (true, true, true, true, true)) (c.t 67 (t := tY67))) (of_decide_eq_true (p := (PySem.W.findIn K (.ref (He.ga K "InvalidModes")) "__setattr__", PySem.W.findIn K (.ref (He.ga K "InvalidModes")) "__getattribute__", PySem.W.findIn K (.ref (He.ga K "InvalidModes")) "__getattr__", PySem.W.findIn K (.ref (He.ga K "InvalidModes")) "__class__") = (some (some (.builtin "object.__setattr__")), some (some (.builtin "BaseException.__getattribute__")), some none, some (some (.builtin "object.__class__")))) (c.t 68 (t := tY68))) (of_decide_eq_true (p := (PySem.W.subIn K (.ref (He.ga K "InvalidModes")) (.type "BaseException"), PySem.W.mroIn K (He.ga K "InvalidModes") (.type "object"), (PySem.W.clsIn K (He.ga K "InvalidModes")).map (·.mro), PySem.W.typeIn K (.ref (He.ga K "InvalidModes"))) = (some true, some true, some (.ref (He.ga K "InvalidModes") :: [.type "ValueError", .type "Exception", .type "BaseException", .type "object"]), some (.type "type"))) (c.t 69 (t := tY69))) (of_decide_eq_true (p := (["number"] : List Str).map (fun f => PySem.W.findIn K (.ref (He.ga K "InvalidModes")) f) = (["number"] : List Str).map fun _ => some none) (c.t 70 (t := tY70)))
  case XN_InvalidRow => obtain ⟨oc, kV, doc, pm, cdv, ct, od, an, osl, lk, cd, kp⟩ := c.d 54 (d := dY54); exact cin_mk (of_decide_eq_true (p := PySem.W.nsIn K mainGlobals "InvalidRow" = some (some (.ref (He.ga K "InvalidRow")))) (c.t 71 (t := tY71))) (of_decide_eq_true (p := PySem.W.findIn K (.ref (He.ga K "InvalidRow")) "__init__" = some (some (.ref (He.ma K (He.ga K "InvalidRow") "__init__")))) (c.t 72 (t := tY72))) lk cd kp (of_decide_eq_true (p := PySem.W.specialIn K (.builtin "object.__class__") "__get__" = some (some (.builtin "getset_descriptor.__get__"))) (c.t 51 (t := tY51))) (of_decide_eq_true (p := PySem.W.takesIn K (.builtin "object.__class__") = some true) (c.t 52 (t := tY52))) (of_decide_eq_true (p := (PySem.W.excInitIn K (He.ga K "InvalidRow") [.type "ValueError", .type "Exception", .type "BaseException", .type "object"] "ValueError.__new__", PySem.W.excOver K (He.ga K "InvalidRow") [.type "ValueError", .type "Exception", .type "BaseException", .type "object"], PySem.W.hasDictIn K (He.ga K "InvalidRow"), PySem.W.isFn K (.ref (He.ma K (He.ga K "InvalidRow") "__init__")), PySem.W.keepIn K (.ref (He.ga K "InvalidRow"))) = (true, true, true, true, true)) (c.t 73 (t := tY73))) (of_decide_eq_true (p := (PySem.W.findIn K (.ref (He.ga K "InvalidRow")) "__setattr__", PySem.W.findIn K (.ref (He.ga K "InvalidRow")) "__getattribute__", PySem.W.findIn K (.ref (He.ga K "InvalidRow")) "__getattr__", PySem.W.findIn K (.ref (He.ga K "InvalidRow")) "__class__") = (some (some (.builtin "object.__setattr__")), some (some (.builtin "BaseException.__getattribute__")), some none, some (some (.builtin "object.__class__")))) (c.t 74 (t := tY74))) (of_decide_eq_true (p := (PySem.W.subIn K (.ref (He.ga K "InvalidRow")) (.type "BaseException"), PySem.W.mroIn K (He.ga K "InvalidRow") (.type "object"), (PySem.W.clsIn K (He.ga K "InvalidRow")).map (·.mro), PySem.W.typeIn K (.ref (He.ga K "InvalidRow"))) = (some true, some true, some (.ref (He.ga K "InvalidRow") :: [.type "ValueError", .type "Exception", .type "BaseException", .type "object"]), some (.type "type"))) (c.t 75 (t := tY75))) (of_decide_eq_true (p := (["mode", "number"] : List Str).map (fun f => PySem.W.findIn K (.ref (He.ga K "InvalidRow")) f) = (["mode", "number"] : List Str).map fun _ => some none) (c.t 76 (t := tY76)))
  case XN_InvalidEnds => obtain ⟨oc, kV, doc, pm, cdv, ct, od, an, osl, lk, cd, kp⟩ := c.d 55 (d := dY55); exact cin_mk (of_decide_eq_true (p := PySem.W.nsIn K mainGlobals "InvalidEnds" = some (some (.ref (He.ga K "InvalidEnds")))) (c.t 77 (t := tY77))) (of_decide_eq_true (p := PySem.W.findIn K (.ref (He.ga K "InvalidEnds")) "__init__" = some (some (.ref (He.ma K (He.ga K "InvalidEnds") "__init__")))) (c.t 78 (t := tY78))) lk cd kp (of_decide_eq_true (p := PySem.W.specialIn K (.builtin "object.__class__") "__get__" = some (some (.builtin "getset_descriptor.__get__"))) (c.t 51 (t := tY51))) (of_decide_eq_true (p := PySem.W.takesIn K (.builtin "object.__class__") = some true) (c.t 52 (t := tY52))) (of_decide_eq_true (p := (PySem.W.excInitIn K (He.ga K "InvalidEnds") [.type "ValueError", .type "Exception", .type "BaseException", .type "object"] "ValueError.__new__", PySem.W.excOver K (He.ga K "InvalidEnds") [.type "ValueError", .type "Exception", .type "BaseException", .type "object"], PySem.W.hasDictIn K (He.ga K "InvalidEnds"), PySem.W.isFn K (.ref (He.ma K (He.ga K "InvalidEnds") "__init__")), PySem.W.keepIn K (.ref (He.ga K "InvalidEnds"))) = (true, true, true, true, true)) (c.t 79 (t := tY79))) (of_decide_eq_true (p := (PySem.W.findIn K (.ref (He.ga K "InvalidEnds")) "__setattr__", PySem.W.findIn K (.ref (He.ga K "InvalidEnds")) "__getattribute__", PySem.W.findIn K (.ref (He.ga K "InvalidEnds")) "__getattr__", PySem.W.findIn K (.ref (He.ga K "InvalidEnds")) "__class__") = (some (some (.builtin "object.__setattr__")), some (some (.builtin "BaseException.__getattribute__")), some none, some (some (.builtin "object.__class__")))) (c.t 80 (t := tY80))) (of_decide_eq_true (p := (PySem.W.subIn K (.ref (He.ga K "InvalidEnds")) (.type "BaseException"), PySem.W.mroIn K (He.ga K "InvalidEnds") (.type "object"), (PySem.W.clsIn K (He.ga K "InvalidEnds")).map (·.mro), PySem.W.typeIn K (.ref (He.ga K "InvalidEnds"))) = (some true, some true, some (.ref (He.ga K "InvalidEnds") :: [.type "ValueError", .type "Exception", .type "BaseException", .type "object"]), some (.type "type"))) (c.t 81 (t := tY81))) (of_decide_eq_true (p := (["value"] : List Str).map (fun f => PySem.W.findIn K (.ref (He.ga K "InvalidEnds")) f) = (["value"] : List Str).map fun _ => some none) (c.t 82 (t := tY82)))
  case XN_InvalidResult => obtain ⟨oc, kV, doc, pm, cdv, ct, od, an, osl, lk, cd, kp⟩ := c.d 56 (d := dY56); exact cin_mk (of_decide_eq_true (p := PySem.W.nsIn K mainGlobals "InvalidResult" = some (some (.ref (He.ga K "InvalidResult")))) (c.t 83 (t := tY83))) (of_decide_eq_true (p := PySem.W.findIn K (.ref (He.ga K "InvalidResult")) "__init__" = some (some (.ref (He.ma K (He.ga K "InvalidResult") "__init__")))) (c.t 84 (t := tY84))) lk cd kp (of_decide_eq_true (p := PySem.W.specialIn K (.builtin "object.__class__") "__get__" = some (some (.builtin "getset_descriptor.__get__"))) (c.t 51 (t := tY51))) (of_decide_eq_true (p := PySem.W.takesIn K (.builtin "object.__class__") = some true) (c.t 52 (t := tY52))) (of_decide_eq_true (p := (PySem.W.excInitIn K (He.ga K "InvalidResult") [.type "ValueError", .type "Exception", .type "BaseException", .type "object"] "ValueError.__new__", PySem.W.excOver K (He.ga K "InvalidResult") [.type "ValueError", .type "Exception", .type "BaseException", .type "object"], PySem.W.hasDictIn K (He.ga K "InvalidResult"), PySem.W.isFn K (.ref (He.ma K (He.ga K "InvalidResult") "__init__")), PySem.W.keepIn K (.ref (He.ga K "InvalidResult"))) = (true, true, true, true, true)) (c.t 85 (t := tY85))) (of_decide_eq_true (p := (PySem.W.findIn K (.ref (He.ga K "InvalidResult")) "__setattr__", PySem.W.findIn K (.ref (He.ga K "InvalidResult")) "__getattribute__", PySem.W.findIn K (.ref (He.ga K "InvalidResult")) "__getattr__", PySem.W.findIn K (.ref (He.ga K "InvalidResult")) "__class__") = (some (some (.builtin "object.__setattr__")), some (some (.builtin "BaseException.__getattribute__")), some none, some (some (.builtin "object.__class__")))) (c.t 86 (t := tY86))) (of_decide_eq_true (p := (PySem.W.subIn K (.ref (He.ga K "InvalidResult")) (.type "BaseException"), PySem.W.mroIn K (He.ga K "InvalidResult") (.type "object"), (PySem.W.clsIn K (He.ga K "InvalidResult")).map (·.mro), PySem.W.typeIn K (.ref (He.ga K "InvalidResult"))) = (some true, some true, some (.ref (He.ga K "InvalidResult") :: [.type "ValueError", .type "Exception", .type "BaseException", .type "object"]), some (.type "type"))) (c.t 87 (t := tY87))) (of_decide_eq_true (p := (["value"] : List Str).map (fun f => PySem.W.findIn K (.ref (He.ga K "InvalidResult")) f) = (["value"] : List Str).map fun _ => some none) (c.t 88 (t := tY88)))
  case XN_InvalidSign => obtain ⟨oc, kV, doc, pm, cdv, ct, od, an, osl, lk, cd, kp⟩ := c.d 57 (d := dY57); exact cin_mk (of_decide_eq_true (p := PySem.W.nsIn K mainGlobals "InvalidSign" = some (some (.ref (He.ga K "InvalidSign")))) (c.t 89 (t := tY89))) (of_decide_eq_true (p := PySem.W.findIn K (.ref (He.ga K "InvalidSign")) "__init__" = some (some (.ref (He.ma K (He.ga K "InvalidSign") "__init__")))) (c.t 90 (t := tY90))) lk cd kp (of_decide_eq_true (p := PySem.W.specialIn K (.builtin "object.__class__") "__get__" = some (some (.builtin "getset_descriptor.__get__"))) (c.t 51 (t := tY51))) (of_decide_eq_true (p := PySem.W.takesIn K (.builtin "object.__class__") = some true) (c.t 52 (t := tY52))) (of_decide_eq_true (p := (PySem.W.excInitIn K (He.ga K "InvalidSign") [.type "ValueError", .type "Exception", .type "BaseException", .type "object"] "ValueError.__new__", PySem.W.excOver K (He.ga K "InvalidSign") [.type "ValueError", .type "Exception", .type "BaseException", .type "object"], PySem.W.hasDictIn K (He.ga K "InvalidSign"), PySem.W.isFn K (.ref (He.ma K (He.ga K "InvalidSign") "__init__")), PySem.W.keepIn K (.ref (He.ga K "InvalidSign"))) = (true, true, true, true, true)) (c.t 91 (t := tY91))) (of_decide_eq_true (p := (PySem.W.findIn K (.ref (He.ga K "InvalidSign")) "__setattr__", PySem.W.findIn K (.ref (He.ga K "InvalidSign")) "__getattribute__", PySem.W.findIn K (.ref (He.ga K "InvalidSign")) "__getattr__", PySem.W.findIn K (.ref (He.ga K "InvalidSign")) "__class__") = (some (some (.builtin "object.__setattr__")), some (some (.builtin "BaseException.__getattribute__")), some none, some (some (.builtin "object.__class__")))) (c.t 92 (t := tY92))) (of_decide_eq_true (p := (PySem.W.subIn K (.ref (He.ga K "InvalidSign")) (.type "BaseException"), PySem.W.mroIn K (He.ga K "InvalidSign") (.type "object"), (PySem.W.clsIn K (He.ga K "InvalidSign")).map (·.mro), PySem.W.typeIn K (.ref (He.ga K "InvalidSign"))) = (some true, some true, some (.ref (He.ga K "InvalidSign") :: [.type "ValueError", .type "Exception", .type "BaseException", .type "object"]), some (.type "type"))) (c.t 93 (t := tY93))) (of_decide_eq_true (p := (["value"] : List Str).map (fun f => PySem.W.findIn K (.ref (He.ga K "InvalidSign")) f) = (["value"] : List Str).map fun _ => some none) (c.t 94 (t := tY94)))
  case XN_InvalidNumber => obtain ⟨oc, kV, doc, pm, cdv, ct, od, an, osl, lk, cd, kp⟩ := c.d 58 (d := dY58); exact cin_mk (of_decide_eq_true (p := PySem.W.nsIn K mainGlobals "InvalidNumber" = some (some (.ref (He.ga K "InvalidNumber")))) (c.t 95 (t := tY95))) (of_decide_eq_true (p := PySem.W.findIn K (.ref (He.ga K "InvalidNumber")) "__init__" = some (some (.ref (He.ma K (He.ga K "InvalidNumber") "__init__")))) (c.t 96 (t := tY96))) lk cd kp (of_decide_eq_true (p := PySem.W.specialIn K (.builtin "object.__class__") "__get__" = some (some (.builtin "getset_descriptor.__get__"))) (c.t 51 (t := tY51))) (of_decide_eq_true (p := PySem.W.takesIn K (.builtin "object.__class__") = some true) (c.t 52 (t := tY52))) (of_decide_eq_true (p := (PySem.W.excInitIn K (He.ga K "InvalidNumber") [.type "ValueError", .type "Exception", .type "BaseException", .type "object"] "ValueError.__new__", PySem.W.excOver K (He.ga K "InvalidNumber") [.type "ValueError", .type "Exception", .type "BaseException", .type "object"], PySem.W.hasDictIn K (He.ga K "InvalidNumber"), PySem.W.isFn K (.ref (He.ma K (He.ga K "InvalidNumber") "__init__")), PySem.W.keepIn K (.ref (He.ga K "InvalidNumber"))) = (true, true, true, true, true)) (c.t 97 (t := tY97))) (of_decide_eq_true (p := (PySem.W.findIn K (.ref (He.ga K "InvalidNumber")) "__setattr__", PySem.W.findIn K (.ref (He.ga K "InvalidNumber")) "__getattribute__", PySem.W.findIn K (.ref (He.ga K "InvalidNumber")) "__getattr__", PySem.W.findIn K (.ref (He.ga K "InvalidNumber")) "__class__") = (some (some (.builtin "object.__setattr__")), some (some (.builtin "BaseException.__getattribute__")), some none, some (some (.builtin "object.__class__")))) (c.t 98 (t := tY98))) (of_decide_eq_true (p := (PySem.W.subIn K (.ref (He.ga K "InvalidNumber")) (.type "BaseException"), PySem.W.mroIn K (He.ga K "InvalidNumber") (.type "object"), (PySem.W.clsIn K (He.ga K "InvalidNumber")).map (·.mro), PySem.W.typeIn K (.ref (He.ga K "InvalidNumber"))) = (some true, some true, some (.ref (He.ga K "InvalidNumber") :: [.type "ValueError", .type "Exception", .type "BaseException", .type "object"]), some (.type "type"))) (c.t 99 (t := tY99))) (of_decide_eq_true (p := (["value"] : List Str).map (fun f => PySem.W.findIn K (.ref (He.ga K "InvalidNumber")) f) = (["value"] : List Str).map fun _ => some none) (c.t 100 (t := tY100)))
  case XN_UnknownName => obtain ⟨oc, kV, doc, pm, cdv, ct, od, an, osl, lk, cd, kp⟩ := c.d 59 (d := dY59); exact cin_mk (of_decide_eq_true (p := PySem.W.nsIn K mainGlobals "UnknownName" = some (some (.ref (He.ga K "UnknownName")))) (c.t 101 (t := tY101))) (of_decide_eq_true (p := PySem.W.findIn K (.ref (He.ga K "UnknownName")) "__init__" = some (some (.ref (He.ma K (He.ga K "UnknownName") "__init__")))) (c.t 102 (t := tY102))) lk cd kp (of_decide_eq_true (p := PySem.W.specialIn K (.builtin "object.__class__") "__get__" = some (some (.builtin "getset_descriptor.__get__"))) (c.t 51 (t := tY51))) (of_decide_eq_true (p := PySem.W.takesIn K (.builtin "object.__class__") = some true) (c.t 52 (t := tY52))) (of_decide_eq_true (p := (PySem.W.excInitIn K (He.ga K "UnknownName") [.type "LookupError", .type "Exception", .type "BaseException", .type "object"] "LookupError.__new__", PySem.W.excOver K (He.ga K "UnknownName") [.type "LookupError", .type "Exception", .type "BaseException", .type "object"], PySem.W.hasDictIn K (He.ga K "UnknownName"), PySem.W.isFn K (.ref (He.ma K (He.ga K "UnknownName") "__init__")), PySem.W.keepIn K (.ref (He.ga K "UnknownName"))) = (true, true, true, true, true)) (c.t 103 (t := tY103))) (of_decide_eq_true (p := (PySem.W.findIn K (.ref (He.ga K "UnknownName")) "__setattr__", PySem.W.findIn K (.ref (He.ga K "UnknownName")) "__getattribute__", PySem.W.findIn K (.ref (He.ga K "UnknownName")) "__getattr__", PySem.W.findIn K (.ref (He.ga K "UnknownName")) "__class__") = (some (some (.builtin "object.__setattr__")), some (some (.builtin "BaseException.__getattribute__")), some none, some (some (.builtin "object.__class__")))) (c.t 104 (t := tY104))) (of_decide_eq_true (p := (PySem.W.subIn K (.ref (He.ga K "UnknownName")) (.type "BaseException"), PySem.W.mroIn K (He.ga K "UnknownName") (.type "object"), (PySem.W.clsIn K (He.ga K "UnknownName")).map (·.mro), PySem.W.typeIn K (.ref (He.ga K "UnknownName"))) = (some true, some true, some (.ref (He.ga K "UnknownName") :: [.type "LookupError", .type "Exception", .type "BaseException", .type "object"]), some (.type "type"))) (c.t 105 (t := tY105))) (of_decide_eq_true (p := (["value"] : List Str).map (fun f => PySem.W.findIn K (.ref (He.ga K "UnknownName")) f) = (["value"] : List Str).map fun _ => some none) (c.t 106 (t := tY106)))
  case XN_InvalidFigures => obtain ⟨oc, kV, doc, pm, cdv, ct, od, an, osl, lk, cd, kp⟩ := c.d 60 (d := dY60); exact cin_mk (of_decide_eq_true (p := PySem.W.nsIn K mainGlobals "InvalidFigures" = some (some (.ref (He.ga K "InvalidFigures")))) (c.t 107 (t := tY107))) (of_decide_eq_true (p := PySem.W.findIn K (.ref (He.ga K "InvalidFigures")) "__init__" = some (some (.ref (He.ma K (He.ga K "InvalidFigures") "__init__")))) (c.t 108 (t := tY108))) lk cd kp (of_decide_eq_true (p := PySem.W.specialIn K (.builtin "object.__class__") "__get__" = some (some (.builtin "getset_descriptor.__get__"))) (c.t 51 (t := tY51))) (of_decide_eq_true (p := PySem.W.takesIn K (.builtin "object.__class__") = some true) (c.t 52 (t := tY52))) (of_decide_eq_true (p := (PySem.W.excInitIn K (He.ga K "InvalidFigures") [.type "ValueError", .type "Exception", .type "BaseException", .type "object"] "ValueError.__new__", PySem.W.excOver K (He.ga K "InvalidFigures") [.type "ValueError", .type "Exception", .type "BaseException", .type "object"], PySem.W.hasDictIn K (He.ga K "InvalidFigures"), PySem.W.isFn K (.ref (He.ma K (He.ga K "InvalidFigures") "__init__")), PySem.W.keepIn K (.ref (He.ga K "InvalidFigures"))) = (true, true, true, true, true)) (c.t 109 (t := tY109))) (of_decide_eq_true (p := (PySem.W.findIn K (.ref (He.ga K "InvalidFigures")) "__setattr__", PySem.W.findIn K (.ref (He.ga K "InvalidFigures")) "__getattribute__", PySem.W.findIn K (.ref (He.ga K "InvalidFigures")) "__getattr__", PySem.W.findIn K (.ref (He.ga K "InvalidFigures")) "__class__") = (some (some (.builtin "object.__setattr__")), some (some (.builtin "BaseException.__getattribute__")), some none, some (some (.builtin "object.__class__")))) (c.t 110 (t := tY110))) (of_decide_eq_true (p := (PySem.W.subIn K (.ref (He.ga K "InvalidFigures")) (.type "BaseException"), PySem.W.mroIn K (He.ga K "InvalidFigures") (.type "object"), (PySem.W.clsIn K (He.ga K "InvalidFigures")).map (·.mro), PySem.W.typeIn K (.ref (He.ga K "InvalidFigures"))) = (some true, some true, some (.ref (He.ga K "InvalidFigures") :: [.type "ValueError", .type "Exception", .type "BaseException", .type "object"]), some (.type "type"))) (c.t 111 (t := tY111))) (of_decide_eq_true (p := (["value"] : List Str).map (fun f => PySem.W.findIn K (.ref (He.ga K "InvalidFigures")) f) = (["value"] : List Str).map fun _ => some none) (c.t 112 (t := tY112)))
  case XN_InvalidProgram => obtain ⟨oc, kV, doc, pm, cdv, ct, od, an, osl, lk, cd, kp⟩ := c.d 61 (d := dY61); exact cin_mk (of_decide_eq_true (p := PySem.W.nsIn K mainGlobals "InvalidProgram" = some (some (.ref (He.ga K "InvalidProgram")))) (c.t 113 (t := tY113))) (of_decide_eq_true (p := PySem.W.findIn K (.ref (He.ga K "InvalidProgram")) "__init__" = some (some (.ref (He.ma K (He.ga K "InvalidProgram") "__init__")))) (c.t 114 (t := tY114))) lk cd kp (of_decide_eq_true (p := PySem.W.specialIn K (.builtin "object.__class__") "__get__" = some (some (.builtin "getset_descriptor.__get__"))) (c.t 51 (t := tY51))) (of_decide_eq_true (p := PySem.W.takesIn K (.builtin "object.__class__") = some true) (c.t 52 (t := tY52))) (of_decide_eq_true (p := (PySem.W.excInitIn K (He.ga K "InvalidProgram") [.type "ValueError", .type "Exception", .type "BaseException", .type "object"] "ValueError.__new__", PySem.W.excOver K (He.ga K "InvalidProgram") [.type "ValueError", .type "Exception", .type "BaseException", .type "object"], PySem.W.hasDictIn K (He.ga K "InvalidProgram"), PySem.W.isFn K (.ref (He.ma K (He.ga K "InvalidProgram") "__init__")), PySem.W.keepIn K (.ref (He.ga K "InvalidProgram"))) = (true, true, true, true, true)) (c.t 115 (t := tY115))) (of_decide_eq_true (p := (PySem.W.findIn K (.ref (He.ga K "InvalidProgram")) "__setattr__", PySem.W.findIn K (.ref (He.ga K "InvalidProgram")) "__getattribute__", PySem.W.findIn K (.ref (He.ga K "InvalidProgram")) "__getattr__", PySem.W.findIn K (.ref (He.ga K "InvalidProgram")) "__class__") = (some (some (.builtin "object.__setattr__")), some (some (.builtin "BaseException.__getattribute__")), some none, some (some (.builtin "object.__class__")))) (c.t 116 (t := tY116))) (of_decide_eq_true (p := (PySem.W.subIn K (.ref (He.ga K "InvalidProgram")) (.type "BaseException"), PySem.W.mroIn K (He.ga K "InvalidProgram") (.type "object"), (PySem.W.clsIn K (He.ga K "InvalidProgram")).map (·.mro), PySem.W.typeIn K (.ref (He.ga K "InvalidProgram"))) = (some true, some true, some (.ref (He.ga K "InvalidProgram") :: [.type "ValueError", .type "Exception", .type "BaseException", .type "object"]), some (.type "type"))) (c.t 117 (t := tY117))) (of_decide_eq_true (p := (["value"] : List Str).map (fun f => PySem.W.findIn K (.ref (He.ga K "InvalidProgram")) f) = (["value"] : List Str).map fun _ => some none) (c.t 118 (t := tY118)))
  case XaCP => exact (of_decide_eq_true (p := PySem.W.nsIn K mainGlobals "Program" = some (some (.ref (He.ga K "Program")))) (c.t 119 (t := tY119)))
  case XclCP => exact cls_mk (of_decide_eq_true (p := (PySem.W.plainGet K (He.ga K "Program") Str.empty, PySem.W.hasDictIn K (He.ga K "Program"), PySem.W.plainOver K (He.ga K "Program")) = (true, true, true)) (c.t 120 (t := tY120))) (of_decide_eq_true (p := PySem.W.findIn K (.ref (He.ga K "Program")) "__setattr__" = some (some (.builtin "object.__setattr__"))) (c.t 121 (t := tY121)))
  case Xpin => exact ⟨(of_decide_eq_true (p := PySem.W.findIn K (.ref (He.ga K "Program")) "_base" = some none) (c.t 122 (t := tY122))), (of_decide_eq_true (p := PySem.W.findIn K (.ref (He.ga K "Program")) "_registers" = some none) (c.t 123 (t := tY123))), (of_decide_eq_true (p := PySem.W.findIn K (.ref (He.ga K "Program")) "_modes" = some none) (c.t 124 (t := tY124))), (of_decide_eq_true (p := PySem.W.findIn K (.ref (He.ga K "Program")) "_ends" = some none) (c.t 125 (t := tY125))), (of_decide_eq_true (p := PySem.W.findIn K (.ref (He.ga K "Program")) "_result" = some none) (c.t 126 (t := tY126))), (of_decide_eq_true (p := PySem.W.findIn K (.ref (He.ga K "Program")) "_tables" = some none) (c.t 127 (t := tY127)))⟩
  case XiP => obtain ⟨oc, kV, doc, pm, cdv, ct, od, an, osl, lk, cd, kp⟩ := c.d 62 (d := dY62); exact ifun_mk (fun _ _ _ _ _ _ us hl => by (obtain ⟨x0, x1, x2, x3, x4, x5, rfl⟩ := ba6 hl; rfl)) (of_decide_eq_true (p := PySem.W.findIn K (.ref (He.ga K "Program")) "__init__" = some (some (.ref (He.ma K (He.ga K "Program") "__init__")))) (c.t 128 (t := tY128))) lk cd kp (of_decide_eq_true (p := PySem.W.makesIn K (He.ga K "Program") = true) (c.t 129 (t := tY129))) (of_decide_eq_true (p := PySem.W.isFn K (.ref (He.ma K (He.ga K "Program") "__init__")) = true) (c.t 130 (t := tY130))) (of_decide_eq_true (p := PySem.W.keepIn K (.ref (He.ga K "Program")) = true) (c.t 131 (t := tY131)))
  case Xp_base => obtain ⟨oc, kV, doc, pm, cdv, ct, od, an, osl, lk, cd, kp⟩ := c.d 63 (d := dY63); obtain ⟨rest, r⟩ := gB_ok (K := K) (p := (He.ma K (He.ga K "Program") "base")) (c.t 135 (t := tY135)); exact pfun_mk (fun _ _ _ _ _ _ us hl => by (obtain ⟨x0, rfl⟩ := ba1 hl; rfl)) (of_decide_eq_true (p := PySem.W.findIn K (.ref (He.ga K "Program")) "base" = some (some (.ref (He.ma K (He.ga K "Program") "base")))) (c.t 132 (t := tY132))) (of_decide_eq_true (p := PySem.W.specialIn K (.ref (He.ma K (He.ga K "Program") "base")) "__get__" = some (some (.builtin "property.__get__"))) (c.t 133 (t := tY133))) (of_decide_eq_true (p := PySem.W.takesIn K (.ref (He.ma K (He.ga K "Program") "base")) = some true) (c.t 134 (t := tY134))) r lk cd kp
  case Xp_size => obtain ⟨oc, kV, doc, pm, cdv, ct, od, an, osl, lk, cd, kp⟩ := c.d 64 (d := dY64); obtain ⟨rest, r⟩ := gB_ok (K := K) (p := (He.ma K (He.ga K "Program") "size")) (c.t 139 (t := tY139)); exact pfun_mk (fun _ _ _ _ _ _ us hl => by (obtain ⟨x0, rfl⟩ := ba1 hl; rfl)) (of_decide_eq_true (p := PySem.W.findIn K (.ref (He.ga K "Program")) "size" = some (some (.ref (He.ma K (He.ga K "Program") "size")))) (c.t 136 (t := tY136))) (of_decide_eq_true (p := PySem.W.specialIn K (.ref (He.ma K (He.ga K "Program") "size")) "__get__" = some (some (.builtin "property.__get__"))) (c.t 137 (t := tY137))) (of_decide_eq_true (p := PySem.W.takesIn K (.ref (He.ma K (He.ga K "Program") "size")) = some true) (c.t 138 (t := tY138))) r lk cd kp
  case Xp_ends => obtain ⟨oc, kV, doc, pm, cdv, ct, od, an, osl, lk, cd, kp⟩ := c.d 65 (d := dY65); obtain ⟨rest, r⟩ := gB_ok (K := K) (p := (He.ma K (He.ga K "Program") "ends")) (c.t 143 (t := tY143)); exact pfun_mk (fun _ _ _ _ _ _ us hl => by (obtain ⟨x0, rfl⟩ := ba1 hl; rfl)) (of_decide_eq_true (p := PySem.W.findIn K (.ref (He.ga K "Program")) "ends" = some (some (.ref (He.ma K (He.ga K "Program") "ends")))) (c.t 140 (t := tY140))) (of_decide_eq_true (p := PySem.W.specialIn K (.ref (He.ma K (He.ga K "Program") "ends")) "__get__" = some (some (.builtin "property.__get__"))) (c.t 141 (t := tY141))) (of_decide_eq_true (p := PySem.W.takesIn K (.ref (He.ma K (He.ga K "Program") "ends")) = some true) (c.t 142 (t := tY142))) r lk cd kp
  case Xp_result => obtain ⟨oc, kV, doc, pm, cdv, ct, od, an, osl, lk, cd, kp⟩ := c.d 66 (d := dY66); obtain ⟨rest, r⟩ := gB_ok (K := K) (p := (He.ma K (He.ga K "Program") "result")) (c.t 147 (t := tY147)); exact pfun_mk (fun _ _ _ _ _ _ us hl => by (obtain ⟨x0, rfl⟩ := ba1 hl; rfl)) (of_decide_eq_true (p := PySem.W.findIn K (.ref (He.ga K "Program")) "result" = some (some (.ref (He.ma K (He.ga K "Program") "result")))) (c.t 144 (t := tY144))) (of_decide_eq_true (p := PySem.W.specialIn K (.ref (He.ma K (He.ga K "Program") "result")) "__get__" = some (some (.builtin "property.__get__"))) (c.t 145 (t := tY145))) (of_decide_eq_true (p := PySem.W.takesIn K (.ref (He.ma K (He.ga K "Program") "result")) = some true) (c.t 146 (t := tY146))) r lk cd kp
  case Xm_registers => obtain ⟨oc, kV, doc, pm, cdv, ct, od, an, osl, lk, cd, kp⟩ := c.d 67 (d := dY67); exact over_mk (fun _ _ _ _ _ _ us hl => by (obtain ⟨x0, rfl⟩ := ba1 hl; rfl)) (of_decide_eq_true (p := PySem.W.findIn K (.ref (He.ga K "Program")) "registers" = some (some (.ref (He.ma K (He.ga K "Program") "registers")))) (c.t 148 (t := tY148))) lk cd kp (of_decide_eq_true (p := PySem.W.isFn K (.ref (He.ma K (He.ga K "Program") "registers")) = true) (c.t 149 (t := tY149)))
  case Xm_modes => obtain ⟨oc, kV, doc, pm, cdv, ct, od, an, osl, lk, cd, kp⟩ := c.d 68 (d := dY68); exact over_mk (fun _ _ _ _ _ _ us hl => by (obtain ⟨x0, rfl⟩ := ba1 hl; rfl)) (of_decide_eq_true (p := PySem.W.findIn K (.ref (He.ga K "Program")) "modes" = some (some (.ref (He.ma K (He.ga K "Program") "modes")))) (c.t 150 (t := tY150))) lk cd kp (of_decide_eq_true (p := PySem.W.isFn K (.ref (He.ma K (He.ga K "Program") "modes")) = true) (c.t 151 (t := tY151)))
  case Xm_rule_of => obtain ⟨oc, kV, doc, pm, cdv, ct, od, an, osl, lk, cd, kp⟩ := c.d 69 (d := dY69); exact over_mk (fun _ _ _ _ _ _ us hl => by (obtain ⟨x0, x1, rfl⟩ := ba2 hl; rfl)) (of_decide_eq_true (p := PySem.W.findIn K (.ref (He.ga K "Program")) "rule_of" = some (some (.ref (He.ma K (He.ga K "Program") "rule_of")))) (c.t 152 (t := tY152))) lk cd kp (of_decide_eq_true (p := PySem.W.isFn K (.ref (He.ma K (He.ga K "Program") "rule_of")) = true) (c.t 153 (t := tY153)))
  case Xm__mode => obtain ⟨oc, kV, doc, pm, cdv, ct, od, an, osl, lk, cd, kp⟩ := c.d 70 (d := dY70); exact over_mk (fun _ _ _ _ _ _ us hl => by (obtain ⟨x0, x1, rfl⟩ := ba2 hl; rfl)) (of_decide_eq_true (p := PySem.W.findIn K (.ref (He.ga K "Program")) "_mode" = some (some (.ref (He.ma K (He.ga K "Program") "_mode")))) (c.t 154 (t := tY154))) lk cd kp (of_decide_eq_true (p := PySem.W.isFn K (.ref (He.ma K (He.ga K "Program") "_mode")) = true) (c.t 155 (t := tY155)))
  case Xm_getitem => obtain ⟨oc, kV, doc, pm, cdv, ct, od, an, osl, lk, cd, kp⟩ := c.d 71 (d := dY71); exact ixfun_mk (fun _ _ _ _ _ _ us hl => by (obtain ⟨x0, x1, rfl⟩ := ba2 hl; rfl)) (of_decide_eq_true (p := PySem.W.findIn K (.ref (He.ga K "Program")) "__getitem__" = some (some (.ref (He.ma K (He.ga K "Program") "__getitem__")))) (c.t 156 (t := tY156))) lk cd kp (of_decide_eq_true (p := PySem.W.isFn K (.ref (He.ma K (He.ga K "Program") "__getitem__")) = true) (c.t 157 (t := tY157))) (of_decide_eq_true (p := PySem.W.fnIn K (He.ma K (He.ga K "Program") "__getitem__") = true) (c.t 158 (t := tY158)))
  case XkitCP => exact pkit_mk (of_decide_eq_true (p := PySem.W.specialIn K (.builtin "object.__class__") "__get__" = some (some (.builtin "getset_descriptor.__get__"))) (c.t 51 (t := tY51))) (of_decide_eq_true (p := PySem.W.takesIn K (.builtin "object.__class__") = some true) (c.t 52 (t := tY52))) (of_decide_eq_true (p := PySem.W.findIn K (.ref (He.ga K "Program")) "__class__" = some (some (.builtin "object.__class__"))) (c.t 159 (t := tY159))) (of_decide_eq_true (p := PySem.W.mroIn K (He.ga K "Program") (.type "object") = some true) (c.t 160 (t := tY160))) (of_decide_eq_true (p := PySem.W.kitOne K (.ref (He.ga K "Program")) (.ref (He.ga K "Program")) = some true) (c.t 161 (t := tY161))) (of_decide_eq_true (p := PySem.W.kitOne K (.type "NoneType") (.ref (He.ga K "Program")) = some false) (c.t 162 (t := tY162))) (of_decide_eq_true (p := PySem.W.kitOne K (.type "bool") (.ref (He.ga K "Program")) = some false) (c.t 163 (t := tY163))) (of_decide_eq_true (p := PySem.W.kitOne K (.type "int") (.ref (He.ga K "Program")) = some false) (c.t 164 (t := tY164))) (of_decide_eq_true (p := PySem.W.kitOne K (.type "str") (.ref (He.ga K "Program")) = some false) (c.t 165 (t := tY165))) (of_decide_eq_true (p := PySem.W.kitOne K (.type "list") (.ref (He.ga K "Program")) = some false) (c.t 166 (t := tY166))) (of_decide_eq_true (p := PySem.W.kitOne K (.type "tuple") (.ref (He.ga K "Program")) = some false) (c.t 167 (t := tY167)))
  case XaV => exact (of_decide_eq_true (p := PySem.W.nsIn K mainGlobals "_law_value" = some (some (.ref (He.ga K "_law_value")))) (c.t 168 (t := tY168)))
  case XlV => exact lkV
  case XcV => exact cdV
  case XkV => exact kpV
  case XaL => exact (of_decide_eq_true (p := PySem.W.nsIn K mainGlobals "law" = some (some (.ref (He.ga K "law")))) (c.t 169 (t := tY169)))
  case XlL => exact lkL
  case XcL => exact cdL
  case XkL => exact kpL
  case XeF => exact (of_decide_eq_true (p := PySem.W.exmOne K (.ref (He.ga K "InvalidFigures")) (.ref (He.ga K "InvalidFigures")) = some true) (c.t 170 (t := tY170)))
  case XeS => exact (of_decide_eq_true (p := PySem.W.exmOne K (.ref (He.ga K "InvalidSign")) (.ref (He.ga K "InvalidSign")) = some true) (c.t 171 (t := tY171)))
  case XaT => exact (of_decide_eq_true (p := PySem.W.nsIn K mainGlobals "RULES" = some (some (.ref (He.ga K "RULES")))) (c.t 172 (t := tY172)))
  case XlT => exact lT
  case XcT => exact cT
  case XdT => exact dT
  case XsT => exact sT
  case XvT => exact vT
  case XgL => exact gL
  case XgS => exact gS
  case Xch => exact hd
  case Xtk => exact out
  case Xz0 => exact (of_decide_eq_true (p := PySem.W.nsIn K mainGlobals "isinstance" = some none) (c.t 176 (t := tY176)))
  case Xz1 => exact (of_decide_eq_true (p := PySem.W.nsIn K mainGlobals "int" = some none) (c.t 177 (t := tY177)))
  case Xz2 => exact (of_decide_eq_true (p := PySem.W.nsIn K mainGlobals "bool" = some none) (c.t 178 (t := tY178)))
  case Xz3 => exact (of_decide_eq_true (p := PySem.W.nsIn K mainGlobals "str" = some none) (c.t 179 (t := tY179)))
  case Xz4 => exact (of_decide_eq_true (p := PySem.W.nsIn K mainGlobals "abs" = some none) (c.t 180 (t := tY180)))
  case Xz5 => exact (of_decide_eq_true (p := PySem.W.nsIn K mainGlobals "len" = some none) (c.t 181 (t := tY181)))
  case Xz6 => exact (of_decide_eq_true (p := PySem.W.nsIn K mainGlobals "list" = some none) (c.t 182 (t := tY182)))
  case Xz7 => exact (of_decide_eq_true (p := PySem.W.nsIn K mainGlobals "tuple" = some none) (c.t 183 (t := tY183)))
  case Xz8 => exact (of_decide_eq_true (p := PySem.W.nsIn K mainGlobals "range" = some none) (c.t 184 (t := tY184)))
  case Xz9 => exact (of_decide_eq_true (p := PySem.W.nsIn K mainGlobals "enumerate" = some none) (c.t 185 (t := tY185)))
  case Xz10 => exact (of_decide_eq_true (p := PySem.W.nsIn K mainGlobals "all" = some none) (c.t 186 (t := tY186)))
  case Xz11 => exact (of_decide_eq_true (p := PySem.W.nsIn K mainGlobals "max" = some none) (c.t 187 (t := tY187)))
  case Xz12 => exact (of_decide_eq_true (p := PySem.W.nsIn K mainGlobals "min" = some none) (c.t 188 (t := tY188)))
  case Xz13 => exact (of_decide_eq_true (p := PySem.W.nsIn K mainGlobals "sum" = some none) (c.t 189 (t := tY189)))
  case Xz14 => exact (of_decide_eq_true (p := PySem.W.nsIn K mainGlobals "zip" = some none) (c.t 190 (t := tY190)))
  case Xz15 => exact (of_decide_eq_true (p := PySem.W.nsIn K mainGlobals "dict" = some none) (c.t 191 (t := tY191)))
  case Xz16 => exact (of_decide_eq_true (p := PySem.W.nsIn K mainGlobals "iter" = some none) (c.t 192 (t := tY192)))
  case Xz17 => exact (of_decide_eq_true (p := PySem.W.nsIn K mainGlobals "repr" = some none) (c.t 193 (t := tY193)))
end
end W1
open PySem PySem.W PySem.Calls PyProof.Rows
set_option maxRecDepth 100000 in
set_option maxHeartbeats 0 in
theorem PySem.Challenge.cw_twodivisions_k60_values_of_words_holds : PySem.Challenge.rw_twodivisions_k60_values_of_words.Holds := by
  w_on; o_law
  refine HandSHeadRun.head_any (r := OpenLaw.row PySem.Challenge.rw_twodivisions_k60_values_of_words) (q := view (OpenLaw.row PySem.Challenge.rw_twodivisions_k60_values_of_words).prog [76]) (H := W1.hkY) (ob := W1.obY) (M := 8000) (loose := W1.topN) (d := HandSHeadRun.topDef (OpenLaw.row PySem.Challenge.rw_twodivisions_k60_values_of_words).prog 76) (kwd := []) W1.obY_eq
    (by kernel_rfl) (fun s => by kernel_rfl) W1.runY (by kernel_rfl) (by kernel_rfl) (by kernel_rfl) (by rfl) (by first | assumption | decide +kernel) (by decide +kernel) ⟨rfl, rfl, rfl, rfl, rfl, by decide +kernel⟩ ?hw ?hc
  case hw => w_witness2
  case hc =>
    refine W1.walk_ofY (l := PySem.Challenge.rw_twodivisions_k60_values_of_words) (n := 63) (k := 12) (x := "_law_script") (CX := fun _ => L2.CX0) (sp := W1.spLaw) rfl (by decide) (by kernel_rfl) ⟨rfl, by decide, by decide⟩ ?F (fun K Pt H a ns hl t hS => ⟨a, ns, rfl, hS, hl, t, fun _ => rfl⟩) (fun _ _ _ _ _ z => z)
    intro w mg fa h Y G hmg0
    obtain ⟨K, KX, c⟩ := Y
    have hmg : mg ("law" : PySem.Str) = some (.ref fa) := by
      have e : (HandSHeadRun.topDef (OpenLaw.row PySem.Challenge.rw_twodivisions_k60_values_of_words).prog 76).name = ("law" : PySem.Str) := by kernel_rfl
      rw [← e]
      exact hmg0
    exact ⟨K, KX, W1.top2 KX G hmg c⟩
