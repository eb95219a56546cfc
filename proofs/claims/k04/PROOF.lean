import PyProof.Rows.All
import Wide.All
import OpenK.AllK
import Wide.FinOn
import HandS.Codes
import HandS.Defaults
import HandS.ExcField
import HandS.ExcInit
import HandS.ExcIs
import HandS.Finally
import HandS.ForExc
import HandS.ForMost
import HandS.Gcd
import HandS.IsInst
import HandS.Lambda
import HandS.MakeKw
import HandS.OwnEq
import HandS.Property
import HandS.TryMany
import HandS.TryOnly
import HandS.Walk
import HandS.Wide
import HandS.WordsExc
import HandS.DictComp
import HandS.DictTup
import HandS.CallLocal
import HandS.Deep
import HandS.TupAny
import HandS.Star
import HandS.TupMul
import KE.KExcInit
import KE.KExcIs
import KE.KExcPX
import KE.KLam
import KE.KNest
import KE.KNestM
import KE.KOpsOwn
import KE.KWithOwn
import KE.KDictKeyed
import KE.KDictCopyH
import KE.GoesMore
import PyProof.CallFns
import PyProof.InstNe
import PyProof.ReprLen
import PyProof.ReprRoads
import HandS.Head0
import HandS.Head1
import HandS.Head2
import HandS.HeadHook1
import HandS.HeadHook2
import HandS.HeadHook4
import KE.KStateDown
import PySem.Challenge.RW_twodivisions_k04_programs_refused
set_option Elab.async false
set_option maxRecDepth 100000
set_option maxHeartbeats 4000000
set_option linter.all false
set_option exponentiation.threshold 5000
namespace W1
open PySem L2
local macro_rules | `(tactic| and_intros) => `(tactic| first | refine ⟨_, rfl, ?_⟩ | refine ⟨_, _, rfl, rfl, ?_⟩)
def top (i : Nat) : Stmt := PySem.Challenge.pw_twodivisions_k04_programs_refused.main.body.getD i (.Pass ⟨0, 0, 0, 0⟩)
/-! ### the head by one run: what the top has left is told by tests of a part of the heap -/
section
open PySem.W PySem.Calls PyProof.Rows
/-- a def, a method, a getter: where it stands, what it is -/
structure DefY where
  ad : PySem.W.Frag → Addr
  name : Str
  qual : Str
  df : List V
  st : Stmt
def fnY (K : PySem.W.Frag) (a : Addr) : He.FnW := match K.lookup a with
  | some ⟨_, _, .func fd, _⟩ => some (fd.name, fd.qualname, fd.params, fd.body, fd.scope, fd.globals, fd.closure, fd.builtins)
  | _ => none
def DefY.val (d : DefY) : He.FnW := some (d.name, d.qual, defArgs d.st, .stmts (defBody d.st), defScope d.st, mainGlobals, [], builtinsNs)
def noneB : Value → Bool
  | .none => true
  | _ => false
theorem noneB_ok {v : Value} (h : noneB v = true) : v = .none := by
  cases v <;> first | rfl | cases h
/-- the defaults: none, or a tuple of these -/
def dfOk (K : PySem.W.Frag) : List V → Value → Bool
  | [], v => noneB v
  | x :: xs, .ref T => (match K.lookup T with
    | some ⟨_, _, .seq its _, _⟩ => He.relAll (x :: xs) its.toList
    | _ => false)
  | _ :: _, _ => false
def DefY.ok (K : PySem.W.Frag) (d : DefY) : Bool := PySem.W.keepIn K (.ref (d.ad K)) && (match K.lookup (d.ad K) with
  | some ⟨_, _, .func fd, _⟩ => PySem.W.codeIn K fd.code d.qual && dfOk K d.df fd.defaults
  | _ => false)
theorem DefY.raw {K : PySem.W.Frag} {d : DefY} (e : fnY K (d.ad K) = d.val) (c : d.ok K = true) : ∃ (oc dV kV doc pm cdv ct : Value) (od an : Option Addr) (osl : Array (Option Value)), K.lookup (d.ad K) = some ⟨oc, od, .func (PySem.W.fnOf d.name d.qual (defArgs d.st) (defBody d.st) (defScope d.st) dV kV doc pm an cdv ct), osl⟩ ∧ PySem.W.codeIn K cdv d.qual = true ∧ PySem.W.keepIn K (.ref (d.ad K)) = true ∧ dfOk K d.df dV = true := by
  obtain ⟨kp, c2⟩ := He.ba c
  unfold fnY at e
  cases q : K.lookup (d.ad K) with
  | none =>
    rw [q] at c2
    cases c2
  | some o =>
    obtain ⟨oc, od, dt, osl⟩ := o
    rw [q] at c2 e
    cases dt with
    | func fd =>
      obtain ⟨n1, n2, n3, n4, n5, n6, n7, n8, n9, n10, n11, n12, n13, n14, n15⟩ := fd
      have e2 : (some (n1, n2, n3, n4, n5, n6, n7, n15) : He.FnW) = some (d.name, d.qual, defArgs d.st, .stmts (defBody d.st), defScope d.st, mainGlobals, [], builtinsNs) := e
      simp only [Option.some.injEq, Prod.mk.injEq] at e2
      obtain ⟨h1, h2, h3, h4, h5, h6, h7, h8⟩ := e2
      subst h1 h2 h3 h4 h5 h6 h7 h8
      have c3 : (PySem.W.codeIn K n13 d.qual && dfOk K d.df n8) = true := c2
      obtain ⟨k1, k2⟩ := He.ba c3
      exact ⟨oc, n8, n9, n10, n11, n13, n14, od, n12, osl, rfl, k1, kp, k2⟩
    | _ => cases c2
/-- the getter of a property -/
def gA (K : PySem.W.Frag) (p : Addr) : Addr := match PySem.W.recIn K p "property" with
  | some (.ref g :: _) => g
  | _ => 0
def gB (K : PySem.W.Frag) (p : Addr) : Bool := match PySem.W.recIn K p "property" with
  | some (.ref _ :: _) => true
  | _ => false
theorem gB_ok {K : PySem.W.Frag} {p : Addr} (h : gB K p = true) : ∃ rest, PySem.W.recIn K p "property" = some (.ref (gA K p) :: rest) := by
  unfold gB at h
  unfold gA
  cases q : PySem.W.recIn K p "property" with
  | none => rw [q] at h; cases h
  | some l =>
    rw [q] at h
    cases l with
    | nil => cases h
    | cons v r => cases v <;> first | exact ⟨_, rfl⟩ | cases h
/-- the code of the def at a -/
def codeY (K : PySem.W.Frag) (a : Addr) : Addr := match K.lookup a with
  | some ⟨_, _, .func fd, _⟩ => (match fd.code with
    | .ref c => c
    | _ => 0)
  | _ => 0
theorem codeY_eq {K : PySem.W.Frag} {a c : Addr} {oc : Value} {od : Option Addr} {osl : Array (Option Value)} {fd : FuncData} (lk : K.lookup a = some ⟨oc, od, .func fd, osl⟩) (e : fd.code = .ref c) : codeY K a = c := by
  unfold codeY
  rw [lk]
  show (match fd.code with | .ref c => c | _ => 0) = c
  rw [e]
def intB (K : PySem.W.Frag) (x : Str) (i : Int) : Bool := match PySem.W.nsIn K mainGlobals x with
  | some (some (.int j _)) => decide (j = i)
  | _ => false
theorem intB_ok {K : PySem.W.Frag} {x : Str} {i : Int} (h : intB K x i = true) : ∃ t, PySem.W.nsIn K mainGlobals x = some (some (.int i t)) := by
  unfold intB at h
  cases q : PySem.W.nsIn K mainGlobals x with
  | none => rw [q] at h; cases h
  | some o =>
    rw [q] at h
    cases o with
    | none => cases h
    | some v => cases v <;> first | (have e := of_decide_eq_true h; subst e; exact ⟨_, rfl⟩) | cases h
def strB (K : PySem.W.Frag) (x z : Str) : Bool := match PySem.W.nsIn K mainGlobals x with
  | some (some (.str y _)) => decide (y = z)
  | _ => false
theorem strB_ok {K : PySem.W.Frag} {x z : Str} (h : strB K x z = true) : ∃ t, PySem.W.nsIn K mainGlobals x = some (some (.str z t)) := by
  unfold strB at h
  cases q : PySem.W.nsIn K mainGlobals x with
  | none => rw [q] at h; cases h
  | some o =>
    rw [q] at h
    cases o with
    | none => cases h
    | some v => cases v <;> first | (have e := of_decide_eq_true h; subst e; exact ⟨_, rfl⟩) | cases h
def tupY (K : PySem.W.Frag) (a : Addr) (vs : List V) : Bool := match K.lookup a with
  | some ⟨.type c, _, .seq its _, _⟩ => decide (c = "tuple") && (decide (its.size ≤ sizeLine) && He.relAll vs its.toList)
  | _ => false
theorem tupY_ok {K : PySem.W.Frag} {a : Addr} {vs : List V} (h : tupY K a vs = true) : ∃ (ot : Obj) (it : Array Value) (n : Nat), K.lookup a = some ot ∧ ot.cls = .type "tuple" ∧ ot.data = .seq it n ∧ it.size ≤ sizeLine ∧ Vals vs it.toList := by
  unfold tupY at h
  cases q : K.lookup a with
  | none => rw [q] at h; cases h
  | some o =>
    obtain ⟨oc, od, dt, osl⟩ := o
    rw [q] at h
    cases oc with
    | type c =>
      cases dt with
      | seq its n =>
        obtain ⟨h1, h2⟩ := He.ba (show (decide (c = "tuple") && (decide (its.size ≤ sizeLine) && He.relAll vs its.toList)) = true from h)
        obtain ⟨h3, h4⟩ := He.ba h2
        exact ⟨_, its, n, rfl, congrArg Value.type (of_decide_eq_true h1), rfl, of_decide_eq_true h3, He.relAll_ok h4⟩
      | _ => cases h
    | _ => cases dt <;> cases h
def tabY (g : Addr → Option Obj) (a : Addr) : Bool := match g a with
  | some o => He.emptyTab o
  | none => false
/-- the table of the code of the def at a -/
abbrev tabP (K : PySem.W.Frag) (a : Addr) : Addr := He.tabOf K (codeY K a)
structure SaysY (fs : List DefY) (exs : List (PySem.W.Frag → Bool)) (vfs : List (PySem.W.Frag → Addr)) (h : Heap) (K : PySem.W.Frag) : Prop where
  fn : (fs.map fun d => fnY K (d.ad K)) = fs.map DefY.val
  ok : (fs.all fun d => d.ok K) = true
  ex : (exs.all fun t => t K) = true
  hd : ∀ vf ∈ vfs, PySem.W.codeHdIn K (codeY K (vf K)) (tabP K (vf K)) = true
  out : ∀ vf ∈ vfs, K.lookup (tabP K (vf K)) = none
  empty : ∀ vf ∈ vfs, h.get? (tabP K (vf K)) = some ({ cls := .none, data := .fields #[] } : Obj)
def obsK (fs : List DefY) (exs : List (PySem.W.Frag → Bool)) (vfs : List (PySem.W.Frag → Addr)) (g : Addr → Option Obj) (K : PySem.W.Frag) : Bool × List He.FnW :=
  ((fs.all fun d => d.ok K) && ((exs.all fun t => t K) && (vfs.all fun vf => PySem.W.codeHdIn K (codeY K (vf K)) (tabP K (vf K)) && tabY g (tabP K (vf K)))), fs.map fun d => fnY K (d.ad K))
def obsY (n : Nat) (fs : List DefY) (exs : List (PySem.W.Frag → Bool)) (vfs : List (PySem.W.Frag → Addr)) (g : Addr → Option Obj) : Bool × List He.FnW := obsK fs exs vfs g (He.frT g (List.range n))
def valY (fs : List DefY) : Bool × List He.FnW := (true, fs.map DefY.val)
theorem saysY_of {n : Nat} {fs : List DefY} {exs : List (PySem.W.Frag → Bool)} {vfs : List (PySem.W.Frag → Addr)} {h : Heap} (e : obsY n fs exs vfs h.get? = valY fs) : SaysY fs exs vfs h (He.frT h.get? (List.range n)) := by
  have e2 := congrArg (fun z : Bool × List He.FnW => z.2) e
  have e1 : ((fs.all fun d => d.ok (He.frT h.get? (List.range n))) && ((exs.all fun t => t (He.frT h.get? (List.range n))) && (vfs.all fun vf => PySem.W.codeHdIn (He.frT h.get? (List.range n)) (codeY (He.frT h.get? (List.range n)) (vf (He.frT h.get? (List.range n)))) (tabP (He.frT h.get? (List.range n)) (vf (He.frT h.get? (List.range n)))) && tabY h.get? (tabP (He.frT h.get? (List.range n)) (vf (He.frT h.get? (List.range n))))))) = true := congrArg (fun z : Bool × List He.FnW => z.1) e
  obtain ⟨a1, b1⟩ := He.ba e1
  obtain ⟨a2, b2⟩ := He.ba b1
  have tb : ∀ vf ∈ vfs, ∃ o, h.get? (tabP (He.frT h.get? (List.range n)) (vf (He.frT h.get? (List.range n)))) = some o ∧ He.emptyTab o = true := fun vf hv => by
    obtain ⟨_, b3⟩ := He.ba (List.all_eq_true.mp b2 vf hv)
    unfold tabY at b3
    cases q : h.get? (tabP (He.frT h.get? (List.range n)) (vf (He.frT h.get? (List.range n)))) with
    | none => rw [q] at b3; cases b3
    | some o => rw [q] at b3; exact ⟨o, rfl, b3⟩
  refine ⟨e2, a1, a2, fun vf hv => (He.ba (List.all_eq_true.mp b2 vf hv)).1, fun vf hv => ?_, fun vf hv => ?_⟩
  · obtain ⟨o, q, b3⟩ := tb vf hv
    exact He.frT_none q b3
  · obtain ⟨o, q, b3⟩ := tb vf hv
    rw [q, He.emptyTab_eq b3]
def hookY (n : Nat) (fs : List DefY) (exs : List (PySem.W.Frag → Bool)) (vfs : List (PySem.W.Frag → Addr)) : PySem.W.Hook where
  α := Bool × List He.FnW
  obs := fun s => obsY n fs exs vfs s.heap.get?
  val := fun _ => valY fs
  says := fun _ h => ∃ K : PySem.W.Frag, K.In h ∧ SaysY fs exs vfs h K
  of := fun _ _ e => ⟨_, He.frT_in, saysY_of e⟩
  keeps := fun _ _ _ ⟨K, hK, c⟩ k => ⟨K, PySem.W.Frag.In.keeps hK k, ⟨c.fn, c.ok, c.ex, c.hd, c.out, fun vf hv => k _ _ (c.empty vf hv)⟩⟩
theorem obsY_eq {n : Nat} {fs : List DefY} {exs : List (PySem.W.Frag → Bool)} {vfs : List (PySem.W.Frag → Addr)} {g : Addr → Option Obj} {s : Shared} (h : ∀ a, g a = s.heap.get? a) : obsY n fs exs vfs g = (hookY n fs exs vfs).obs s := by
  have e : g = s.heap.get? := funext h
  rw [e] <;> rfl
section
variable {fs : List DefY} {exs : List (PySem.W.Frag → Bool)} {vfs : List (PySem.W.Frag → Addr)} {h : Heap} {K : PySem.W.Frag}
theorem SaysY.t (c : SaysY fs exs vfs h K) (i : Nat) {t : PySem.W.Frag → Bool} (e : exs[i]? = some t := by rfl) : t K = true := List.all_eq_true.mp c.ex t (List.mem_of_getElem? e)
theorem SaysY.dd (c : SaysY fs exs vfs h K) (i : Nat) {d : DefY} (e : fs[i]? = some d := by rfl) : ∃ (oc dV kV doc pm cdv ct : Value) (od an : Option Addr) (osl : Array (Option Value)), K.lookup (d.ad K) = some ⟨oc, od, .func (PySem.W.fnOf d.name d.qual (defArgs d.st) (defBody d.st) (defScope d.st) dV kV doc pm an cdv ct), osl⟩ ∧ PySem.W.codeIn K cdv d.qual = true ∧ PySem.W.keepIn K (.ref (d.ad K)) = true ∧ dfOk K d.df dV = true := by
  have e2 : (fs.map fun d => fnY K (d.ad K))[i]? = (fs.map DefY.val)[i]? := by rw [c.fn]
  rw [List.getElem?_map, List.getElem?_map, e] at e2
  exact DefY.raw (Option.some.inj e2) (List.all_eq_true.mp c.ok d (List.mem_of_getElem? e))
theorem SaysY.d (c : SaysY fs exs vfs h K) (i : Nat) {d : DefY} (e : fs[i]? = some d := by rfl) (n : d.df = [] := by rfl) : ∃ (oc kV doc pm cdv ct : Value) (od an : Option Addr) (osl : Array (Option Value)), K.lookup (d.ad K) = some ⟨oc, od, .func (PySem.W.fnOf d.name d.qual (defArgs d.st) (defBody d.st) (defScope d.st) .none kV doc pm an cdv ct), osl⟩ ∧ PySem.W.codeIn K cdv d.qual = true ∧ PySem.W.keepIn K (.ref (d.ad K)) = true := by
  obtain ⟨oc, dV, kV, doc, pm, cdv, ct, od, an, osl, l, c1, k, z⟩ := c.dd i e
  rw [n] at z
  obtain rfl := noneB_ok z
  exact ⟨oc, kV, doc, pm, cdv, ct, od, an, osl, l, c1, k⟩
end
end
/-! ### the tests of what the top has left -/
section
open PySem.W PySem.Calls PyProof.Rows
def vfY_L (K : PySem.W.Frag) : Addr := (He.ga K "law")
def vfY_V (K : PySem.W.Frag) : Addr := (He.ga K "_law_doors_right")
def vfsY : List (PySem.W.Frag → Addr) := [vfY_L, vfY_V]
def tY0 (K : PySem.W.Frag) : Bool := decide (PySem.W.nsIn K mainGlobals "is_integer" = some (some (.ref (He.ga K "is_integer"))))
def tY1 (K : PySem.W.Frag) : Bool := decide (PySem.W.nsIn K mainGlobals "is_between" = some (some (.ref (He.ga K "is_between"))))
def tY2 (K : PySem.W.Frag) : Bool := decide (PySem.W.nsIn K mainGlobals "is_rule" = some (some (.ref (He.ga K "is_rule"))))
def tY3 (K : PySem.W.Frag) : Bool := decide (PySem.W.nsIn K mainGlobals "is_base" = some (some (.ref (He.ga K "is_base"))))
def tY4 (K : PySem.W.Frag) : Bool := decide (PySem.W.nsIn K mainGlobals "is_remainder" = some (some (.ref (He.ga K "is_remainder"))))
def tY5 (K : PySem.W.Frag) : Bool := decide (PySem.W.nsIn K mainGlobals "is_name" = some (some (.ref (He.ga K "is_name"))))
def tY6 (K : PySem.W.Frag) : Bool := decide (PySem.W.nsIn K mainGlobals "is_listing" = some (some (.ref (He.ga K "is_listing"))))
def tY7 (K : PySem.W.Frag) : Bool := decide (PySem.W.nsIn K mainGlobals "is_factors" = some (some (.ref (He.ga K "is_factors"))))
def tY8 (K : PySem.W.Frag) : Bool := decide (PySem.W.nsIn K mainGlobals "is_register" = some (some (.ref (He.ga K "is_register"))))
def tY9 (K : PySem.W.Frag) : Bool := decide (PySem.W.nsIn K mainGlobals "is_mode" = some (some (.ref (He.ga K "is_mode"))))
def tY10 (K : PySem.W.Frag) : Bool := decide (PySem.W.nsIn K mainGlobals "is_row" = some (some (.ref (He.ga K "is_row"))))
def tY11 (K : PySem.W.Frag) : Bool := decide (PySem.W.nsIn K mainGlobals "first_wrong" = some (some (.ref (He.ga K "first_wrong"))))
def tY12 (K : PySem.W.Frag) : Bool := decide (PySem.W.nsIn K mainGlobals "check_registers" = some (some (.ref (He.ga K "check_registers"))))
def tY13 (K : PySem.W.Frag) : Bool := decide (PySem.W.nsIn K mainGlobals "check_modes" = some (some (.ref (He.ga K "check_modes"))))
def tY14 (K : PySem.W.Frag) : Bool := decide (PySem.W.nsIn K mainGlobals "check_rows" = some (some (.ref (He.ga K "check_rows"))))
def tY15 (K : PySem.W.Frag) : Bool := decide (PySem.W.nsIn K mainGlobals "check_ends" = some (some (.ref (He.ga K "check_ends"))))
def tY16 (K : PySem.W.Frag) : Bool := decide (PySem.W.nsIn K mainGlobals "check_program" = some (some (.ref (He.ga K "check_program"))))
def tY17 (K : PySem.W.Frag) : Bool := decide (PySem.W.nsIn K mainGlobals "table_of" = some (some (.ref (He.ga K "table_of"))))
def tY18 (K : PySem.W.Frag) : Bool := decide (PySem.W.nsIn K mainGlobals "is_same" = some (some (.ref (He.ga K "is_same"))))
def tY19 (K : PySem.W.Frag) : Bool := decide (PySem.W.nsIn K mainGlobals "place_of" = some (some (.ref (He.ga K "place_of"))))
def tY20 (K : PySem.W.Frag) : Bool := decide (PySem.W.nsIn K mainGlobals "_law_pool" = some (some (.ref (He.ga K "_law_pool"))))
def tY21 (K : PySem.W.Frag) : Bool := decide (PySem.W.nsIn K mainGlobals "_law_draw" = some (some (.ref (He.ga K "_law_draw"))))
def tY22 (K : PySem.W.Frag) : Bool := decide (PySem.W.nsIn K mainGlobals "_law_choose" = some (some (.ref (He.ga K "_law_choose"))))
def tY23 (K : PySem.W.Frag) : Bool := decide (PySem.W.nsIn K mainGlobals "_law_updates" = some (some (.ref (He.ga K "_law_updates"))))
def tY24 (K : PySem.W.Frag) : Bool := decide (PySem.W.nsIn K mainGlobals "_law_then" = some (some (.ref (He.ga K "_law_then"))))
def tY25 (K : PySem.W.Frag) : Bool := decide (PySem.W.nsIn K mainGlobals "_law_rows" = some (some (.ref (He.ga K "_law_rows"))))
def tY26 (K : PySem.W.Frag) : Bool := decide (PySem.W.nsIn K mainGlobals "_law_parts" = some (some (.ref (He.ga K "_law_parts"))))
def tY27 (K : PySem.W.Frag) : Bool := decide (PySem.W.nsIn K mainGlobals "_law_told" = some (some (.ref (He.ga K "_law_told"))))
def tY28 (K : PySem.W.Frag) : Bool := decide (PySem.W.nsIn K mainGlobals "_law_bent_registers" = some (some (.ref (He.ga K "_law_bent_registers"))))
def tY29 (K : PySem.W.Frag) : Bool := decide (PySem.W.nsIn K mainGlobals "_law_bent_modes" = some (some (.ref (He.ga K "_law_bent_modes"))))
def tY30 (K : PySem.W.Frag) : Bool := decide (PySem.W.nsIn K mainGlobals "_law_bent_rows" = some (some (.ref (He.ga K "_law_bent_rows"))))
def tY31 (K : PySem.W.Frag) : Bool := decide (PySem.W.specialIn K (.builtin "object.__class__") "__get__" = some (some (.builtin "getset_descriptor.__get__")))
def tY32 (K : PySem.W.Frag) : Bool := decide (PySem.W.takesIn K (.builtin "object.__class__") = some true)
def tY33 (K : PySem.W.Frag) : Bool := decide (PySem.W.nsIn K mainGlobals "InvalidBase" = some (some (.ref (He.ga K "InvalidBase"))))
def tY34 (K : PySem.W.Frag) : Bool := decide (PySem.W.findIn K (.ref (He.ga K "InvalidBase")) "__init__" = some (some (.ref (He.ma K (He.ga K "InvalidBase") "__init__"))))
def tY35 (K : PySem.W.Frag) : Bool := decide ((PySem.W.excInitIn K (He.ga K "InvalidBase") [.type "ValueError", .type "Exception", .type "BaseException", .type "object"] "ValueError.__new__", PySem.W.excOver K (He.ga K "InvalidBase") [.type "ValueError", .type "Exception", .type "BaseException", .type "object"], PySem.W.hasDictIn K (He.ga K "InvalidBase"), PySem.W.isFn K (.ref (He.ma K (He.ga K "InvalidBase") "__init__")), PySem.W.keepIn K (.ref (He.ga K "InvalidBase"))) = (true, true, true, true, true))
def tY36 (K : PySem.W.Frag) : Bool := decide ((PySem.W.findIn K (.ref (He.ga K "InvalidBase")) "__setattr__", PySem.W.findIn K (.ref (He.ga K "InvalidBase")) "__getattribute__", PySem.W.findIn K (.ref (He.ga K "InvalidBase")) "__getattr__", PySem.W.findIn K (.ref (He.ga K "InvalidBase")) "__class__") = (some (some (.builtin "object.__setattr__")), some (some (.builtin "BaseException.__getattribute__")), some none, some (some (.builtin "object.__class__"))))
def tY37 (K : PySem.W.Frag) : Bool := decide ((PySem.W.subIn K (.ref (He.ga K "InvalidBase")) (.type "BaseException"), PySem.W.mroIn K (He.ga K "InvalidBase") (.type "object"), (PySem.W.clsIn K (He.ga K "InvalidBase")).map (·.mro), PySem.W.typeIn K (.ref (He.ga K "InvalidBase"))) = (some true, some true, some (.ref (He.ga K "InvalidBase") :: [.type "ValueError", .type "Exception", .type "BaseException", .type "object"]), some (.type "type")))
def tY38 (K : PySem.W.Frag) : Bool := decide ((["value"] : List Str).map (fun f => PySem.W.findIn K (.ref (He.ga K "InvalidBase")) f) = (["value"] : List Str).map fun _ => some none)
def tY39 (K : PySem.W.Frag) : Bool := decide (PySem.W.nsIn K mainGlobals "InvalidRegisters" = some (some (.ref (He.ga K "InvalidRegisters"))))
def tY40 (K : PySem.W.Frag) : Bool := decide (PySem.W.findIn K (.ref (He.ga K "InvalidRegisters")) "__init__" = some (some (.ref (He.ma K (He.ga K "InvalidRegisters") "__init__"))))
def tY41 (K : PySem.W.Frag) : Bool := decide ((PySem.W.excInitIn K (He.ga K "InvalidRegisters") [.type "ValueError", .type "Exception", .type "BaseException", .type "object"] "ValueError.__new__", PySem.W.excOver K (He.ga K "InvalidRegisters") [.type "ValueError", .type "Exception", .type "BaseException", .type "object"], PySem.W.hasDictIn K (He.ga K "InvalidRegisters"), PySem.W.isFn K (.ref (He.ma K (He.ga K "InvalidRegisters") "__init__")), PySem.W.keepIn K (.ref (He.ga K "InvalidRegisters"))) = (true, true, true, true, true))
def tY42 (K : PySem.W.Frag) : Bool := decide ((PySem.W.findIn K (.ref (He.ga K "InvalidRegisters")) "__setattr__", PySem.W.findIn K (.ref (He.ga K "InvalidRegisters")) "__getattribute__", PySem.W.findIn K (.ref (He.ga K "InvalidRegisters")) "__getattr__", PySem.W.findIn K (.ref (He.ga K "InvalidRegisters")) "__class__") = (some (some (.builtin "object.__setattr__")), some (some (.builtin "BaseException.__getattribute__")), some none, some (some (.builtin "object.__class__"))))
def tY43 (K : PySem.W.Frag) : Bool := decide ((PySem.W.subIn K (.ref (He.ga K "InvalidRegisters")) (.type "BaseException"), PySem.W.mroIn K (He.ga K "InvalidRegisters") (.type "object"), (PySem.W.clsIn K (He.ga K "InvalidRegisters")).map (·.mro), PySem.W.typeIn K (.ref (He.ga K "InvalidRegisters"))) = (some true, some true, some (.ref (He.ga K "InvalidRegisters") :: [.type "ValueError", .type "Exception", .type "BaseException", .type "object"]), some (.type "type")))
def tY44 (K : PySem.W.Frag) : Bool := decide ((["number"] : List Str).map (fun f => PySem.W.findIn K (.ref (He.ga K "InvalidRegisters")) f) = (["number"] : List Str).map fun _ => some none)
def tY45 (K : PySem.W.Frag) : Bool := decide (PySem.W.nsIn K mainGlobals "InvalidModes" = some (some (.ref (He.ga K "InvalidModes"))))
def tY46 (K : PySem.W.Frag) : Bool := decide (PySem.W.findIn K (.ref (He.ga K "InvalidModes")) "__init__" = some (some (.ref (He.ma K (He.ga K "InvalidModes") "__init__"))))
def tY47 (K : PySem.W.Frag) : Bool := decide ((PySem.W.excInitIn K (He.ga K "InvalidModes") [.type "ValueError", .type "Exception", .type "BaseException", .type "object"] "ValueError.__new__", PySem.W.excOver K (He.ga K "InvalidModes") [.type "ValueError", .type "Exception", .type "BaseException", .type "object"], PySem.W.hasDictIn K (He.ga K "InvalidModes"), PySem.W.isFn K (.ref (He.ma K (He.ga K "InvalidModes") "__init__")), PySem.W.keepIn K (.ref (He.ga K "InvalidModes"))) = (true, true, true, true, true))
def tY48 (K : PySem.W.Frag) : Bool := decide ((PySem.W.findIn K (.ref (He.ga K "InvalidModes")) "__setattr__", PySem.W.findIn K (.ref (He.ga K "InvalidModes")) "__getattribute__", PySem.W.findIn K (.ref (He.ga K "InvalidModes")) "__getattr__", PySem.W.findIn K (.ref (He.ga K "InvalidModes")) "__class__") = (some (some (.builtin "object.__setattr__")), some (some (.builtin "BaseException.__getattribute__")), some none, some (some (.builtin "object.__class__"))))
def tY49 (K : PySem.W.Frag) : Bool := decide ((PySem.W.subIn K (.ref (He.ga K "InvalidModes")) (.type "BaseException"), PySem.W.mroIn K (He.ga K "InvalidModes") (.type "object"), (PySem.W.clsIn K (He.ga K "InvalidModes")).map (·.mro), PySem.W.typeIn K (.ref (He.ga K "InvalidModes"))) = (some true, some true, some (.ref (He.ga K "InvalidModes") :: [.type "ValueError", .type "Exception", .type "BaseException", .type "object"]), some (.type "type")))
def tY50 (K : PySem.W.Frag) : Bool := decide ((["number"] : List Str).map (fun f => PySem.W.findIn K (.ref (He.ga K "InvalidModes")) f) = (["number"] : List Str).map fun _ => some none)
def tY51 (K : PySem.W.Frag) : Bool := decide (PySem.W.nsIn K mainGlobals "InvalidRow" = some (some (.ref (He.ga K "InvalidRow"))))
def tY52 (K : PySem.W.Frag) : Bool := decide (PySem.W.findIn K (.ref (He.ga K "InvalidRow")) "__init__" = some (some (.ref (He.ma K (He.ga K "InvalidRow") "__init__"))))
def tY53 (K : PySem.W.Frag) : Bool := decide ((PySem.W.excInitIn K (He.ga K "InvalidRow") [.type "ValueError", .type "Exception", .type "BaseException", .type "object"] "ValueError.__new__", PySem.W.excOver K (He.ga K "InvalidRow") [.type "ValueError", .type "Exception", .type "BaseException", .type "object"], PySem.W.hasDictIn K (He.ga K "InvalidRow"), PySem.W.isFn K (.ref (He.ma K (He.ga K "InvalidRow") "__init__")), PySem.W.keepIn K (.ref (He.ga K "InvalidRow"))) = (true, true, true, true, true))
def tY54 (K : PySem.W.Frag) : Bool := decide ((PySem.W.findIn K (.ref (He.ga K "InvalidRow")) "__setattr__", PySem.W.findIn K (.ref (He.ga K "InvalidRow")) "__getattribute__", PySem.W.findIn K (.ref (He.ga K "InvalidRow")) "__getattr__", PySem.W.findIn K (.ref (He.ga K "InvalidRow")) "__class__") = (some (some (.builtin "object.__setattr__")), some (some (.builtin "BaseException.__getattribute__")), some none, some (some (.builtin "object.__class__"))))
def tY55 (K : PySem.W.Frag) : Bool := decide ((PySem.W.subIn K (.ref (He.ga K "InvalidRow")) (.type "BaseException"), PySem.W.mroIn K (He.ga K "InvalidRow") (.type "object"), (PySem.W.clsIn K (He.ga K "InvalidRow")).map (·.mro), PySem.W.typeIn K (.ref (He.ga K "InvalidRow"))) = (some true, some true, some (.ref (He.ga K "InvalidRow") :: [.type "ValueError", .type "Exception", .type "BaseException", .type "object"]), some (.type "type")))
def tY56 (K : PySem.W.Frag) : Bool := decide ((["mode", "number"] : List Str).map (fun f => PySem.W.findIn K (.ref (He.ga K "InvalidRow")) f) = (["mode", "number"] : List Str).map fun _ => some none)
def tY57 (K : PySem.W.Frag) : Bool := decide (PySem.W.nsIn K mainGlobals "InvalidEnds" = some (some (.ref (He.ga K "InvalidEnds"))))
def tY58 (K : PySem.W.Frag) : Bool := decide (PySem.W.findIn K (.ref (He.ga K "InvalidEnds")) "__init__" = some (some (.ref (He.ma K (He.ga K "InvalidEnds") "__init__"))))
def tY59 (K : PySem.W.Frag) : Bool := decide ((PySem.W.excInitIn K (He.ga K "InvalidEnds") [.type "ValueError", .type "Exception", .type "BaseException", .type "object"] "ValueError.__new__", PySem.W.excOver K (He.ga K "InvalidEnds") [.type "ValueError", .type "Exception", .type "BaseException", .type "object"], PySem.W.hasDictIn K (He.ga K "InvalidEnds"), PySem.W.isFn K (.ref (He.ma K (He.ga K "InvalidEnds") "__init__")), PySem.W.keepIn K (.ref (He.ga K "InvalidEnds"))) = (true, true, true, true, true))
def tY60 (K : PySem.W.Frag) : Bool := decide ((PySem.W.findIn K (.ref (He.ga K "InvalidEnds")) "__setattr__", PySem.W.findIn K (.ref (He.ga K "InvalidEnds")) "__getattribute__", PySem.W.findIn K (.ref (He.ga K "InvalidEnds")) "__getattr__", PySem.W.findIn K (.ref (He.ga K "InvalidEnds")) "__class__") = (some (some (.builtin "object.__setattr__")), some (some (.builtin "BaseException.__getattribute__")), some none, some (some (.builtin "object.__class__"))))
def tY61 (K : PySem.W.Frag) : Bool := decide ((PySem.W.subIn K (.ref (He.ga K "InvalidEnds")) (.type "BaseException"), PySem.W.mroIn K (He.ga K "InvalidEnds") (.type "object"), (PySem.W.clsIn K (He.ga K "InvalidEnds")).map (·.mro), PySem.W.typeIn K (.ref (He.ga K "InvalidEnds"))) = (some true, some true, some (.ref (He.ga K "InvalidEnds") :: [.type "ValueError", .type "Exception", .type "BaseException", .type "object"]), some (.type "type")))
def tY62 (K : PySem.W.Frag) : Bool := decide ((["value"] : List Str).map (fun f => PySem.W.findIn K (.ref (He.ga K "InvalidEnds")) f) = (["value"] : List Str).map fun _ => some none)
def tY63 (K : PySem.W.Frag) : Bool := decide (PySem.W.nsIn K mainGlobals "InvalidResult" = some (some (.ref (He.ga K "InvalidResult"))))
def tY64 (K : PySem.W.Frag) : Bool := decide (PySem.W.findIn K (.ref (He.ga K "InvalidResult")) "__init__" = some (some (.ref (He.ma K (He.ga K "InvalidResult") "__init__"))))
def tY65 (K : PySem.W.Frag) : Bool := decide ((PySem.W.excInitIn K (He.ga K "InvalidResult") [.type "ValueError", .type "Exception", .type "BaseException", .type "object"] "ValueError.__new__", PySem.W.excOver K (He.ga K "InvalidResult") [.type "ValueError", .type "Exception", .type "BaseException", .type "object"], PySem.W.hasDictIn K (He.ga K "InvalidResult"), PySem.W.isFn K (.ref (He.ma K (He.ga K "InvalidResult") "__init__")), PySem.W.keepIn K (.ref (He.ga K "InvalidResult"))) = (true, true, true, true, true))
def tY66 (K : PySem.W.Frag) : Bool := decide ((PySem.W.findIn K (.ref (He.ga K "InvalidResult")) "__setattr__", PySem.W.findIn K (.ref (He.ga K "InvalidResult")) "__getattribute__", PySem.W.findIn K (.ref (He.ga K "InvalidResult")) "__getattr__", PySem.W.findIn K (.ref (He.ga K "InvalidResult")) "__class__") = (some (some (.builtin "object.__setattr__")), some (some (.builtin "BaseException.__getattribute__")), some none, some (some (.builtin "object.__class__"))))
def tY67 (K : PySem.W.Frag) : Bool := decide ((PySem.W.subIn K (.ref (He.ga K "InvalidResult")) (.type "BaseException"), PySem.W.mroIn K (He.ga K "InvalidResult") (.type "object"), (PySem.W.clsIn K (He.ga K "InvalidResult")).map (·.mro), PySem.W.typeIn K (.ref (He.ga K "InvalidResult"))) = (some true, some true, some (.ref (He.ga K "InvalidResult") :: [.type "ValueError", .type "Exception", .type "BaseException", .type "object"]), some (.type "type")))
def tY68 (K : PySem.W.Frag) : Bool := decide ((["value"] : List Str).map (fun f => PySem.W.findIn K (.ref (He.ga K "InvalidResult")) f) = (["value"] : List Str).map fun _ => some none)
def tY69 (K : PySem.W.Frag) : Bool := decide (PySem.W.nsIn K mainGlobals "UnknownName" = some (some (.ref (He.ga K "UnknownName"))))
def tY70 (K : PySem.W.Frag) : Bool := decide (PySem.W.findIn K (.ref (He.ga K "UnknownName")) "__init__" = some (some (.ref (He.ma K (He.ga K "UnknownName") "__init__"))))
def tY71 (K : PySem.W.Frag) : Bool := decide ((PySem.W.excInitIn K (He.ga K "UnknownName") [.type "LookupError", .type "Exception", .type "BaseException", .type "object"] "LookupError.__new__", PySem.W.excOver K (He.ga K "UnknownName") [.type "LookupError", .type "Exception", .type "BaseException", .type "object"], PySem.W.hasDictIn K (He.ga K "UnknownName"), PySem.W.isFn K (.ref (He.ma K (He.ga K "UnknownName") "__init__")), PySem.W.keepIn K (.ref (He.ga K "UnknownName"))) = (true, true, true, true, true))
def tY72 (K : PySem.W.Frag) : Bool := decide ((PySem.W.findIn K (.ref (He.ga K "UnknownName")) "__setattr__", PySem.W.findIn K (.ref (He.ga K "UnknownName")) "__getattribute__", PySem.W.findIn K (.ref (He.ga K "UnknownName")) "__getattr__", PySem.W.findIn K (.ref (He.ga K "UnknownName")) "__class__") = (some (some (.builtin "object.__setattr__")), some (some (.builtin "BaseException.__getattribute__")), some none, some (some (.builtin "object.__class__"))))
def tY73 (K : PySem.W.Frag) : Bool := decide ((PySem.W.subIn K (.ref (He.ga K "UnknownName")) (.type "BaseException"), PySem.W.mroIn K (He.ga K "UnknownName") (.type "object"), (PySem.W.clsIn K (He.ga K "UnknownName")).map (·.mro), PySem.W.typeIn K (.ref (He.ga K "UnknownName"))) = (some true, some true, some (.ref (He.ga K "UnknownName") :: [.type "LookupError", .type "Exception", .type "BaseException", .type "object"]), some (.type "type")))
def tY74 (K : PySem.W.Frag) : Bool := decide ((["value"] : List Str).map (fun f => PySem.W.findIn K (.ref (He.ga K "UnknownName")) f) = (["value"] : List Str).map fun _ => some none)
def tY75 (K : PySem.W.Frag) : Bool := decide (PySem.W.nsIn K mainGlobals "InvalidSign" = some (some (.ref (He.ga K "InvalidSign"))))
def tY76 (K : PySem.W.Frag) : Bool := decide (PySem.W.findIn K (.ref (He.ga K "InvalidSign")) "__init__" = some (some (.ref (He.ma K (He.ga K "InvalidSign") "__init__"))))
def tY77 (K : PySem.W.Frag) : Bool := decide ((PySem.W.excInitIn K (He.ga K "InvalidSign") [.type "ValueError", .type "Exception", .type "BaseException", .type "object"] "ValueError.__new__", PySem.W.excOver K (He.ga K "InvalidSign") [.type "ValueError", .type "Exception", .type "BaseException", .type "object"], PySem.W.hasDictIn K (He.ga K "InvalidSign"), PySem.W.isFn K (.ref (He.ma K (He.ga K "InvalidSign") "__init__")), PySem.W.keepIn K (.ref (He.ga K "InvalidSign"))) = (true, true, true, true, true))
def tY78 (K : PySem.W.Frag) : Bool := decide ((PySem.W.findIn K (.ref (He.ga K "InvalidSign")) "__setattr__", PySem.W.findIn K (.ref (He.ga K "InvalidSign")) "__getattribute__", PySem.W.findIn K (.ref (He.ga K "InvalidSign")) "__getattr__", PySem.W.findIn K (.ref (He.ga K "InvalidSign")) "__class__") = (some (some (.builtin "object.__setattr__")), some (some (.builtin "BaseException.__getattribute__")), some none, some (some (.builtin "object.__class__"))))
def tY79 (K : PySem.W.Frag) : Bool := decide ((PySem.W.subIn K (.ref (He.ga K "InvalidSign")) (.type "BaseException"), PySem.W.mroIn K (He.ga K "InvalidSign") (.type "object"), (PySem.W.clsIn K (He.ga K "InvalidSign")).map (·.mro), PySem.W.typeIn K (.ref (He.ga K "InvalidSign"))) = (some true, some true, some (.ref (He.ga K "InvalidSign") :: [.type "ValueError", .type "Exception", .type "BaseException", .type "object"]), some (.type "type")))
def tY80 (K : PySem.W.Frag) : Bool := decide ((["value"] : List Str).map (fun f => PySem.W.findIn K (.ref (He.ga K "InvalidSign")) f) = (["value"] : List Str).map fun _ => some none)
def tY81 (K : PySem.W.Frag) : Bool := decide (PySem.W.nsIn K mainGlobals "InvalidNumber" = some (some (.ref (He.ga K "InvalidNumber"))))
def tY82 (K : PySem.W.Frag) : Bool := decide (PySem.W.findIn K (.ref (He.ga K "InvalidNumber")) "__init__" = some (some (.ref (He.ma K (He.ga K "InvalidNumber") "__init__"))))
def tY83 (K : PySem.W.Frag) : Bool := decide ((PySem.W.excInitIn K (He.ga K "InvalidNumber") [.type "ValueError", .type "Exception", .type "BaseException", .type "object"] "ValueError.__new__", PySem.W.excOver K (He.ga K "InvalidNumber") [.type "ValueError", .type "Exception", .type "BaseException", .type "object"], PySem.W.hasDictIn K (He.ga K "InvalidNumber"), PySem.W.isFn K (.ref (He.ma K (He.ga K "InvalidNumber") "__init__")), PySem.W.keepIn K (.ref (He.ga K "InvalidNumber"))) = (true, true, true, true, true))
def tY84 (K : PySem.W.Frag) : Bool := decide ((PySem.W.findIn K (.ref (He.ga K "InvalidNumber")) "__setattr__", PySem.W.findIn K (.ref (He.ga K "InvalidNumber")) "__getattribute__", PySem.W.findIn K (.ref (He.ga K "InvalidNumber")) "__getattr__", PySem.W.findIn K (.ref (He.ga K "InvalidNumber")) "__class__") = (some (some (.builtin "object.__setattr__")), some (some (.builtin "BaseException.__getattribute__")), some none, some (some (.builtin "object.__class__"))))
def tY85 (K : PySem.W.Frag) : Bool := decide ((PySem.W.subIn K (.ref (He.ga K "InvalidNumber")) (.type "BaseException"), PySem.W.mroIn K (He.ga K "InvalidNumber") (.type "object"), (PySem.W.clsIn K (He.ga K "InvalidNumber")).map (·.mro), PySem.W.typeIn K (.ref (He.ga K "InvalidNumber"))) = (some true, some true, some (.ref (He.ga K "InvalidNumber") :: [.type "ValueError", .type "Exception", .type "BaseException", .type "object"]), some (.type "type")))
def tY86 (K : PySem.W.Frag) : Bool := decide ((["value"] : List Str).map (fun f => PySem.W.findIn K (.ref (He.ga K "InvalidNumber")) f) = (["value"] : List Str).map fun _ => some none)
def tY87 (K : PySem.W.Frag) : Bool := decide (PySem.W.nsIn K mainGlobals "InvalidRule" = some (some (.ref (He.ga K "InvalidRule"))))
def tY88 (K : PySem.W.Frag) : Bool := decide (PySem.W.findIn K (.ref (He.ga K "InvalidRule")) "__init__" = some (some (.ref (He.ma K (He.ga K "InvalidRule") "__init__"))))
def tY89 (K : PySem.W.Frag) : Bool := decide ((PySem.W.excInitIn K (He.ga K "InvalidRule") [.type "ValueError", .type "Exception", .type "BaseException", .type "object"] "ValueError.__new__", PySem.W.excOver K (He.ga K "InvalidRule") [.type "ValueError", .type "Exception", .type "BaseException", .type "object"], PySem.W.hasDictIn K (He.ga K "InvalidRule"), PySem.W.isFn K (.ref (He.ma K (He.ga K "InvalidRule") "__init__")), PySem.W.keepIn K (.ref (He.ga K "InvalidRule"))) = (true, true, true, true, true))
def tY90 (K : PySem.W.Frag) : Bool := decide ((PySem.W.findIn K (.ref (He.ga K "InvalidRule")) "__setattr__", PySem.W.findIn K (.ref (He.ga K "InvalidRule")) "__getattribute__", PySem.W.findIn K (.ref (He.ga K "InvalidRule")) "__getattr__", PySem.W.findIn K (.ref (He.ga K "InvalidRule")) "__class__") = (some (some (.builtin "object.__setattr__")), some (some (.builtin "BaseException.__getattribute__")), some none, some (some (.builtin "object.__class__"))))
def tY91 (K : PySem.W.Frag) : Bool := decide ((PySem.W.subIn K (.ref (He.ga K "InvalidRule")) (.type "BaseException"), PySem.W.mroIn K (He.ga K "InvalidRule") (.type "object"), (PySem.W.clsIn K (He.ga K "InvalidRule")).map (·.mro), PySem.W.typeIn K (.ref (He.ga K "InvalidRule"))) = (some true, some true, some (.ref (He.ga K "InvalidRule") :: [.type "ValueError", .type "Exception", .type "BaseException", .type "object"]), some (.type "type")))
def tY92 (K : PySem.W.Frag) : Bool := decide ((["value"] : List Str).map (fun f => PySem.W.findIn K (.ref (He.ga K "InvalidRule")) f) = (["value"] : List Str).map fun _ => some none)
def tY93 (K : PySem.W.Frag) : Bool := decide (PySem.W.nsIn K mainGlobals "law" = some (some (.ref (He.ga K "law"))))
def tY94 (K : PySem.W.Frag) : Bool := decide (PySem.W.nsIn K mainGlobals "_law_doors_right" = some (some (.ref (He.ga K "_law_doors_right"))))
def tY95 (K : PySem.W.Frag) : Bool := decide (PySem.W.nsIn K mainGlobals "_law_bent" = some (some (.ref (He.ga K "_law_bent"))))
def tY96 (K : PySem.W.Frag) : Bool := decide (PySem.W.nsIn K mainGlobals "Program" = some (some (.ref (He.ga K "Program"))))
def tY97 (K : PySem.W.Frag) : Bool := decide ((PySem.W.plainGet K (He.ga K "Program") Str.empty, PySem.W.hasDictIn K (He.ga K "Program"), PySem.W.plainOver K (He.ga K "Program")) = (true, true, true))
def tY98 (K : PySem.W.Frag) : Bool := decide (PySem.W.findIn K (.ref (He.ga K "Program")) "__setattr__" = some (some (.builtin "object.__setattr__")))
def tY99 (K : PySem.W.Frag) : Bool := decide ((["_base", "_registers", "_modes", "_ends", "_result", "_tables"] : List Str).map (fun f => PySem.W.findIn K (.ref (He.ga K "Program")) f) = (["_base", "_registers", "_modes", "_ends", "_result", "_tables"] : List Str).map fun _ => some none)
def tY100 (K : PySem.W.Frag) : Bool := decide (PySem.W.findIn K (.ref (He.ga K "Program")) "__init__" = some (some (.ref (He.ma K (He.ga K "Program") "__init__"))))
def tY101 (K : PySem.W.Frag) : Bool := decide (PySem.W.makesIn K (He.ga K "Program") = true)
def tY102 (K : PySem.W.Frag) : Bool := decide (PySem.W.isFn K (.ref (He.ma K (He.ga K "Program") "__init__")) = true)
def tY103 (K : PySem.W.Frag) : Bool := decide (PySem.W.keepIn K (.ref (He.ga K "Program")) = true)
def tY104 (K : PySem.W.Frag) : Bool := decide (PySem.W.findIn K (.ref (He.ga K "Program")) "size" = some (some (.ref (He.ma K (He.ga K "Program") "size"))))
def tY105 (K : PySem.W.Frag) : Bool := decide (PySem.W.specialIn K (.ref (He.ma K (He.ga K "Program") "size")) "__get__" = some (some (.builtin "property.__get__")))
def tY106 (K : PySem.W.Frag) : Bool := decide (PySem.W.takesIn K (.ref (He.ma K (He.ga K "Program") "size")) = some true)
def tY107 (K : PySem.W.Frag) : Bool := gB K (He.ma K (He.ga K "Program") "size")
def tY108 (K : PySem.W.Frag) : Bool := decide (PySem.W.findIn K (.ref (He.ga K "Program")) "_mode" = some (some (.ref (He.ma K (He.ga K "Program") "_mode"))))
def tY109 (K : PySem.W.Frag) : Bool := decide (PySem.W.isFn K (.ref (He.ma K (He.ga K "Program") "_mode")) = true)
def tY110 (K : PySem.W.Frag) : Bool := decide (PySem.W.findIn K (.ref (He.ga K "Program")) "rule_of" = some (some (.ref (He.ma K (He.ga K "Program") "rule_of"))))
def tY111 (K : PySem.W.Frag) : Bool := decide (PySem.W.isFn K (.ref (He.ma K (He.ga K "Program") "rule_of")) = true)
def tY112 (K : PySem.W.Frag) : Bool := decide (PySem.W.findIn K (.ref (He.ga K "Program")) "rows_of" = some (some (.ref (He.ma K (He.ga K "Program") "rows_of"))))
def tY113 (K : PySem.W.Frag) : Bool := decide (PySem.W.isFn K (.ref (He.ma K (He.ga K "Program") "rows_of")) = true)
def tY114 (K : PySem.W.Frag) : Bool := decide (PySem.W.findIn K (.ref (He.ga K "Program")) "with_rule" = some (some (.ref (He.ma K (He.ga K "Program") "with_rule"))))
def tY115 (K : PySem.W.Frag) : Bool := decide (PySem.W.isFn K (.ref (He.ma K (He.ga K "Program") "with_rule")) = true)
def tY116 (K : PySem.W.Frag) : Bool := decide (PySem.W.findIn K (.ref (He.ga K "Program")) "under" = some (some (.ref (He.ma K (He.ga K "Program") "under"))))
def tY117 (K : PySem.W.Frag) : Bool := decide (PySem.W.isFn K (.ref (He.ma K (He.ga K "Program") "under")) = true)
def tY118 (K : PySem.W.Frag) : Bool := decide (PySem.W.findIn K (.ref (He.ga K "Program")) "with_row" = some (some (.ref (He.ma K (He.ga K "Program") "with_row"))))
def tY119 (K : PySem.W.Frag) : Bool := decide (PySem.W.isFn K (.ref (He.ma K (He.ga K "Program") "with_row")) = true)
def tY120 (K : PySem.W.Frag) : Bool := decide (PySem.W.findIn K (.ref (He.ga K "Program")) "_with_mode" = some (some (.ref (He.ma K (He.ga K "Program") "_with_mode"))))
def tY121 (K : PySem.W.Frag) : Bool := decide (PySem.W.isFn K (.ref (He.ma K (He.ga K "Program") "_with_mode")) = true)
def tY122 (K : PySem.W.Frag) : Bool := decide (PySem.W.findIn K (.ref (He.ga K "Program")) "__getitem__" = some (some (.ref (He.ma K (He.ga K "Program") "__getitem__"))))
def tY123 (K : PySem.W.Frag) : Bool := decide (PySem.W.isFn K (.ref (He.ma K (He.ga K "Program") "__getitem__")) = true)
def tY124 (K : PySem.W.Frag) : Bool := decide (PySem.W.fnIn K (He.ma K (He.ga K "Program") "__getitem__") = true)
def tY125 (K : PySem.W.Frag) : Bool := decide (PySem.W.nsIn K mainGlobals "RULES" = some (some (.ref (He.ga K "RULES"))))
def tY126 (K : PySem.W.Frag) : Bool := tupY K (He.ga K "RULES") ([V.str "down", V.str "up", V.str "zero", V.str "positive", V.str "near"])
def tY127 (K : PySem.W.Frag) : Bool := intB K "LARGEST" 1000000
def tY128 (K : PySem.W.Frag) : Bool := strB K "LETTERS" "abcdefghijklmnopqrstuvwxyz"
def tY129 (K : PySem.W.Frag) : Bool := decide (PySem.W.exmOne K (.ref (He.ga K "InvalidBase")) (.ref (He.ga K "InvalidBase")) = some true)
def tY130 (K : PySem.W.Frag) : Bool := decide (PySem.W.exmOne K (.ref (He.ga K "InvalidRegisters")) (.ref (He.ga K "InvalidBase")) = some false)
def tY131 (K : PySem.W.Frag) : Bool := decide (PySem.W.exmOne K (.ref (He.ga K "InvalidRegisters")) (.ref (He.ga K "InvalidRegisters")) = some true)
def tY132 (K : PySem.W.Frag) : Bool := decide (PySem.W.exmOne K (.ref (He.ga K "InvalidModes")) (.ref (He.ga K "InvalidBase")) = some false)
def tY133 (K : PySem.W.Frag) : Bool := decide (PySem.W.exmOne K (.ref (He.ga K "InvalidModes")) (.ref (He.ga K "InvalidRegisters")) = some false)
def tY134 (K : PySem.W.Frag) : Bool := decide (PySem.W.exmOne K (.ref (He.ga K "InvalidModes")) (.ref (He.ga K "InvalidModes")) = some true)
def tY135 (K : PySem.W.Frag) : Bool := decide (PySem.W.exmOne K (.ref (He.ga K "InvalidRow")) (.ref (He.ga K "InvalidBase")) = some false)
def tY136 (K : PySem.W.Frag) : Bool := decide (PySem.W.exmOne K (.ref (He.ga K "InvalidRow")) (.ref (He.ga K "InvalidRegisters")) = some false)
def tY137 (K : PySem.W.Frag) : Bool := decide (PySem.W.exmOne K (.ref (He.ga K "InvalidRow")) (.ref (He.ga K "InvalidModes")) = some false)
def tY138 (K : PySem.W.Frag) : Bool := decide (PySem.W.exmOne K (.ref (He.ga K "InvalidRow")) (.ref (He.ga K "InvalidRow")) = some true)
def tY139 (K : PySem.W.Frag) : Bool := decide (PySem.W.exmOne K (.ref (He.ga K "InvalidEnds")) (.ref (He.ga K "InvalidBase")) = some false)
def tY140 (K : PySem.W.Frag) : Bool := decide (PySem.W.exmOne K (.ref (He.ga K "InvalidEnds")) (.ref (He.ga K "InvalidRegisters")) = some false)
def tY141 (K : PySem.W.Frag) : Bool := decide (PySem.W.exmOne K (.ref (He.ga K "InvalidEnds")) (.ref (He.ga K "InvalidModes")) = some false)
def tY142 (K : PySem.W.Frag) : Bool := decide (PySem.W.exmOne K (.ref (He.ga K "InvalidEnds")) (.ref (He.ga K "InvalidRow")) = some false)
def tY143 (K : PySem.W.Frag) : Bool := decide (PySem.W.exmOne K (.ref (He.ga K "InvalidEnds")) (.ref (He.ga K "InvalidEnds")) = some true)
def tY144 (K : PySem.W.Frag) : Bool := decide (PySem.W.exmOne K (.ref (He.ga K "InvalidResult")) (.ref (He.ga K "InvalidBase")) = some false)
def tY145 (K : PySem.W.Frag) : Bool := decide (PySem.W.exmOne K (.ref (He.ga K "InvalidResult")) (.ref (He.ga K "InvalidRegisters")) = some false)
def tY146 (K : PySem.W.Frag) : Bool := decide (PySem.W.exmOne K (.ref (He.ga K "InvalidResult")) (.ref (He.ga K "InvalidModes")) = some false)
def tY147 (K : PySem.W.Frag) : Bool := decide (PySem.W.exmOne K (.ref (He.ga K "InvalidResult")) (.ref (He.ga K "InvalidRow")) = some false)
def tY148 (K : PySem.W.Frag) : Bool := decide (PySem.W.exmOne K (.ref (He.ga K "InvalidResult")) (.ref (He.ga K "InvalidEnds")) = some false)
def tY149 (K : PySem.W.Frag) : Bool := decide (PySem.W.exmOne K (.ref (He.ga K "InvalidResult")) (.ref (He.ga K "InvalidResult")) = some true)
def tY150 (K : PySem.W.Frag) : Bool := decide (PySem.W.exmOne K (.ref (He.ga K "UnknownName")) (.ref (He.ga K "InvalidBase")) = some false)
def tY151 (K : PySem.W.Frag) : Bool := decide (PySem.W.exmOne K (.ref (He.ga K "UnknownName")) (.ref (He.ga K "InvalidRegisters")) = some false)
def tY152 (K : PySem.W.Frag) : Bool := decide (PySem.W.exmOne K (.ref (He.ga K "UnknownName")) (.ref (He.ga K "InvalidModes")) = some false)
def tY153 (K : PySem.W.Frag) : Bool := decide (PySem.W.exmOne K (.ref (He.ga K "UnknownName")) (.ref (He.ga K "InvalidRow")) = some false)
def tY154 (K : PySem.W.Frag) : Bool := decide (PySem.W.exmOne K (.ref (He.ga K "UnknownName")) (.ref (He.ga K "InvalidEnds")) = some false)
def tY155 (K : PySem.W.Frag) : Bool := decide (PySem.W.exmOne K (.ref (He.ga K "UnknownName")) (.ref (He.ga K "InvalidResult")) = some false)
def tY156 (K : PySem.W.Frag) : Bool := decide (PySem.W.exmOne K (.ref (He.ga K "UnknownName")) (.ref (He.ga K "UnknownName")) = some true)
def tY157 (K : PySem.W.Frag) : Bool := decide (PySem.W.exmOne K (.ref (He.ga K "InvalidSign")) (.ref (He.ga K "InvalidBase")) = some false)
def tY158 (K : PySem.W.Frag) : Bool := decide (PySem.W.exmOne K (.ref (He.ga K "InvalidSign")) (.ref (He.ga K "InvalidRegisters")) = some false)
def tY159 (K : PySem.W.Frag) : Bool := decide (PySem.W.exmOne K (.ref (He.ga K "InvalidSign")) (.ref (He.ga K "InvalidModes")) = some false)
def tY160 (K : PySem.W.Frag) : Bool := decide (PySem.W.exmOne K (.ref (He.ga K "InvalidSign")) (.ref (He.ga K "InvalidRow")) = some false)
def tY161 (K : PySem.W.Frag) : Bool := decide (PySem.W.exmOne K (.ref (He.ga K "InvalidSign")) (.ref (He.ga K "InvalidEnds")) = some false)
def tY162 (K : PySem.W.Frag) : Bool := decide (PySem.W.exmOne K (.ref (He.ga K "InvalidSign")) (.ref (He.ga K "InvalidResult")) = some false)
def tY163 (K : PySem.W.Frag) : Bool := decide (PySem.W.exmOne K (.ref (He.ga K "InvalidSign")) (.ref (He.ga K "UnknownName")) = some false)
def tY164 (K : PySem.W.Frag) : Bool := decide (PySem.W.exmOne K (.ref (He.ga K "InvalidSign")) (.ref (He.ga K "InvalidSign")) = some true)
def tY165 (K : PySem.W.Frag) : Bool := decide (PySem.W.exmOne K (.ref (He.ga K "InvalidNumber")) (.ref (He.ga K "InvalidBase")) = some false)
def tY166 (K : PySem.W.Frag) : Bool := decide (PySem.W.exmOne K (.ref (He.ga K "InvalidNumber")) (.ref (He.ga K "InvalidRegisters")) = some false)
def tY167 (K : PySem.W.Frag) : Bool := decide (PySem.W.exmOne K (.ref (He.ga K "InvalidNumber")) (.ref (He.ga K "InvalidModes")) = some false)
def tY168 (K : PySem.W.Frag) : Bool := decide (PySem.W.exmOne K (.ref (He.ga K "InvalidNumber")) (.ref (He.ga K "InvalidRow")) = some false)
def tY169 (K : PySem.W.Frag) : Bool := decide (PySem.W.exmOne K (.ref (He.ga K "InvalidNumber")) (.ref (He.ga K "InvalidEnds")) = some false)
def tY170 (K : PySem.W.Frag) : Bool := decide (PySem.W.exmOne K (.ref (He.ga K "InvalidNumber")) (.ref (He.ga K "InvalidResult")) = some false)
def tY171 (K : PySem.W.Frag) : Bool := decide (PySem.W.exmOne K (.ref (He.ga K "InvalidNumber")) (.ref (He.ga K "UnknownName")) = some false)
def tY172 (K : PySem.W.Frag) : Bool := decide (PySem.W.exmOne K (.ref (He.ga K "InvalidNumber")) (.ref (He.ga K "InvalidSign")) = some false)
def tY173 (K : PySem.W.Frag) : Bool := decide (PySem.W.exmOne K (.ref (He.ga K "InvalidNumber")) (.ref (He.ga K "InvalidNumber")) = some true)
def tY174 (K : PySem.W.Frag) : Bool := decide (PySem.W.exmOne K (.ref (He.ga K "InvalidRule")) (.ref (He.ga K "InvalidBase")) = some false)
def tY175 (K : PySem.W.Frag) : Bool := decide (PySem.W.exmOne K (.ref (He.ga K "InvalidRule")) (.ref (He.ga K "InvalidRegisters")) = some false)
def tY176 (K : PySem.W.Frag) : Bool := decide (PySem.W.exmOne K (.ref (He.ga K "InvalidRule")) (.ref (He.ga K "InvalidModes")) = some false)
def tY177 (K : PySem.W.Frag) : Bool := decide (PySem.W.exmOne K (.ref (He.ga K "InvalidRule")) (.ref (He.ga K "InvalidRow")) = some false)
def tY178 (K : PySem.W.Frag) : Bool := decide (PySem.W.exmOne K (.ref (He.ga K "InvalidRule")) (.ref (He.ga K "InvalidEnds")) = some false)
def tY179 (K : PySem.W.Frag) : Bool := decide (PySem.W.exmOne K (.ref (He.ga K "InvalidRule")) (.ref (He.ga K "InvalidResult")) = some false)
def tY180 (K : PySem.W.Frag) : Bool := decide (PySem.W.exmOne K (.ref (He.ga K "InvalidRule")) (.ref (He.ga K "UnknownName")) = some false)
def tY181 (K : PySem.W.Frag) : Bool := decide (PySem.W.exmOne K (.ref (He.ga K "InvalidRule")) (.ref (He.ga K "InvalidSign")) = some false)
def tY182 (K : PySem.W.Frag) : Bool := decide (PySem.W.exmOne K (.ref (He.ga K "InvalidRule")) (.ref (He.ga K "InvalidNumber")) = some false)
def tY183 (K : PySem.W.Frag) : Bool := decide (PySem.W.exmOne K (.ref (He.ga K "InvalidRule")) (.ref (He.ga K "InvalidRule")) = some true)
def tY184 (K : PySem.W.Frag) : Bool := decide (tabP K (vfY_L K) ≠ tabP K (vfY_V K))
def tY185 (K : PySem.W.Frag) : Bool := decide (PySem.W.nsIn K mainGlobals "isinstance" = some none)
def tY186 (K : PySem.W.Frag) : Bool := decide (PySem.W.nsIn K mainGlobals "int" = some none)
def tY187 (K : PySem.W.Frag) : Bool := decide (PySem.W.nsIn K mainGlobals "bool" = some none)
def tY188 (K : PySem.W.Frag) : Bool := decide (PySem.W.nsIn K mainGlobals "str" = some none)
def tY189 (K : PySem.W.Frag) : Bool := decide (PySem.W.nsIn K mainGlobals "abs" = some none)
def tY190 (K : PySem.W.Frag) : Bool := decide (PySem.W.nsIn K mainGlobals "len" = some none)
def tY191 (K : PySem.W.Frag) : Bool := decide (PySem.W.nsIn K mainGlobals "list" = some none)
def tY192 (K : PySem.W.Frag) : Bool := decide (PySem.W.nsIn K mainGlobals "tuple" = some none)
def tY193 (K : PySem.W.Frag) : Bool := decide (PySem.W.nsIn K mainGlobals "range" = some none)
def tY194 (K : PySem.W.Frag) : Bool := decide (PySem.W.nsIn K mainGlobals "enumerate" = some none)
def tY195 (K : PySem.W.Frag) : Bool := decide (PySem.W.nsIn K mainGlobals "all" = some none)
def tY196 (K : PySem.W.Frag) : Bool := decide (PySem.W.nsIn K mainGlobals "max" = some none)
def tY197 (K : PySem.W.Frag) : Bool := decide (PySem.W.nsIn K mainGlobals "min" = some none)
def tY198 (K : PySem.W.Frag) : Bool := decide (PySem.W.nsIn K mainGlobals "repr" = some none)
def dY0 : DefY := ⟨fun K => (He.ga K "is_integer"), "is_integer", "is_integer", [], (top 17)⟩
def dY1 : DefY := ⟨fun K => (He.ga K "is_between"), "is_between", "is_between", [], (top 18)⟩
def dY2 : DefY := ⟨fun K => (He.ga K "is_rule"), "is_rule", "is_rule", [], (top 19)⟩
def dY3 : DefY := ⟨fun K => (He.ga K "is_base"), "is_base", "is_base", [], (top 20)⟩
def dY4 : DefY := ⟨fun K => (He.ga K "is_remainder"), "is_remainder", "is_remainder", [], (top 21)⟩
def dY5 : DefY := ⟨fun K => (He.ga K "is_name"), "is_name", "is_name", [], (top 22)⟩
def dY6 : DefY := ⟨fun K => (He.ga K "is_listing"), "is_listing", "is_listing", [], (top 23)⟩
def dY7 : DefY := ⟨fun K => (He.ga K "is_factors"), "is_factors", "is_factors", [], (top 24)⟩
def dY8 : DefY := ⟨fun K => (He.ga K "is_register"), "is_register", "is_register", [], (top 25)⟩
def dY9 : DefY := ⟨fun K => (He.ga K "is_mode"), "is_mode", "is_mode", [], (top 26)⟩
def dY10 : DefY := ⟨fun K => (He.ga K "is_row"), "is_row", "is_row", [], (top 27)⟩
def dY11 : DefY := ⟨fun K => (He.ga K "first_wrong"), "first_wrong", "first_wrong", [], (top 28)⟩
def dY12 : DefY := ⟨fun K => (He.ga K "check_registers"), "check_registers", "check_registers", [], (top 29)⟩
def dY13 : DefY := ⟨fun K => (He.ga K "check_modes"), "check_modes", "check_modes", [], (top 30)⟩
def dY14 : DefY := ⟨fun K => (He.ga K "check_rows"), "check_rows", "check_rows", [], (top 31)⟩
def dY15 : DefY := ⟨fun K => (He.ga K "check_ends"), "check_ends", "check_ends", [], (top 32)⟩
def dY16 : DefY := ⟨fun K => (He.ga K "check_program"), "check_program", "check_program", [], (top 33)⟩
def dY17 : DefY := ⟨fun K => (He.ga K "table_of"), "table_of", "table_of", [], (top 38)⟩
def dY18 : DefY := ⟨fun K => (He.ga K "is_same"), "is_same", "is_same", [], (top 39)⟩
def dY19 : DefY := ⟨fun K => (He.ga K "place_of"), "place_of", "place_of", [], (top 40)⟩
def dY20 : DefY := ⟨fun K => (He.ga K "_law_pool"), "_law_pool", "_law_pool", [], (top 51)⟩
def dY21 : DefY := ⟨fun K => (He.ga K "_law_draw"), "_law_draw", "_law_draw", [], (top 52)⟩
def dY22 : DefY := ⟨fun K => (He.ga K "_law_choose"), "_law_choose", "_law_choose", [], (top 53)⟩
def dY23 : DefY := ⟨fun K => (He.ga K "_law_updates"), "_law_updates", "_law_updates", [], (top 54)⟩
def dY24 : DefY := ⟨fun K => (He.ga K "_law_then"), "_law_then", "_law_then", [], (top 55)⟩
def dY25 : DefY := ⟨fun K => (He.ga K "_law_rows"), "_law_rows", "_law_rows", [], (top 56)⟩
def dY26 : DefY := ⟨fun K => (He.ga K "_law_parts"), "_law_parts", "_law_parts", [], (top 57)⟩
def dY27 : DefY := ⟨fun K => (He.ga K "_law_told"), "_law_told", "_law_told", [], (top 59)⟩
def dY28 : DefY := ⟨fun K => (He.ga K "_law_bent_registers"), "_law_bent_registers", "_law_bent_registers", [], (top 60)⟩
def dY29 : DefY := ⟨fun K => (He.ga K "_law_bent_modes"), "_law_bent_modes", "_law_bent_modes", [], (top 61)⟩
def dY30 : DefY := ⟨fun K => (He.ga K "_law_bent_rows"), "_law_bent_rows", "_law_bent_rows", [], (top 62)⟩
def dY31 : DefY := ⟨fun K => (He.ma K (He.ga K "InvalidBase") "__init__"), "__init__", "InvalidBase.__init__", [], (inClass (top 4) 0)⟩
def dY32 : DefY := ⟨fun K => (He.ma K (He.ga K "InvalidRegisters") "__init__"), "__init__", "InvalidRegisters.__init__", [], (inClass (top 5) 0)⟩
def dY33 : DefY := ⟨fun K => (He.ma K (He.ga K "InvalidModes") "__init__"), "__init__", "InvalidModes.__init__", [], (inClass (top 6) 0)⟩
def dY34 : DefY := ⟨fun K => (He.ma K (He.ga K "InvalidRow") "__init__"), "__init__", "InvalidRow.__init__", [], (inClass (top 7) 0)⟩
def dY35 : DefY := ⟨fun K => (He.ma K (He.ga K "InvalidEnds") "__init__"), "__init__", "InvalidEnds.__init__", [], (inClass (top 8) 0)⟩
def dY36 : DefY := ⟨fun K => (He.ma K (He.ga K "InvalidResult") "__init__"), "__init__", "InvalidResult.__init__", [], (inClass (top 9) 0)⟩
def dY37 : DefY := ⟨fun K => (He.ma K (He.ga K "UnknownName") "__init__"), "__init__", "UnknownName.__init__", [], (inClass (top 11) 0)⟩
def dY38 : DefY := ⟨fun K => (He.ma K (He.ga K "InvalidSign") "__init__"), "__init__", "InvalidSign.__init__", [], (inClass (top 10) 0)⟩
def dY39 : DefY := ⟨fun K => (He.ma K (He.ga K "InvalidNumber") "__init__"), "__init__", "InvalidNumber.__init__", [], (inClass (top 3) 0)⟩
def dY40 : DefY := ⟨fun K => (He.ma K (He.ga K "InvalidRule") "__init__"), "__init__", "InvalidRule.__init__", [], (inClass (top 2) 0)⟩
def dY41 : DefY := ⟨fun K => (He.ma K (He.ga K "Program") "__init__"), "__init__", "Program.__init__", [], (inClass (top 41) 0)⟩
def dY42 : DefY := ⟨fun K => (gA K (He.ma K (He.ga K "Program") "size")), "size", "Program.size", [], (inClass (top 41) 2)⟩
def dY43 : DefY := ⟨fun K => (He.ma K (He.ga K "Program") "_mode"), "_mode", "Program._mode", [], (inClass (top 41) 9)⟩
def dY44 : DefY := ⟨fun K => (He.ma K (He.ga K "Program") "rule_of"), "rule_of", "Program.rule_of", [], (inClass (top 41) 7)⟩
def dY45 : DefY := ⟨fun K => (He.ma K (He.ga K "Program") "rows_of"), "rows_of", "Program.rows_of", [], (inClass (top 41) 8)⟩
def dY46 : DefY := ⟨fun K => (He.ma K (He.ga K "Program") "with_rule"), "with_rule", "Program.with_rule", [], (inClass (top 41) 14)⟩
def dY47 : DefY := ⟨fun K => (He.ma K (He.ga K "Program") "under"), "under", "Program.under", [], (inClass (top 41) 15)⟩
def dY48 : DefY := ⟨fun K => (He.ma K (He.ga K "Program") "with_row"), "with_row", "Program.with_row", [], (inClass (top 41) 16)⟩
def dY49 : DefY := ⟨fun K => (He.ma K (He.ga K "Program") "_with_mode"), "_with_mode", "Program._with_mode", [], (inClass (top 41) 17)⟩
def dY50 : DefY := ⟨fun K => (He.ma K (He.ga K "Program") "__getitem__"), "__getitem__", "Program.__getitem__", [], (inClass (top 41) 10)⟩
def dY51 : DefY := ⟨fun K => (He.ga K "law"), "law", "law", [], (top 65)⟩
def dY52 : DefY := ⟨fun K => (He.ga K "_law_doors_right"), "_law_doors_right", "_law_doors_right", [], (top 64)⟩
def dY53 : DefY := ⟨fun K => (He.ga K "_law_bent"), "_law_bent", "_law_bent", [], (top 63)⟩
def testsY0 : List (PySem.W.Frag → Bool) := [tY0, tY1, tY2, tY3, tY4, tY5, tY6, tY7, tY8, tY9, tY10, tY11, tY12, tY13, tY14, tY15, tY16, tY17, tY18, tY19, tY20, tY21, tY22, tY23, tY24]
def testsY1 : List (PySem.W.Frag → Bool) := [tY25, tY26, tY27, tY28, tY29, tY30, tY31, tY32, tY33, tY34, tY35, tY36, tY37, tY38, tY39, tY40, tY41, tY42, tY43, tY44, tY45, tY46, tY47, tY48, tY49]
def testsY2 : List (PySem.W.Frag → Bool) := [tY50, tY51, tY52, tY53, tY54, tY55, tY56, tY57, tY58, tY59, tY60, tY61, tY62, tY63, tY64, tY65, tY66, tY67, tY68, tY69, tY70, tY71, tY72, tY73, tY74]
def testsY3 : List (PySem.W.Frag → Bool) := [tY75, tY76, tY77, tY78, tY79, tY80, tY81, tY82, tY83, tY84, tY85, tY86, tY87, tY88, tY89, tY90, tY91, tY92, tY93, tY94, tY95, tY96, tY97, tY98, tY99]
def testsY4 : List (PySem.W.Frag → Bool) := [tY100, tY101, tY102, tY103, tY104, tY105, tY106, tY107, tY108, tY109, tY110, tY111, tY112, tY113, tY114, tY115, tY116, tY117, tY118, tY119, tY120, tY121, tY122, tY123, tY124]
def testsY5 : List (PySem.W.Frag → Bool) := [tY125, tY126, tY127, tY128, tY129, tY130, tY131, tY132, tY133, tY134, tY135, tY136, tY137, tY138, tY139, tY140, tY141, tY142, tY143, tY144, tY145, tY146, tY147, tY148, tY149]
def testsY6 : List (PySem.W.Frag → Bool) := [tY150, tY151, tY152, tY153, tY154, tY155, tY156, tY157, tY158, tY159, tY160, tY161, tY162, tY163, tY164, tY165, tY166, tY167, tY168, tY169, tY170, tY171, tY172, tY173, tY174]
def testsY7 : List (PySem.W.Frag → Bool) := [tY175, tY176, tY177, tY178, tY179, tY180, tY181, tY182, tY183, tY184, tY185, tY186, tY187, tY188, tY189, tY190, tY191, tY192, tY193, tY194, tY195, tY196, tY197, tY198]
def testsY : List (PySem.W.Frag → Bool) := testsY0 ++ (testsY1 ++ (testsY2 ++ (testsY3 ++ (testsY4 ++ (testsY5 ++ (testsY6 ++ (testsY7)))))))
def defsY0 : List DefY := [dY0, dY1, dY2, dY3, dY4, dY5, dY6, dY7, dY8, dY9, dY10, dY11, dY12, dY13, dY14, dY15, dY16, dY17, dY18, dY19, dY20, dY21, dY22, dY23, dY24]
def defsY1 : List DefY := [dY25, dY26, dY27, dY28, dY29, dY30, dY31, dY32, dY33, dY34, dY35, dY36, dY37, dY38, dY39, dY40, dY41, dY42, dY43, dY44, dY45, dY46, dY47, dY48, dY49]
def defsY2 : List DefY := [dY50, dY51, dY52, dY53]
def defsY : List DefY := defsY0 ++ (defsY1 ++ (defsY2))
def topN0 : List PySem.Str := ["_wall", "InvalidRule", "InvalidNumber", "InvalidBase", "InvalidRegisters", "InvalidModes", "InvalidRow", "InvalidEnds", "InvalidResult", "InvalidSign", "UnknownName", "Endless", "RULES", "LETTERS", "LARGEST", "is_integer", "is_between", "is_rule", "is_base", "is_remainder"]
def topN1 : List PySem.Str := ["is_name", "is_listing", "is_factors", "is_register", "is_mode", "is_row", "first_wrong", "check_registers", "check_modes", "check_rows", "check_ends", "check_program", "goes_up", "divide", "table_of", "is_same", "place_of", "Program", "sign_of", "weighed"]
def topN2 : List PySem.Str := ["result_of", "path_of", "first_mode", "first_values", "walk", "result_at", "_law_pool", "_law_draw", "_law_choose", "_law_updates", "_law_then", "_law_rows", "_law_parts", "_law_made", "_law_told", "_law_bent_registers", "_law_bent_modes", "_law_bent_rows", "_law_bent", "_law_doors_right"]
def topN : List PySem.Str := topN0 ++ topN1 ++ topN2
abbrev rowY : OpenRow := OpenLaw.row PySem.Challenge.rw_twodivisions_k04_programs_refused
abbrev hkY : PySem.W.Hook := hookY 1200 defsY testsY vfsY
def obY (s : PySem.W.SharedT) : Bool × List He.FnW := obsY 1200 defsY testsY vfsY (HandSHeadRun.getT s)
theorem obY_eq (s : PySem.W.SharedT) : obY s = hkY.obs s.abs := obsY_eq (HandSHeadRun.getT_eq s)
set_option maxHeartbeats 0 in
theorem runY (w : World) : HandSHeadRun.RunEq rowY (PySem.W.view rowY.prog [65]) hkY obY 8000 topN w := by
  intro os
  kernel_rfl
end
/-! ### own layer: promises that are kept where no repr is under way (A.guards = some []) -/
structure FnG (P : Program) (w : World) (K : PySem.W.Frag) (mg : Str → Option Value) (base : Heap) (CX : CXT) (k : Nat) (f : Addr) (fd : FuncData) (ps : List Str) (sp : Sp) : Prop where
  lens : ∀ vs H Q E, sp vs H Q E → vs.length = ps.length
  goes : ∀ (A : Around) (outer : List Env) (s : Shared) (H : Hp) (args : Args) (us : List Value) (vs : List V) (Q : VK) (E : XK), A.guards = some [] → Room k A → Env0 P w K mg base A outer s H →
    BindsTo s fd args (ps.zip us) → Vals vs us → sp vs H Q E → codeAny (model P w) A (.call (.ref f) args) (CR CX outer P w H s Q E) s
theorem FnG.of {P : Program} {w : World} {K : PySem.W.Frag} {mg : Str → Option Value} {base : Heap} {CX : CXT} {k : Nat} {f : Addr} {fd : FuncData} {ps : List Str} {sp : Sp} (F : FnOk P w K mg base CX k f fd ps sp) : FnG P w K mg base CX k f fd ps sp :=
  ⟨F.len, fun A outer s H args us vs Q E _ => F.run A outer s H args us vs Q E⟩
section
variable {X : Cx} {CX : CXT} {k : Nat} {f C : Addr} {fd : FuncData} {ps : List Str} {sp : Sp} {dvs : List V} {ds : List Value} {E : XK} {x m : Str} {p pos apos : Pos} {e o : Expr} {es : List Expr} {ta : TE} {t : TA}
theorem goG {pins : List (Addr × Obj)} {σ : St} {H : Hp} {s : Shared} {Q : VK} {us : List Value} {vs : List V} (F : FnG X.prog X.w X.K X.mg X.base CX k f fd ps sp) (hG : X.A.guards = some []) (hr : Room k X.A) (hb : Binds X.K fd ps ds) (hd : Vals dvs ds)
    (hx : Passes CX X E) (I : Inv X pins σ H s) (r : Vals vs us) (h : sp (vs ++ dvs) H Q E) : wpAny (model X.prog X.w) X.A (call (.ref f) us) (EP X pins σ Q) X.xe s := by
  have both := r.append hd
  have many : (us ++ ds).length = ps.length := both.length.symm.trans (F.lens _ _ _ _ h)
  refine wpAny_call (codeAny_mono (F.goes X.A X.stack s H ⟨us, []⟩ (us ++ ds) (vs ++ dvs) Q E hG hr I.env0 (hb s us I.kIn many) both h) ?_)
  rintro (er | fl) s' z
  · exact hx pins σ H s er s' I z
  · cases fl with
    | ret u => exact I.after z
    | _ => exact z.elim
theorem pe_callG (F : FnG X.prog X.w X.K X.mg X.base CX k f fd ps sp) (hG : X.A.guards = some []) (hr : Room k X.A) (hg : Gl X x) (hm : X.mg x = some (.ref f)) (hk : PySem.W.keepIn X.K (.ref f) = true) (hb : Binds X.K fd ps ds) (hd : Vals dvs ds) (hx : Passes CX X E)
    (ha : PA X (e :: es) t) (hdb : (x == ("__debug__" : Str)) = false := by decide) (he : starEach (e :: es) X.env = (false, eval e X.env) :: starEach es X.env := by rfl) (hpl : (backTo pos (starEach es X.env)).any (·.1) = false := by rfl) :
    PE X (.Call (.Name x p) (e :: es) [] pos) (tCall sp dvs E t) :=
  ⟨fun pins s σ H Q I h => wpAny_Call_Name_kw (ld_glob I hg hm (PySem.W.callWith_K (h₀ := X.base) I.ok.mod.kin hk (thn (ha.run pos pins s σ H _ I h) fun us s1 ⟨vs, H1, I1, r, q⟩ => ⟨I1.kIn, goG F hG hr hb hd hx I1 r q⟩) he hpl) hdb)⟩
end
/-- a def keeps its promise by its body, in such surroundings -/
theorem fnG_of {CX : CXT} {P : Program} {w : World} {K : PySem.W.Frag} {mg : Str → Option Value} {base : Heap} {k : Nat} {f : Addr} {name qual : Str} {params : Arguments} {body : List Stmt} {scope : Scope} {dV kV doc pm cdv ct oc : Value} {an od : Option Addr}
    {osl : Array (Option Value)} {N ps : List Str} {sp : Sp} (lk : K.lookup f = some ⟨oc, od, .func (PySem.W.fnOf name qual params body scope dV kV doc pm an cdv ct), osl⟩) (hcd : PySem.W.codeIn K cdv qual = true) (S : FnScope N ps scope)
    (len : ∀ vs H Q E, sp vs H Q E → vs.length = ps.length)
    (hbody : ∀ (A : Around) (outer : List Env) (s : Shared) (H : Hp) (vs : List V) (Q : VK) (E : XK), A.guards = some [] → Room k (A.deeper (PyProof.Rows.envOfC qual scope s.heap.objs.size f cdv)) → sp vs H Q E →
      ∃ t, PSs (cxOf CX P w K mg base N qual scope f cdv A outer s H E) body t ∧ t { nx := fun _ H' => Q .non H', rt := Q } (start N vs) H) :
    FnG P w K mg base CX (k + 1) f (PySem.W.fnOf name qual params body scope dV kV doc pm an cdv ct) ps sp := by
  refine ⟨len, fun A outer s H args us vs Q E hG hr e0 hb r hsp => ?_⟩
  have many := len _ _ _ _ hsp
  have part : K.In s.heap := e0.mod.kin.keeps fun b o z => (e0.bs b o z).1
  have below : s.heap.NoLimit := e0.mod.nolimit.keeps fun b o z => (e0.bs b o z).1
  have kinds : ∀ y ∈ ps.zip us, scope.names.lookup y.1 = some .local ∨ (scope.names.lookup y.1 = some .cell ∧ ((PySem.cellsFrom (s.heap.objs.size + 1) scope.names []).lookup y.1).isSome = true) := by
    rintro ⟨n, v⟩ hy
    exact (S.par n (List.of_mem_zip hy).1).imp id fun q => ⟨q, PySem.W.cellsFrom_some _ _ _ (.inl q)⟩
  refine PySem.codeAny_call_function hr.depth (part _ _ lk) rfl S.co S.gen rfl (PySem.W.codeRec_of part hcd) (hb _ _ _ _ (PySem.wpAny_newFunctionEnv_cells S.kind kinds ?_))
  intro env he s1 x
  subst he
  obtain ⟨t, ht, hq⟩ := hbody A outer s H vs Q E hG (hr.deeper _) hsp
  have I := inv_start (CX := CX) (N := N) (qual := qual) (f := f) (cd := cdv) (E := E) S hr.hd e0 many r x
  refine ⟨below.keeps x.toInCall.keep, PySem.codeAny_func (wpAny_mono (ht.run [] s1 (start N vs) H _ I hq) ?_ fun _ _ z => z)⟩
  rintro (_ | _ | _ | u) s' hs
  · obtain ⟨σ', H', J, q⟩ := hs
    exact ⟨V.non, H', J.os, J.bare, J.base, J.hok, rfl, q⟩
  · exact hs.elim fun _ z => z.elim fun _ z => z.2.elim
  · exact hs.elim fun _ z => z.elim fun _ z => z.2.elim
  · obtain ⟨v, σ', H', J, rv, q⟩ := hs
    exact ⟨v, H', J.os, J.bare, J.base, J.hok, rv, q⟩
theorem Fun.okG {P : Program} {w : World} {K : PySem.W.Frag} {mg : Str → Option Value} {base : Heap} {x qual : Str} {st : Stmt} {f : Addr} {fd : FuncData} {N ps : List Str} {k : Nat} {sp : Sp} (F : Fun K x qual st f fd) (S : FnScope N ps (defScope st)) (len : ∀ vs H Q E, sp vs H Q E → vs.length = ps.length)
    (hbody : ∀ (cdv : Value) (A : Around) (outer : List Env) (s : Shared) (H : Hp) (vs : List V) (Q : VK) (E : XK), A.guards = some [] → Room k (A.deeper (PyProof.Rows.envOfC qual (defScope st) s.heap.objs.size f cdv)) → sp vs H Q E →
      ∃ t, PSs (cxOf CX0 P w K mg base N qual (defScope st) f cdv A outer s H E).nox (defBody st) t ∧ t { nx := fun _ H' => Q .non H', rt := Q } (start N vs) H) : FnG P w K mg base CX0 (k + 1) f fd ps sp := by
  obtain ⟨oc, od, kV, doc, pm, an, cdv, ct, osl, rfl, lk, hcd⟩ := F.ex
  refine fnG_of lk hcd S len fun A outer s H vs Q E hG hr hsp => ?_
  obtain ⟨t, h, q⟩ := hbody cdv A outer s H vs Q E hG hr hsp
  exact ⟨t, h.nox, q⟩
/-! ### the law's own call, by such a promise -/
/-- what the caller wants of the law's call -/
abbrev Wanted (s₁ : Shared) (r : Result) (s' : Shared) : Prop := r = .ok (.ret (.bool true)) ∧ PySem.OldK s₁.heap s'.heap ∧ s'.os = s₁.os ∧ PyProof.Rows.AllBare s'.gens
/-! ### own exception classes, called with keywords (rest: by place; kw: by name) -/
section
open PySem.PX
variable {prog : Program} {w : World} {M : Model} {A : Around} {E : Value → Shared → Prop} {R : Result → Shared → Prop} {h : Heap} {g : Array GenState} {d : Drawn} {t : Nat} {os : OsState}
variable {nm q : Str} {C N : Addr} {bs bm tl : List Value} {hdct : Bool} {sn : List Str} {sub : List Value} {ab : Bool} {col : Option Bool} {dd : Option Addr} {k0 k1 k2 k3 k5 : Option Value} {B newId initId : String}
abbrev exLaid (h : Heap) (C : Addr) (rest : List Value) : Heap := (h.push { cls := .type "tuple", data := .seq rest.toArray }).push { cls := .ref C, data := .fields #[.ref h.objs.size, .none, .none, .none, .bool false, .none] }
theorem kw_check_new (F : ExcBaseFacts B newId initId tl) (same : ∀ Y : String, bm.contains (.type Y) = tl.contains (.type Y)) {rest : List Value} {kw : List (Str × Value)} {Q : Unit → Shared → Prop}
    (hC : h.get? C = some (excClassObj nm q C N bs bm hdct sn sub ab col dd k0 k1 k2 k3 k5 newId)) (z : Q () ⟨h, g, d, t, os⟩) : wpAny M A (checkBuiltinCall newId ⟨.ref C :: rest, kw⟩) Q E ⟨h, g, d, t, os⟩ := by
  have inB : (Value.ref C :: bm).contains (.type B) = true := by
    rw [List.contains_cons, same, F.hasB, Bool.or_true]
  have star := F.noStar
  simp only [checkBuiltinCall, F.newKind, F.newSplit, F.newRow]
  repeat (first
    | refine wpAny_loadPart_at hC ?_
    | (refine wpAny_isSubtype_exc hC ?_; rw [inB])
    | refine wpAny_staticBase_exc hC ?_
    | refine wpAny_madeBy_exc hC ?_
    | simp only [bne_self_eq_false, Bool.false_eq_true, if_false]
    | wp_step)
  exact z
theorem kw_new (F : ExcBaseFacts B newId initId tl) (same : ∀ Y : String, bm.contains (.type Y) = tl.contains (.type Y)) {rest : List Value} {kw : List (Str × Value)}
    (hC : h.get? C = some (excClassObj nm q C N bs bm hdct sn sub ab col dd k0 k1 k2 k3 k5 newId)) (z : R (.ok (.ret (.ref (h.objs.size + 1)))) ⟨exLaid h C rest, g, d, t, os⟩) (few : rest.length ≤ sizeLine) :
    codeAny (model prog w) A (.builtin newId ⟨.ref C :: rest, kw⟩) R ⟨h, g, d, t, os⟩ := by
  have stops := F.ends
  have inB : (Value.ref C :: bm).contains (.type B) = true := by
    rw [List.contains_cons, same, F.hasB, Bool.or_true]
  have noA : (Value.ref C :: bm).contains (.type "AttributeError") = false := by
    rw [List.contains_cons, same, F.noAttr]
    rfl
  have noN : (Value.ref C :: bm).contains (.type "NameError") = false := by
    rw [List.contains_cons, same, F.noName]
    rfl
  refine codeAny_builtinAt F.entry ?_
  unfold Builtin.«BaseException.__new__»
  refine wpAt_bind ?_
  show wpAt _ _ _ (stack >>= _) _ _ _
  refine wpAt_bind (wpAt_stack fun p below => wpAt_of_wpAny ?_)
  wp_walk
  refine wpAt_of_wpAny ?_
  rw [F.owner]
  repeat (first
    | with_reducible refine wpAny_madeHere_exc F.canon hC ?_
    | with_reducible refine wpAny_loadPart_at hC ?_
    | (with_reducible refine wpAny_isSubtype_exc hC ?_; first | rw [inB] | rw [noA] | rw [noN])
    | wp_step)
  show R _ _
  rw [Heap.size_push]
  exact z
theorem kw_type_call (F : ExcBaseFacts B newId initId tl) (same : ∀ Y : String, bm.contains (.type Y) = tl.contains (.type Y)) {rest : List Value} {kw : List (Str × Value)} {fI : Addr} {Q : Fin → Shared → Prop}
    (hC : h.get? C = some (excClassObj nm q C N bs bm hdct sn sub ab col dd k0 k1 k2 k3 k5 newId)) (li : PySem.W.Looks (model prog w) h (typeLookup (.ref C) "__init__") (some (.ref fI)))
    (lb : ∀ self, PySem.W.Looks (model prog w) h (bindSpecial (.ref fI) self) (.ref fI, [self])) (few : rest.length ≤ sizeLine)
    (z : codeAny (model prog w) A (.call (.ref fI) ⟨.ref (h.objs.size + 1) :: rest, kw⟩) (fun r s' => match r with | .ok (.ret v) => v = .none ∧ Q (.done (.ret (.ref (h.objs.size + 1)))) s' | .ok _ => False | .error e => E e s') ⟨exLaid h C rest, g, d, t, os⟩) :
    wpAny (model prog w) A (Builtin.«type.__call__» ⟨.ref C :: rest, kw⟩) Q E ⟨h, g, d, t, os⟩ := by
  repeat (first
    | with_reducible refine wpAny_loadPart_at hC ?_
    | with_reducible refine wpAny_madeBy_exc hC ?_
    | wp_step)
  refine codeAny_call_builtin_code (Code.quiet_builtin _ F.quiet) (kw_check_new F same hC (kw_new F same hC ?_ few))
  show wpAny _ _ _ _ _ _
  have stay : ∀ b o, h.get? b = some o → (exLaid h C rest).get? b = some o := fun b o e => Heap.get?_push_of_some _ (Heap.get?_push_of_some _ e)
  have hC2 := stay _ _ hC
  have made : (exLaid h C rest).get? (h.objs.size + 1) = some { cls := .ref C, data := .fields #[.ref h.objs.size, .none, .none, .none, .bool false, .none] } := by
    unfold exLaid
    heap_get
  have inC : (Value.ref C :: bm).contains (.ref C) = true := by simp
  have li2 := li.keeps stay
  have lb2 := (lb (.ref (h.objs.size + 1))).keeps stay
  unfold isInstance
  repeat (first
    | with_reducible refine wpAny_loadPart_at made ?_
    | (with_reducible refine wpAny_isSubtype_exc hC2 ?_; rw [inC])
    | wp_step)
  show wpAny _ _ (typeLookup (.ref C) _) _ _ _
  refine li2.at (wpAny_holding (wpAny_bind (lb2.at (wpAny_bind (wpAny_call (codeAny_mono z ?_))))))
  rintro (e | _ | _ | _ | v) s' y <;> first | exact y | exact y.elim | skip
  obtain ⟨rfl, y⟩ := y
  first
    | exact wpAny_pure (wpAny_pure y)
    | (wp_walk; exact y)
theorem kw_call (F : ExcBaseFacts B newId initId tl) (same : ∀ Y : String, bm.contains (.type Y) = tl.contains (.type Y)) {rest : List Value} {kw : List (Str × Value)} {fI : Addr}
    (hC : h.get? C = some (excClassObj nm q C N bs bm hdct sn sub ab col dd k0 k1 k2 k3 k5 newId)) (li : PySem.W.Looks (model prog w) h (typeLookup (.ref C) "__init__") (some (.ref fI)))
    (lb : ∀ self, PySem.W.Looks (model prog w) h (bindSpecial (.ref fI) self) (.ref fI, [self])) (few : rest.length ≤ sizeLine)
    (z : codeAny (model prog w) (A.under (.builtin "type.__call__" ⟨.ref C :: rest, kw⟩)) (.call (.ref fI) ⟨.ref (h.objs.size + 1) :: rest, kw⟩) (PySem.W.InitBack (h.objs.size + 1) R) ⟨exLaid h C rest, g, d, t, os⟩) :
    codeAny (model prog w) A (.call (.ref C) ⟨rest, kw⟩) R ⟨h, g, d, t, os⟩ := by
  have f1 := tc_lookup
  have f2 := tc_bind (.ref C)
  have isT : (⟨h, g, d, t, os⟩ : Shared).TypeIs (.ref C) "type" := ⟨_, hC, rfl⟩
  refine codeAny_of_tree ?_
  show wpAny _ _ (callAny (.ref C) _) _ _ _
  repeat (any_goals (first
    | assumption
    | with_reducible refine wpAny_loadPart_at hC ?_
    | wp_step))
  refine ⟨rfl, codeAny_call_builtin_at (Code.quiet_builtin _ (by decide +kernel)) entry_typeCall (wpAny_check_type_call_sub hC (kw_type_call F same hC li lb few (codeAny_mono z ?_)))⟩
  rintro (e | _ | _ | _ | v) s' y <;> exact y
end
/-! ### a store into an own exception, whatever built-in class is its base -/
section
open PySem.PX Builtin Builtin.ObjectAttr
variable {prog : Program} {w : World} {A : Around} {E : Value → Shared → Prop} {R : Result → Shared → Prop} {hp : Heap} {g : Array GenState} {d : Drawn} {t : Nat} {os : OsState} {B : String} {tl : List Value} {K : PySem.W.Frag}
theorem taker_none {C : Addr} {name : Str} (no : PySem.W.findIn K (.ref C) name = some none) : PySem.W.takerIn K C name = some none := by
  unfold PySem.W.takerIn
  rw [no]
  rfl
theorem xs_first {name : Str} {tk : Tok} {v : Value} {x C : Addr} {fv : Array Value} (SF : StoreFacts B tl "object.__setattr__" "object") (X : K.In hp) (at_x : hp.get? x = some { cls := .ref C, data := .fields fv }) (ov : PySem.W.excOver K C tl = true)
    (hasD : PySem.W.hasDictIn K C = true) (no : PySem.W.findIn K (.ref C) name = some none)
    (z : ∀ h' tk' dx, (∀ b o, b ≠ x → hp.get? b = some o → h'.get? b = some o) → hp.objs.size ≤ dx → dx ≠ x → h'.get? x = some { cls := .ref C, dict := some dx, data := .fields fv } →
      h'.Ns1 dx (fun y => if y = name then some v else none) → R (.ok (.ret .none)) ⟨h', g, d, tk', os⟩) :
    codeAny (model prog w) A (.call (.builtin "object.__setattr__") ⟨[.ref x, .str name tk, v], []⟩) R ⟨hp, g, d, t, os⟩ := by
  refine PySem.W.osa_openX (od := none) SF X ⟨at_x, rfl, rfl, trivial⟩ ov (taker_none no) fun b => ?_
  obtain ⟨cd, hc, hd⟩ := PySem.W.any_some hasD
  have lk : PySem.W.Looks (model prog w) hp (classData C) cd := PySem.W.looks_clsIn X hc
  have apart : x ≠ hp.objs.size := Nat.ne_of_lt (Heap.lt_size at_x)
  show wpAny _ _ (storeInOwnDict (.ref x) (.ref C) (.str name tk) name v b) _ _ _
  obtain ⟨nm, bs, mro, ns, qn, hd1, sn, sb, ab, col, del⟩ := cd
  obtain rfl : hd1 = true := hd
  unfold storeInOwnDict ownDictForStores
  repeat (first
    | with_reducible refine store_in_new ?_ ?_
    | with_reducible refine wpAny_loadPart_at at_x ?_
    | with_reducible refine lk.at ?_
    | wp_step)
  · exact ⟨_, #[], _, (Heap.get?_update_ne _ _ _ _ apart.symm).trans (Heap.get?_push_at rfl rfl), rfl, fun e he => absurd he (by simp), fun _ => rfl⟩
  · intro h' tk' hn hs
    have x2 : (hp.push { cls := .type "dict", data := .dict #[] }).get? x = some { cls := .ref C, data := .fields fv } := Heap.get?_push_of_some _ at_x
    refine z h' tk' hp.objs.size (fun b o nb ho => ?_) (Nat.le_refl _) apart.symm ((hs.2 x apart).trans (Heap.get?_update_self _ x2 rfl)) hn
    exact (hs.2 b (Nat.ne_of_lt (Heap.lt_size ho))).trans ((Heap.get?_update_ne _ _ _ _ nb).trans (Heap.get?_push_of_some _ ho))
theorem xs_later {name : Str} {tk : Tok} {v : Value} {x C dx : Addr} {fv : Array Value} {m0 : Str → Option Value} {nl : List Str} (SF : StoreFacts B tl "object.__setattr__" "object") (X : K.In hp)
    (at_x : hp.get? x = some { cls := .ref C, dict := some dx, data := .fields fv }) (nd : hp.Ns1 dx m0) (wi : Within m0 nl) (few : nl.length ≤ 1000) (ov : PySem.W.excOver K C tl = true) (hasD : PySem.W.hasDictIn K C = true) (no : PySem.W.findIn K (.ref C) name = some none)
    (z : ∀ h' tk', (∀ b o, b ≠ dx → hp.get? b = some o → h'.get? b = some o) → h'.Ns1 dx (fun y => if y = name then some v else m0 y) → R (.ok (.ret .none)) ⟨h', g, d, tk', os⟩) :
    codeAny (model prog w) A (.call (.builtin "object.__setattr__") ⟨[.ref x, .str name tk, v], []⟩) R ⟨hp, g, d, t, os⟩ := by
  obtain ⟨oD, esD, epD, at_d, dD, _⟩ := nd.count wi
  refine PySem.W.osa_openX (od := some oD) SF X ⟨at_x, rfl, rfl, at_d⟩ ov (taker_none no) fun b => ?_
  obtain ⟨cd, hc, hd⟩ := PySem.W.any_some hasD
  have lk : PySem.W.Looks (model prog w) hp (classData C) cd := PySem.W.looks_clsIn X hc
  show wpAny _ _ (storeInOwnDict (.ref x) (.ref C) (.str name tk) name v b) _ _ _
  obtain ⟨nm, bs, mro, ns, qn, hd1, sn, sb, ab, col, del⟩ := cd
  obtain rfl : hd1 = true := hd
  unfold storeInOwnDict ownDictForStores
  repeat (first
    | with_reducible refine store_in_old nd wi few ?_
    | with_reducible refine wpAny_loadPart_at at_x ?_
    | with_reducible refine lk.at ?_
    | wp_step)
  intro h' tk' hn hs
  exact z h' tk' (fun b o nb ho => (hs.2 b nb).trans ho) hn
end
/-! ### the same over the layer: self.f = y in an own exception's __init__ -/
/-- what the written part says of an own exception class C, its __init__ at fI -/
structure XCls (K : PySem.W.Frag) (C fI : Addr) (tl : List Value) (newId : String) : Prop where
  ini : PySem.W.excInitIn K C tl newId = true
  over : PySem.W.excOver K C tl = true
  hasD : PySem.W.hasDictIn K C = true
  sa : PySem.W.findIn K (.ref C) "__setattr__" = some (some (.builtin "object.__setattr__"))
  init : PySem.W.findIn K (.ref C) "__init__" = some (some (.ref fI))
  isF : PySem.W.isFn K (.ref fI) = true
  kp : PySem.W.keepIn K (.ref C) = true
section
variable {X : Cx} {pins : List (Addr × Obj)} {σ : St} {H : Hp} {s : Shared} {a C fI dx : Addr} {f : Str} {y : V} {u : Value} {fs : List (Str × V)} {Q : Unit → Shared → Prop} {E : Value → Shared → Prop} {A : Around} {B newId : String} {tl : List Value}
theorem xset_first (SF : StoreFacts B tl "object.__setattr__" "object") (T : XCls X.K C fI tl newId) (I : Inv X pins σ H s) (ex : H a = some (exo a C none)) (no : PySem.W.findIn X.K (.ref C) f = some none) (ry : RelV y u)
    (z : ∀ dx s', H dx = none → dx ≠ a → Inv X pins σ (upd (upd H dx (exd dx [(f, y)])) a (exo a C (some dx))) s' → Q () s') : wpAny (model X.prog X.w) A (setAttr (.ref a) f u) Q E s := by
  obtain ⟨t1, ho⟩ := exo_at I.hok ex
  obtain ⟨hp, g, d, t, os⟩ := s
  refine PySem.W.set_plain I.kIn (ox := { cls := .ref C, dict := none, data := .fields #[.ref t1, .none, .none, .none, .bool false, .none] }) (od := none) ⟨ho, rfl, rfl, trivial⟩ T.sa (xs_first SF I.kIn ho T.over T.hasD no fun h' tk' dx k dn dne hx hn => ?_)
  have free : H dx = none := I.hok.fresh dn
  have old : ∀ {b : Addr} {o : Obj}, hp.get? b = some o → b ≠ dx := fun {b o} q => Nat.ne_of_lt (Nat.lt_of_lt_of_le (Heap.lt_size q) dn)
  have off : ∀ {b : Addr}, H b = none → b ≠ a := fun {b} n e => by
    subst e
    rw [n] at ex
    cases ex
  -- what is told elsewhere is told as before
  have same : ∀ {b : Addr} {o : HO}, H b = some o → o ≠ exo a C none → (upd (upd H dx (exd dx [(f, y)])) a (exo a C (some dx))) b = some o := fun {b o} q ne => by
    rw [upd_ne (at_ne ex q (Ne.symm ne)), upd_ne (ne_of_none q free)]
    exact q
  have U : Un X.fs [] H (upd (upd H dx (exd dx [(f, y)])) a (exo a C (some dx))) hp h' :=
    { keep := fun b o q n _ _ => k b o (off n) q
      slot := fun b o q n _ _ => ⟨o.slots, k b o (off n) q⟩
      free := fun b o q n _ => by
        rw [upd_ne (off n), upd_ne (old q)]
        exact n
      there := fun b o q _ => (Classical.em (b = a)).elim (fun e => ⟨_, e ▸ hx⟩) fun e => ⟨o, k b o e q⟩
      tups := fun b xs q => same q (Ne.symm exo_tup)
      frzs := fun b o v q => same q (Ne.symm exo_frz)
      tbls := fun b ps q => ⟨#[], by rw [same q (Ne.symm exo_tbl)]; simp⟩ }
  refine z dx _ free dne (I.un (t' := tk') U fun b o q => ?_)
  by_cases e1 : b = a
  · subst e1
    obtain rfl := Option.some.inj (upd_same.symm.trans q)
    exact exo_ok hx
  · rw [upd_ne e1] at q
    by_cases e2 : b = dx
    · subst e2
      obtain rfl := Option.some.inj (upd_same.symm.trans q)
      exact exd_ok hn (relO_put (fs := []) ry fun _ => True.intro)
    · rw [upd_ne e2] at q
      refine (I.hok b o q).stay (fun c v hc r => k c v ?_ r) (fun c hc => same hc (Ne.symm exo_own)) fun c xs hc => same hc (Ne.symm exo_tup)
      rcases hc with rfl | hc
      · exact e1
      · exact at_ne ex hc exo_own
theorem xset_later (SF : StoreFacts B tl "object.__setattr__" "object") (T : XCls X.K C fI tl newId) (I : Inv X pins σ H s) (ex : H a = some (exo a C (some dx))) (ed : H dx = some (exd dx fs)) (few : fs.length ≤ 900) (no : PySem.W.findIn X.K (.ref C) f = some none) (ry : RelV y u)
    (z : ∀ s', Inv X pins σ (upd H dx (exd dx ((f, y) :: fs))) s' → Q () s') : wpAny (model X.prog X.w) A (setAttr (.ref a) f u) Q E s := by
  obtain ⟨t1, ho⟩ := exo_at I.hok ex
  obtain ⟨mA, nd, rel⟩ := exd_at I.hok ed
  obtain ⟨hp, g, d, t, os⟩ := s
  obtain ⟨oD, _, _, at_d, _, _⟩ := nd.count (within_of rel)
  refine PySem.W.set_plain I.kIn (ox := { cls := .ref C, dict := some dx, data := .fields #[.ref t1, .none, .none, .none, .bool false, .none] }) (od := some oD) ⟨ho, rfl, rfl, at_d⟩ T.sa
    (xs_later SF I.kIn ho nd (within_of rel) (by rw [List.length_map]; omega) T.over T.hasD no fun h' tk' k hn => z _ (I.write (t' := tk') (x := dx) (e := dx) (o := exd dx ((f, y) :: fs)) (by rw [ed]; exact True.intro) (.inl rfl) k ?_ (exd_ok hn (relO_put ry rel))))
  obtain ⟨o, _, _, e, _⟩ := hn
  exact ⟨o, e⟩
end
/-- self.f = e, in an __init__ of an own exception class -/
def tXst (K : PySem.W.Frag) (tl : List Value) (newId : String) (f : Str) (to te : TE) : TS := fun D σ H => te σ H fun y H1 => to σ H1 fun x H2 => ∃ a C fI : Addr, x = .ref a ∧ XCls K C fI tl newId ∧ PySem.W.findIn K (.ref C) f = some none ∧
  ((H2 a = some (exo a C none) ∧ ∀ dx, H2 dx = none → dx ≠ a → D.nx σ (upd (upd H2 dx (exd dx [(f, y)])) a (exo a C (some dx)))) ∨
    ∃ (dx : Addr) (fs : List (Str × V)), H2 a = some (exo a C (some dx)) ∧ H2 dx = some (exd dx fs) ∧ fs.length ≤ 900 ∧ D.nx σ (upd H2 dx (exd dx ((f, y) :: fs))))
theorem ps_xst {X : Cx} {o e : Expr} {to te : TE} {f : Str} {p' pos : Pos} {B newId : String} {tl : List Value} (SF : StoreFacts B tl "object.__setattr__" "object") (ho : PE X o to) (he : PE X e te) (hs : swapsWith e (some (.Attribute o f p')) pos.line X.env = pure false := by rfl) :
    PS X (.Assign [.Attribute o f p'] e pos) (tXst X.K tl newId f to te) := by
  refine ⟨fun pins s σ H D I h => PySem.plainObj_wpAny_Assign_Attribute (thn (he.run pins s σ H _ I h) fun v s1 ⟨y, H1, I1, r1, q1⟩ => thn (ho.run pins s1 σ H1 _ I1 q1) fun u s2 ⟨x, H2, I2, r2, a, C, fI, ex, T, no, q⟩ => ?_) hs⟩
  subst ex
  obtain rfl : u = Value.ref a := r2
  rcases q with ⟨ea, q⟩ | ⟨dx, fs, ea, ed, few, q⟩
  · exact xset_first SF T I2 ea no r1 fun dx s' n ne J => ⟨σ, _, J, q dx n ne⟩
  · exact xset_later SF T I2 ea ed few no r1 fun s' J => ⟨σ, _, J, q⟩
/-! ### an own exception made as a value, its fields read, isinstance of it, repr -/
/-- what is asked of an own exception class so that its fields are read and isinstance answers -/
structure XLook (K : PySem.W.Frag) (C : Addr) : Prop where
  xf : XfC K C
  ex : ExcC K C
/-- v is read as the data d -/
def Rds (X : Cx) (H : Hp) (v : V) (d : PyData) : Prop := ∀ (pins : List (Addr × Obj)) (σ : St) (s : Shared) (u : Value), Inv X pins σ H s → RelV v u → ∃ as, Reads s.heap u d as ∧ (d.hasDict = true → sysModules ∉ as)
theorem Rds.of {X : Cx} {H : Hp} {v : V} {d : PyData} (h : Dp X.K H v d) (n : d.hasDict = false) : Rds X H v d := fun pins σ s u I r => by
  obtain ⟨as, q⟩ := Dp.reads I d v u h r
  exact ⟨as, q, fun z => by rw [n] at z; cases z⟩
theorem call_repr {X : Cx} (hG : X.A.guards = some []) (hu : X.A.units + 64 < cLine) : CallR X (.builtin "repr") (fun xs H Q => ∃ v d, xs = [v] ∧ Rds X H v d ∧ d.showable = true ∧ d.depth + 1 ≤ 64 ∧ d.shown.length ≤ sizeLine ∧ Q (.str d.shown) H) := by
  intro pins s σ H xs us Q I r h
  obtain ⟨v, d, rfl, hv, sh, dp, sz, q⟩ := h
  obtain ⟨u, rfl, ru⟩ := vals1 r
  obtain ⟨as, rd, nos⟩ := hv pins σ s u I ru
  cases rd with
  | none => exact PySem.P.repr_of_none ⟨.str _, H, I.tok _, ⟨_, rfl⟩, q⟩
  | bool b => exact PySem.P.repr_of_bool ⟨.str _, H, I.tok _, ⟨_, rfl⟩, by cases b <;> exact q⟩
  | int i t => exact PySem.P.repr_of_int (of_decide_eq_true sh) ⟨.str _, H, I.tok _, ⟨_, rfl⟩, q⟩
  | str y t => exact PySem.P.repr_of_str ⟨.str _, H, I.tok _, ⟨_, rfl⟩, q⟩ sz
  | list h1 h2 h3 h4 => exact PySem.repr_of_reads' (.list h1 h2 h3 h4) sh nos hG (by omega) (fun _ _ z => z) (fun h' u tk kk => ⟨.str _, H, I.kept kk, ⟨_, rfl⟩, q⟩) sz
  | tuple h1 h2 h3 h4 => exact PySem.repr_of_reads' (.tuple h1 h2 h3 h4) sh nos hG (by omega) (fun _ _ z => z) (fun h' u tk kk => ⟨.str _, H, I.kept kk, ⟨_, rfl⟩, q⟩) sz
  | dict h1 h2 h3 h4 h5 => exact PySem.repr_of_reads' (.dict h1 h2 h3 h4 h5) sh nos hG (by omega) (fun _ _ z => z) (fun h' u tk kk => ⟨.str _, H, I.kept kk, ⟨_, rfl⟩, q⟩) sz
/-! ### lists that are made anew do not lie where sys.modules lies -/
/-! ### data that are read, a dict without pairs among them -/
/-- v is the data d: none, bools, ints, texts, lists, tuples of these, or a dict without pairs -/
inductive De (K : PySem.W.Frag) (H : Hp) : V → PyData → Prop
  | dp {v : V} {d : PyData} (h : Dp K H v d) (n : d.hasDict = false) : De K H v d
  | dic {a : Addr} (h : H a = some (.dK [])) : De K H (.ref a) (.dict [])
theorem De.rds {X : Cx} {H : Hp} {v : V} {d : PyData} (h : De X.K H v d) : Rds X H v d := by
  cases h with
  | dp h n => exact Rds.of h n
  | @dic a h =>
    intro pins σ s u I r
    obtain rfl : u = Value.ref a := r
    obtain ⟨_, low, vs, kv, o, es, ep, at_a, ex, dd, _, pr, _⟩ := (show ObjOk X.prog X.w H s.heap a (.dK []) from I.hok a _ h)
    cases kv
    have e0 : es.toList = [] := by cases e : es.toList with
      | nil => rfl
      | cons z r =>
        rw [e] at pr
        cases pr
    refine ⟨_, .dict (kvs := []) at_a ex.1 dd (by rw [e0]; exact .nil) (by rw [e0]; exact .nil), fun _ m => ?_⟩
    have m2 : sysModules = a := by simpa using m
    rw [← m2] at low
    exact absurd low (by decide)
/-! ### own exception classes whose __init__ stores its parameters -/
/-- an exception of the class C stands at a; its dict holds fs -/
def Ex (H : Hp) (a C : Addr) (fs : List (Str × V)) : Prop := ∃ d, H a = some (exo a C (some d)) ∧ H d = some (exd d fs)
/-- all but a stays -/
abbrev Near (a : Addr) (H H' : Hp) : Prop := ∀ b o, H b = some o → b ≠ a → H' b = some o
def sp1 (f : Str) (C : Addr) : Sp := fun vs H Q _ => ∃ (a : Addr) (v : V), vs = [.ref a, v] ∧ H a = some (exo a C none) ∧ ∀ H', Near a H H' → Ex H' a C [(f, v)] → Q .non H'
def sp0 (C : Addr) : Sp := fun vs H Q _ => ∃ a : Addr, vs = [.ref a] ∧ H a = some (exo a C none) ∧ Q .non H
/-! ### a list of one value so many times, shown -/
theorem Rds.rep {X : Cx} {H : Hp} {v : V} {d : PyData} {p : Addr} {n : Nat} (h : H p = some (.lst (List.replicate n v))) (np : p ≠ sysModules) (hv : De X.K H v d) : Rds X H (.ref p) (.list (List.replicate n d)) := by
  intro pins σ s u I r
  obtain rfl : u = Value.ref p := r
  obtain ⟨_, its, m, rv, at_p⟩ := (show ObjOk X.prog X.w H s.heap p (.lst (List.replicate n v)) from I.hok p _ h)
  have all : ∀ (n : Nat) (its : List Value), Vals (List.replicate n v) its → ∃ as, ReadsAll s.heap its (List.replicate n d) as ∧ (d.hasDict = true → sysModules ∉ as) := by
    intro n
    induction n with
    | zero =>
      intro its z
      cases z
      exact ⟨[], .nil, fun _ m => nomatch m⟩
    | succ n ih =>
      intro its z
      cases z with
      | cons r1 r2 =>
        obtain ⟨as, q1, n1⟩ := hv.rds pins σ s _ I r1
        obtain ⟨bs, q2, n2⟩ := ih _ r2
        exact ⟨as ++ bs, .cons q1 q2, fun e m => (List.mem_append.mp m).elim (n1 e) (n2 e)⟩
  obtain ⟨as, q, no⟩ := all n its rv
  refine ⟨_, .list at_p rfl rfl (by simpa using q), fun e m => ?_⟩
  rcases List.mem_cons.mp m with z | z
  · exact np z.symm
  · have hd : d.hasDict = true := by
      have key : ∀ k : Nat, PyData.hasDictAll (List.replicate k d) = true → d.hasDict = true := fun k => by
        induction k with
        | zero => intro z; cases z
        | succ k ih =>
          intro z
          rw [List.replicate_succ] at z
          have z2 : (d.hasDict || PyData.hasDictAll (List.replicate k d)) = true := by simpa [PyData.hasDictAll] using z
          rcases Bool.or_eq_true_iff.mp z2 with z2 | z2
          · exact z2
          · exact ih z2
      exact key n (by simpa [PyData.hasDict] using e)
    exact no hd z
/-! ### raise of own exceptions, whatever built-in class is their base -/
def sp1n (f : Str) (C : Addr) : Sp := fun vs H Q _ => ∃ (a : Addr) (v : V), vs = [.ref a, v] ∧ H a = some (exo a C none) ∧ ∀ d, H d = none → d ≠ a → Q .non (upd (upd H d (exd d [(f, v)])) a (exo a C (some d)))
def sp2n (f g : Str) (C : Addr) : Sp := fun vs H Q _ => ∃ (a : Addr) (v u : V), vs = [.ref a, v, u] ∧ H a = some (exo a C none) ∧ ∀ d, H d = none → d ≠ a → Q .non (upd (upd (upd H d (exd d [(f, v)])) a (exo a C (some d))) d (exd d ((g, u) :: [(f, v)])))
/-- the class x of the module, at C, is made with n values by place, and may be raised -/
def XRz (P : Program) (w : World) (K : PySem.W.Frag) (mg : Str → Option Value) (base : Heap) (x : Str) (C : Addr) (n : Nat) (sp : Sp) : Prop :=
  ∃ (fI : Addr) (fd : FuncData) (ps : List Str) (B newId initId : String) (tl : List Value), ExcBaseFacts B newId initId tl ∧ XCls K C fI tl newId ∧ mg x = some (.ref C) ∧ FnOk P w K mg base CX0 1 fI fd ps sp ∧
    KBn K fd ps (n + 1) [] (fun us _ => us) (fun vs _ => vs) ∧ PySem.W.subIn K (.ref C) (.type "BaseException") = some true ∧ PySem.W.typeIn K (.ref C) = some (.type "type")
section
variable {X : Cx} {pins : List (Addr × Obj)} {σ : St} {s : Shared}
/-- the exception without a dict is let go -/
theorem mk_bare {H : Hp} {Q : XK} {h0 h1 h2 : Heap} {g1 g2 : Array GenState} {d1 d2 : Drawn} {t1 t2 : Nat} {o1 o2 : OsState} {a C : Addr} (R : Raises X (.ref C)) (I : Inv X pins σ H ⟨h0, g1, d1, t1, o1⟩) (new : h0.objs.size ≤ a) (on : ∀ b o, h0.get? b = some o → h1.get? b = some o)
    (un : Un (frs X.stack) [] (upd H a (exo a C none)) (upd H a (exo a C none)) h1 h2) (ok : HOk X.prog X.w (upd H a (exo a C none)) h2) (os : o2 = o1) (gens : PyProof.Rows.AllBare g2) (q : Q (.ref C) none H) : MkP X pins σ Q (.ref a) ⟨h2, g2, d2, t2, o2⟩ := by
  obtain ⟨t0, at_a⟩ := exo_at ok upd_same
  have free : H a = none := I.hok.fresh new
  obtain ⟨G, g_in, g_out⟩ := restrict h2 fun b => decide (b ≠ a)
  have same : ∀ b, b ≠ a → G.get? b = h2.get? b := fun b n => g_in b (decide_eq_true n)
  have gone : G.get? a = none := g_out a (by simp)
  have old : ∀ {b : Addr} {o : Obj}, h0.get? b = some o → b ≠ a := fun e => Nat.ne_of_lt (Nat.lt_of_lt_of_le (Heap.lt_size e) new)
  have off : ∀ {b : Addr} {o : HO}, H b = some o → b ≠ a := fun e => ne_of_none e free
  have still : ∀ {b : Addr}, b ≠ a → H b = none → upd H a (exo a C none) b = none := fun n e => by rw [upd_ne n]; exact e
  have U : Un (frs X.stack) [] H H h0 G :=
    { keep := fun b o e n m x => (same b (old e)).trans (un.keep b o (on b o e) (still (old e) n) m x)
      slot := fun b o e n m x => by
        obtain ⟨sl, y⟩ := un.slot b o (on b o e) (still (old e) n) m x
        exact ⟨sl, (same b (old e)).trans y⟩
      free := fun _ _ _ n _ => n
      there := fun b o e x => by
        obtain ⟨o', y⟩ := un.there b o (on b o e) x
        exact ⟨o', (same b (old e)).trans y⟩
      tups := fun _ _ e => e
      frzs := fun _ _ _ e => e
      tbls := fun b ps e => ⟨#[], by rw [e]; simp⟩ }
  have okG : HOk X.prog X.w H G := fun b o e => by
    have y := ok b o (by rw [upd_ne (off e)]; exact e)
    have noOwn : ∀ {c : Addr}, upd H a (exo a C none) c = some (.own b) → c ≠ a := fun {c} z m => by
      rw [m, upd_same] at z
      exact exo_own (Option.some.inj z)
    refine y.stay (fun c v hc z => ?_) (fun c z => ?_) fun c xs z => ?_
    · have hca : c ≠ a := by
        rcases hc with m | m
        · rw [m]
          exact off e
        · exact noOwn m
      exact (same c hca).trans z
    · rw [upd_ne (noOwn z)] at z
      exact z
    · by_cases m : c = a
      · rw [m, upd_same] at z
        exact (exo_tup (Option.some.inj z)).elim
      · rw [upd_ne m] at z
        exact z
  have J : Inv X pins σ H ⟨G, g2, d2, t2, o2⟩ := I.call' (ch := []) os U okG gens fun b m => absurd m (by simp)
  refine ⟨a, _, _, ⟨G, g2, d2, t2, o2⟩, H, .ref C, none, rfl, J, fun b o e => ?_, gone, at_a, ⟨rfl, rfl⟩, rfl, rfl, free, rfl, gens, R, q⟩
  by_cases m : b = a
  · rw [m, gone] at e
    cases e
  · exact (same b m).symm.trans e
/-- what is asked so that C(vs ..) is raised: its dict, where it has one, is new -/
def Flies (C : Addr) (sp : Sp) (vs : List V) (H1 : Hp) (Q : XK) : Prop := ∀ a, H1 a = none → sp (.ref a :: vs) (upd H1 a (exo a C none)) (fun v H2 => v = .non ∧
  ((∃ (d : Addr) (fs : List (Str × V)), H2 a = some (exo a C (some d)) ∧ H2 d = some (exd d fs) ∧ H1 d = none ∧ Q (.ref C) (some d) (upd (del H2 a) d (.xd fs))) ∨ (H2 = upd H1 a (exo a C none) ∧ Q (.ref C) none H1))) E0
theorem run_flies {x : Str} {C : Addr} {n : Nat} {sp : Sp} {H : Hp} {Q : XK} {us : List Value} {vs : List V} (o : XRz X.prog X.w X.K X.mg X.base x C n sp) (hr : Room 2 X.A) (I : Inv X pins σ H s) (r : Vals vs us) (l1 : vs.length = n) (few : vs.length ≤ 1000) (z : Flies C sp vs H Q) :
    wpAny (model X.prog X.w) X.A (call (.ref C) us) (MkP X pins σ Q) X.xe s := by
  obtain ⟨fI, fd, ps, B, newId, initId, tl, FB, T, m, F, hb, sub, ty⟩ := o
  have R : Raises X (.ref C) := raises_own sub ty
  obtain ⟨hp, gs, dr, tk, os⟩ := s
  obtain ⟨nm, N, qn, bs, bm, hdct, sn, sub', ab, col, dd, k0, k1, k2, k3, k5, hC, same⟩ := PySem.W.excInit_of I.kIn T.ini
  have up : hp.objs.size ≤ hp.objs.size + 1 := Nat.le_succ _
  have hq := z (hp.objs.size + 1) (I.hok.fresh up)
  have stay : ∀ b o, hp.get? b = some o → (exLaid hp C us).get? b = some o := fun b o q => Heap.get?_push_of_some _ (Heap.get?_push_of_some _ q)
  have made : (exLaid hp C us).get? (hp.objs.size + 1) = some { cls := .ref C, data := .fields #[.ref hp.objs.size, .none, .none, .none, .bool false, .none] } := by
    unfold exLaid
    heap_get
  have I2 : Inv X pins σ (upd H (hp.objs.size + 1) (exo (hp.objs.size + 1) C none)) ⟨exLaid hp C us, gs, dr, tk, os⟩ := I.laid (t' := tk) stay up (exo_ok made)
  have r1 : Vals (V.ref (hp.objs.size + 1) :: vs) (Value.ref (hp.objs.size + 1) :: us) := .cons rfl r
  have n1 : (Value.ref (hp.objs.size + 1) :: us).length = n + 1 := by
    rw [List.length_cons, ← r.length, l1]
  have fewU : us.length ≤ sizeLine := by
    rw [← r.length]
    exact Nat.le_trans few (by decide)
  obtain ⟨oI, at_I, isI⟩ : ∃ oI, hp.get? fI = some oI ∧ oI.cls = .type "function" := by
    obtain ⟨o, q, c⟩ := Option.map_eq_some_iff.mp (show (X.K.lookup fI).map (·.cls) = some (.type "function") from beq_iff_eq.mp T.isF)
    exact ⟨o, I.kIn _ _ q, c⟩
  refine wpAny_call (kw_call FB same hC (PySem.W.looks_findIn I.kIn T.init) (fun self => PySem.W.exc_bind at_I isI self) fewU (codeAny_mono (F.run _ X.stack _ _ ⟨Value.ref (hp.objs.size + 1) :: us, []⟩ (Value.ref (hp.objs.size + 1) :: us) _ _ E0
    (hr.make C us []) (I2.env0.make C us []) (hb.to _ (Value.ref (hp.objs.size + 1) :: us) [] I2.kIn n1 rfl) r1 hq) ?_))
  rintro (er | _ | _ | _ | u) s' y
  · exact y.elim
  · exact y.elim
  · exact y.elim
  · exact y.elim
  · obtain ⟨v, H2, os2, bare2, un2, ok2, rv, ev, y⟩ := y
    subst ev
    refine ⟨rv, ?_⟩
    obtain ⟨h2, g2, d2, t2, os'⟩ := s'
    rcases y with ⟨d, fs, ea, ed, nd, q⟩ | ⟨e, q⟩
    · exact mk_end R I up stay un2 ok2 os2 bare2 ea ed nd q
    · subst e
      exact mk_bare R I up stay un2 ok2 os2 bare2 q
/-- x(e, ..) in a raise -/
theorem pmk_flies {x : Str} {C : Addr} {n : Nat} {sp : Sp} {e : Expr} {es : List Expr} {t : TA} {p pos : Pos} (o : XRz X.prog X.w X.K X.mg X.base x C n sp) (hr : Room 2 X.A) (hg : Gl X x) (ha : PA X (e :: es) t) (hdb : (x == ("__debug__" : Str)) = false := by decide)
    (he : starEach (e :: es) X.env = (false, eval e X.env) :: starEach es X.env := by rfl) (hpl : (backTo pos (starEach es X.env)).any (·.1) = false := by rfl) :
    PMk X (.Call (.Name x p) (e :: es) [] pos) (fun σ H Q => t σ H fun vs H1 => vs.length = n ∧ vs.length ≤ 1000 ∧ Flies C sp vs H1 Q) := by
  intro pins s σ H Q I h
  obtain ⟨fI, fd, ps, B, newId, initId, tl, FB, T, m, F, hb, sub, ty⟩ := id o
  exact wpAny_Call_Name_kw (ld_glob I hg m (PySem.W.callWith_K (h₀ := X.base) I.ok.mod.kin T.kp (thn (ha.run pos pins s σ H _ I h) fun us s1 ⟨vs, H1, I1, r, l1, l2, q⟩ => ⟨I1.kIn, run_flies o hr I1 r l1 l2 q⟩) he hpl) hdb)
theorem xd_eq {H : Hp} {a C d : Addr} {o o' : HO} {fs : List (Str × V)} (n : H a = none) (ne : d ≠ a) : upd (del (upd (upd (upd H a o) d o') a (exo a C (some d))) a) d (.xd fs) = upd H d (.xd fs) := by
  funext b
  by_cases hb : b = d
  · rw [hb, upd_same, upd_same]
  · rw [upd_ne hb, upd_ne hb]
    by_cases ha : b = a
    · rw [ha, del_same, n]
    · rw [del_ne ha, upd_ne ha, upd_ne hb, upd_ne ha]
theorem xd_eq2 {H : Hp} {a C d : Addr} {o o' o2 : HO} {fs : List (Str × V)} (n : H a = none) (ne : d ≠ a) : upd (del (upd (upd (upd (upd H a o) d o') a (exo a C (some d))) d o2) a) d (.xd fs) = upd H d (.xd fs) := by
  funext b
  by_cases hb : b = d
  · rw [hb, upd_same, upd_same]
  · rw [upd_ne hb, upd_ne hb]
    by_cases ha : b = a
    · rw [ha, del_same, n]
    · rw [del_ne ha, upd_ne hb, upd_ne ha, upd_ne hb, upd_ne ha]
theorem flies1 {H : Hp} {f : Str} {C : Addr} {v : V} {Q : XK} (q : ∀ d, H d = none → Q (.ref C) (some d) (upd H d (.xd [(f, v)]))) : Flies C (sp1n f C) [v] H Q := fun a na => ⟨a, v, rfl, upd_same, fun d nd ne => ⟨rfl, .inl ⟨d, [(f, v)], upd_same, by rw [upd_ne ne, upd_same], by rw [upd_ne ne] at nd; exact nd, by
  rw [xd_eq na ne]
  rw [upd_ne ne] at nd
  exact q d nd⟩⟩⟩
theorem flies2 {H : Hp} {f g : Str} {C : Addr} {v u : V} {Q : XK} (q : ∀ d, H d = none → Q (.ref C) (some d) (upd H d (.xd [(g, u), (f, v)]))) : Flies C (sp2n f g C) [v, u] H Q := fun a na => ⟨a, v, u, rfl, upd_same, fun d nd ne => ⟨rfl, .inl ⟨d, [(g, u), (f, v)], by rw [upd_ne (Ne.symm ne), upd_same], upd_same, by rw [upd_ne ne] at nd; exact nd, by
  rw [xd_eq2 na ne]
  rw [upd_ne ne] at nd
  exact q d nd⟩⟩⟩
variable {x : Str} {C : Addr} {n : Nat} {sp : Sp} {W : WX} {e : Expr} {es : List Expr} {t : TA} {p pos pos2 : Pos}
/-- raise x(e, ..) -/
theorem ps_raiseN (o : XRz X.prog X.w X.K X.mg X.base x C n sp) (hr : Room 2 X.A) (hc : X.calm = true) (tk : Takes X W) (hg : Gl X x) (ha : PA X (e :: es) t) (hdb : (x == ("__debug__" : Str)) = false := by decide)
    (he : starEach (e :: es) X.env = (false, eval e X.env) :: starEach es X.env := by rfl) (hpl : (backTo pos (starEach es X.env)).any (·.1) = false := by rfl) :
    PS X (.Raise (some (.Call (.Name x p) (e :: es) [] pos)) none pos2) (fun _ σ H => t σ H fun vs H1 => vs.length = n ∧ vs.length ≤ 1000 ∧ Flies C sp vs H1 fun cls d H' => W cls d σ H') :=
  ps_raise hc tk (pmk_flies o hr hg ha hdb he hpl)
end
/-! ### try with several except clauses, each with a name of its own or with none -/
/-- what is wanted behind a suite whose name stands in slot i: there the name is gone -/
def behindName (i : Nat) (D : Ends) : Ends :=
  { nx := fun τ G => D.nx (τ.set i none) G, rt := D.rt, bk := fun τ G => D.bk (τ.set i none) G, ct := fun τ G => D.ct (τ.set i none) G }
/-- a clause: its class, its name's slot, its suite's reading -/
structure Clause where
  cls : Value
  slot : Option Nat
  ts : Addr → Value → Option Addr → TS
/-- the suite is entered with the exception at a -/
def Clause.enters (c : Clause) (a : Addr) (kd : Value) (dd : Option Addr) (D : Ends) (τ : St) (G : Hp) : Prop :=
  match c.slot with
  | none => c.ts a kd dd D τ G
  | some i => c.ts a kd dd (behindName i D) (τ.set i (some (.ref a))) G
/-- what the clauses, one after the other, wish of an exception -/
def wishes (K : PySem.W.Frag) (out : WX) (D : Ends) : List Clause → WX
  | [] => out
  | c :: r => fun kd dd τ G => ∃ hit, PySem.W.exmOne K kd c.cls = some hit ∧ (hit = true → ∀ a, G a = none → c.enters a kd dd D τ G) ∧ (hit = false → wishes K out D r kd dd τ G)
abbrev SuiteOk (X : Cx) (sts : List Stmt) (ts : Addr → Value → Option Addr → TS) : Prop :=
  ∀ (a : Addr) (ob : Obj) (kd : Value) (dd : Option Addr) (ps : List (Addr × Obj)), Zc kd dd ob → (∃ fv, ob.data = .fields fv) → PSs (X.suite a ((a, ob) :: ps)) sts (ts a kd dd)
inductive Clauses (X : Cx) : List ExceptHandler → List Clause → Prop
  | nil : Clauses X [] []
  | bare {x : Str} {c : Value} {ts : Addr → Value → Option Addr → TS} {st : Stmt} {sts : List Stmt} {p1 p2 : Pos} {hs : List ExceptHandler} {l : List Clause} (nm : Names X x c) (su : SuiteOk X (st :: sts) ts) (r : Clauses X hs l) :
      Clauses X (.ExceptHandler (some (.Name x p1)) none (st :: sts) p2 :: hs) (⟨c, none, ts⟩ :: l)
  | named {x y : Str} {i : Nat} {c : Value} {ts : Addr → Value → Option Addr → TS} {st : Stmt} {sts : List Stmt} {p1 p2 : Pos} {hs : List ExceptHandler} {l : List Clause} (nm : Names X x c) (at_i : X.N[i]? = some y) (lo : X.env.kindOf y = some .local) (su : SuiteOk X (st :: sts) ts)
      (r : Clauses X hs l) : Clauses X (.ExceptHandler (some (.Name x p1)) (some y) (st :: sts) p2 :: hs) (⟨c, some i, ts⟩ :: l)
section
variable {X : Cx} {body : List Stmt} {hd : ExceptHandler} {hs : List ExceptHandler} {l : List Clause} {pos : Pos} {tb : WX → TS} {out : WX}
theorem ps_tryN (top : X.stack = X.env :: X.outer) (own : X.env.frame = some X.env.locals) (nd : X.N.Nodup) (tk : Takes X out)
    (bd : ∀ (W : WX) (ps : List (Addr × Obj)) (xe : Value → Shared → Prop), Takes (X.tr ps xe) W → PassesOwn (model X.prog X.w) X.A X.env xe → PSs (X.tr ps xe) body (tb W))
    (cl : Clauses X (hd :: hs) l) : PS X (.Try body (hd :: hs) [] [] pos) (fun D τ G => tb (wishes X.K out D l) D τ G) := by
  refine ⟨fun pins s τ G D I q => wpAny_Try_except (wpAny_mono ((bd (wishes X.K out D l) (X.pn ++ pins) (fun e z1 => wpAny (model X.prog X.w) X.A (noteFrame e X.env) (fun _ z2 => wpAny (model X.prog X.w) X.A (setFlight e none)
    (fun _ z3 => wpAny (model X.prog X.w) X.A (handleBy e X.env (hd :: hs)) (SP X pins D) X.xe z3) X.xe z2) X.xe z1) (fun u z caught => ?_) PassesOwn.looking).run [] s τ G D (I.toTry _) q) ?_ fun _ _ w => w)⟩
  · -- an exception of the body
    have fit := I.ok
    have frs_ : X.A.frames = some (X.env :: X.outer) := fit.frames.trans (by rw [top])
    obtain ⟨a, B, sI, pins1, τ1, G1, kd, dd, rfl, J1, nb, up, sky, free, os, ag, wish⟩ := caught
    have J : Inv X pins τ1 G1 sI := J1.ofTry fit
    show wpAny (model X.prog X.w) X.A (noteFrame (.ref a) X.env) _ _ _
    refine Sky.land Zc.steady frs_ own (by rw [← top]; exact sky) fun h1 fly1 up1 => ?_
    have J2 : Inv X pins τ1 G1 { z with heap := h1 } := J.landed nb fly1.1 (up.trans up1) os ag
    obtain ⟨ob, fv, at_a, zc, isF⟩ := fly1.there
    -- the exception is no frame
    have noFrame : a ∉ frs (X.env :: X.outer) := fun m => by
      obtain ⟨_, o2, e2, no⟩ := fly1.2.2.1.mem m
      rw [at_a] at e2
      cases e2
      exact no _ isF
    have neL : a ≠ X.env.locals := fun e => noFrame (List.mem_filterMap.mpr ⟨X.env, List.mem_cons_self, by rw [own, e]⟩)
    have notF : a ∉ X.fs := fun m => by
      obtain ⟨en, hen, e⟩ := List.mem_filterMap.mp m
      exact noFrame (List.mem_filterMap.mpr ⟨en, List.mem_cons_of_mem _ hen, e⟩)
    have U := J2.suite at_a isF free neL notF
    have tyA : PySem.W.Looks (model X.prog X.w) h1 (typeOf (.ref a)) kd := fun _ _ _ _ kp w => wpAny_typeOf_ref (kp _ _ at_a) (by rw [zc.1]; exact w)
    -- a clause's class is looked up
    have class_ : ∀ {x : Str} {c : Value} {p1 : Pos} {Q : Value → Shared → Prop} {E : Value → Shared → Prop}, Names X x c → Q c { z with heap := h1 } →
        wpAny (model X.prog X.w) (X.A.mark (some (.ref a))) (eval (.Name x p1) X.env) Q E { z with heap := h1 } := fun {x c p1 Q E} nm w => by
      rcases nm with ⟨g, nodbg, m | ⟨m, v, noname⟩⟩
      · exact ld_glob (X := X.suite a ((a, ob) :: (X.pn ++ pins))) U g m w nodbg
      · exact ld_blt (X := X.suite a ((a, ob) :: (X.pn ++ pins))) U g m v w noname nodbg
    have walk : ∀ {hs' : List ExceptHandler} {l' : List Clause}, Clauses X hs' l' → wishes X.K out D l' kd dd τ1 G1 → wpAny (model X.prog X.w) X.A (handleBy (.ref a) X.env hs') (SP X pins D) X.xe { z with heap := h1 } := by
      intro hs' l' c
      induction c with
      | nil =>
        intro w
        obtain ⟨_, _, _, oe, vs, T, oT, _, e1, _, e2, e3, _⟩ := id fly1
        have on : wpAny (model X.prog X.w) X.A (setFlight (.ref a) X.env.frame) (fun _ z4 => wpAny (model X.prog X.w) X.A (throw (.ref a) : Sem Flow) (SP X pins D) X.xe z4) X.xe { z with heap := h1 } := by
          rw [own]
          exact HandSPX.setFlight_upZ fly1 fun h2 sky2 up2 => wpAny_throw (tk _ _ ⟨a, B, sI, pins, τ1, G1, kd, dd, rfl, J, nb, (up.trans up1).trans up2, .inr (.inr (by rw [top]; exact sky2)), free, os, ag, w⟩)
        refine wpAny_handleBy_nil ?_
        unfold PySem.passOn
        refine wpAny_bind (wpAny_field e1 e2 e3 ?_)
        rw [if_neg (by simp)]
        first
          | exact wpAny_bind on
          | exact wpAny_bind (wpAny_pure (wpAny_bind on))
      | @bare x c ts st sts p1 p2 hs2 l2 nm su r ih =>
        intro w
        obtain ⟨hit, ex, yes, no⟩ := w
        refine wpAny_handleBy_cons (codeAny_handlers_test (class_ nm ((PySem.W.exm_one (M := model X.prog X.w) J2.kIn tyA ex).here ?_))) (fun e => by cases e)
        cases hit with
        | false => exact ih (no rfl)
        | true =>
          refine codeAny_handlers_suite (HandSPX.lands_againZ fly1 fun h2 fly2 up2 => ?_)
          obtain ⟨ob2, fv2, at2, zc2, isF2⟩ := fly2.there
          have V := (J.landed (s' := { z with heap := h2 }) nb fly2.1 ((up.trans up1).trans up2) os ag).suite at2 isF2 free neL notF
          refine wpAny_mono ((su a ob2 kd dd (X.pn ++ pins) zc2 ⟨_, isF2⟩).run [] _ _ G1 _ V (yes rfl a free)) ?_ fun _ _ w => w.elim
          rintro (_ | _ | _ | u) z6 y
          · obtain ⟨τ6, G6, S6, q6⟩ := y
            exact ⟨_, _, S6.unsuite fit, q6⟩
          · obtain ⟨τ6, G6, S6, q6⟩ := y
            exact ⟨_, _, S6.unsuite fit, q6⟩
          · obtain ⟨τ6, G6, S6, q6⟩ := y
            exact ⟨_, _, S6.unsuite fit, q6⟩
          · obtain ⟨v6, τ6, G6, S6, r6, q6⟩ := y
            exact ⟨_, _, _, S6.unsuite fit, r6, q6⟩
      | @named x y i c ts st sts p1 p2 hs2 l2 nm at_i lo su r ih =>
        intro w
        obtain ⟨hit, ex, yes, no⟩ := w
        refine wpAny_handleBy_cons (codeAny_handlers_test (class_ nm ((PySem.W.exm_one (M := model X.prog X.w) J2.kIn tyA ex).here ?_))) (fun e => by cases e)
        cases hit with
        | false => exact ih (no rfl)
        | true =>
          refine codeAny_handlers_suite_as (HandSPX.lands_againZ fly1 fun h2 fly2 up2 => ?_)
          obtain ⟨ob2, fv2, at2, zc2, isF2⟩ := fly2.there
          have V := (J.landed (s' := { z with heap := h2 }) nb fly2.1 ((up.trans up1).trans up2) os ag).suite at2 isF2 free neL notF
          refine store_ok (X := X.suite a ((a, ob2) :: (X.pn ++ pins))) (v := .ref a) V nd at_i (.inl lo) rfl (fun z5 V5 => ?_) (.inr lo)
          have gone : ∀ {τ6 : St} {G6 : Hp} {R : Shared → Prop} {z6 : Shared}, Inv (X.suite a ((a, ob2) :: (X.pn ++ pins))) [] τ6 G6 z6 → (∀ z7, Inv X pins (τ6.set i none) G6 z7 → R z7) →
              wpAny (model X.prog X.w) X.A (do bindName X.env y .none; unbindBehindTheSuite X.env y p2) (fun _ z7 => R z7) X.xe z6 := fun {τ6 G6 R z6} S6 w => gone_ok (S6.unsuite fit) nd at_i lo w
          refine wpAny_mono ((su a ob2 kd dd (X.pn ++ pins) zc2 ⟨_, isF2⟩).run [] z5 _ G1 _ V5 (yes rfl a free)) ?_ fun _ _ w => w.elim
          rintro (_ | _ | _ | u) z6 k6
          · obtain ⟨τ6, G6, S6, q6⟩ := k6
            exact gone S6 fun z7 J7 => ⟨_, _, J7, q6⟩
          · obtain ⟨τ6, G6, S6, q6⟩ := k6
            exact gone S6 fun z7 J7 => ⟨_, _, J7, q6⟩
          · obtain ⟨τ6, G6, S6, q6⟩ := k6
            exact gone S6 fun z7 J7 => ⟨_, _, J7, q6⟩
          · obtain ⟨v6, τ6, G6, S6, r6, q6⟩ := k6
            exact gone S6 fun z7 J7 => ⟨_, _, _, J7, r6, q6⟩
    exact walk cl wish
  · rintro (_ | _ | _ | u) z1 y
    · obtain ⟨τ1, G1, J1, w⟩ := y
      exact wpAny_execs_nil ⟨τ1, G1, J1.ofTry I.ok, w⟩
    · obtain ⟨τ1, G1, J1, w⟩ := y
      exact ⟨τ1, G1, J1.ofTry I.ok, w⟩
    · obtain ⟨τ1, G1, J1, w⟩ := y
      exact ⟨τ1, G1, J1.ofTry I.ok, w⟩
    · obtain ⟨v, τ1, G1, J1, r, w⟩ := y
      exact ⟨v, τ1, G1, J1.ofTry I.ok, r, w⟩
end
/-! ### own words: a def by its name, its promise by its name -/
/-- the def x of the text stands in the module -/
def Has (K : PySem.W.Frag) (mg : Str → Option Value) (x : Str) (st : Stmt) (ps : List Str) : Prop :=
  ∃ f fd, mg x = some (.ref f) ∧ Binds K fd ps [] ∧ Fun K x x st f fd
/-- the def x keeps the promise sp -/
def Ok (P : Program) (w : World) (K : PySem.W.Frag) (mg : Str → Option Value) (base : Heap) (k : Nat) (x : Str) (ps : List Str) (sp : Sp) : Prop :=
  ∃ f fd, mg x = some (.ref f) ∧ PySem.W.keepIn K (.ref f) = true ∧ Binds K fd ps [] ∧ FnOk P w K mg base CX0 k f fd ps sp
theorem pe_cO {X : Cx} {k : Nat} {x : Str} {ps : List Str} {sp : Sp} {p pos : Pos} {e : Expr} {es : List Expr} {t : TA} {E : XK} (o : Ok X.prog X.w X.K X.mg X.base k x ps sp) (hr : Room k X.A) (hx : Passes CX0 X E) (hg : Gl X x)
    (ha : PA X (e :: es) t) (hdb : (x == ("__debug__" : Str)) = false := by decide) (he : starEach (e :: es) X.env = (false, eval e X.env) :: starEach es X.env := by rfl) (hpl : (backTo pos (starEach es X.env)).any (·.1) = false := by rfl) :
    PE X (.Call (.Name x p) (e :: es) [] pos) (tCall sp [] E t) := by
  obtain ⟨f, fd, g, kp, b, G⟩ := o
  exact pe_call G hr hg g kp b .nil hx ha hdb he hpl
/-! ### numbers of a fair size -/
def Sm (i : Int) : Prop := -(2 ^ 600) < i ∧ i < 2 ^ 600
theorem Sm.nat {i : Int} (h : Sm i) : i.natAbs < 2 ^ 600 := by
  obtain ⟨h1, h2⟩ := h
  omega
section
variable {X : Cx}
theorem op_mulS : OpR X (binaryOp .Mult) (rI (fun i j => Sm i ∧ Sm j) fun i j => .int (i * j)) := by
  intro pins s σ H x y v u Q I rx ry h
  obtain ⟨i, j, rfl, rfl, ⟨h1, h2⟩, q⟩ := h
  exact op_mulW pins s σ H _ _ v u Q I rx ry ⟨i, j, rfl, rfl, wide_mul h1.nat h2.nat (by decide) (by decide) (by decide), q⟩
theorem op_divS : OpR X (binaryOp .FloorDiv) (rI (fun _ j => j ≠ 0 ∧ Sm j) fun i j => .int (i.fdiv j)) := opI fun i j _ _ _ _ _ hc q =>
  PyProof.Rows.floordiv_int hc.1 q (.inl (PyProof.noPylong_of_log2 (Nat.lt_of_lt_of_le (PySem.Flt.log2_lt_of (by decide : 0 < 600) hc.2.nat) (by decide))))
end
/-! ### heaps: all but the pool stays -/
def Keep (pp : Addr) (H H' : Hp) : Prop := ∀ b o, H b = some o → b ≠ pp → H' b = some o
theorem Keep.refl {pp : Addr} {H : Hp} : Keep pp H H := fun _ _ h _ => h
theorem Keep.trans {pp : Addr} {H H1 H2 : Hp} (a : Keep pp H H1) (b : Keep pp H1 H2) : Keep pp H H2 := fun c o h n => b c o (a c o h n) n
theorem Same.keep {pp : Addr} {H H' : Hp} (a : Same H H') : Keep pp H H' := fun b o h _ => a b o h
theorem Keep.seq {pp a : Addr} {K : PySem.W.Frag} {H H' : Hp} {xs : List V} (e : Keep pp H H') (n : a ≠ pp) (h : SqL K H a xs) : SqL K H' a xs := by
  rcases h with (h | ⟨o, h⟩) | h
  · exact .inl (.inl (e _ _ h n))
  · exact .inl (.inr ⟨o, e _ _ h n⟩)
  · exact .inr h
theorem Same.new {H : Hp} {p : Addr} {o : HO} (n : H p = none) : Same H (upd H p o) := fun b u h => by
  rw [upd_ne (ne_of_none h n)]
  exact h
/-- a pool of draws stands at pp -/
def PoolAt (H : Hp) (pp : Addr) : Prop := ∃ c s : Int, 0 ≤ s ∧ s < 2147483647 ∧ H pp = some (.lst [.int c, .int s])
theorem PoolAt.keep {H H' : Hp} {pp p : Addr} (h : PoolAt H p) (e : Keep pp H H') (n : p ≠ pp) : PoolAt H' p := by
  obtain ⟨c, s, h0, h1, h2⟩ := h
  exact ⟨c, s, h0, h1, e _ _ h2 n⟩
theorem PoolAt.same {H H' : Hp} {p : Addr} (h : PoolAt H p) (e : Same H H') : PoolAt H' p := by
  obtain ⟨c, s, h0, h1, h2⟩ := h
  exact ⟨c, s, h0, h1, e _ _ h2⟩
theorem PoolAt.ne {H : Hp} {p q : Addr} (h : PoolAt H p) (n : H q = none) : q ≠ p := by
  obtain ⟨c, s, h0, h1, h2⟩ := h
  exact (ne_of_none h2 n).symm
theorem Keep.free {pp l : Addr} {H H' : Hp} (e : Keep pp H H') (h : PoolAt H' pp) (n : H' l = none) : H l = none := by
  cases q : H l with
  | none => rfl
  | some o =>
    rw [e l o q (h.ne n)] at n
    cases n
theorem atI0 {α : Type} {x : α} {xs : List α} : atI (x :: xs) 0 = some x := atI_nat (j := 0) rfl
theorem atI1 {α : Type} {x y : α} {xs : List α} : atI (x :: y :: xs) 1 = some y := atI_nat (j := 1) rfl
theorem n29 : (2147483629 : Int) ≠ 0 := by decide
theorem n47 : (2147483647 : Int) ≠ 0 := by decide
theorem vne {i j : Int} (h : i ≠ j) : ¬ decide (V.int i = V.int j) = true := fun z => h (by injection of_decide_eq_true z)
theorem veq {i j : Int} (h : i = j) : decide (V.int i = V.int j) = true := decide_eq_true (by rw [h])
theorem sne {i j : Str} (h : i ≠ j) : ¬ decide (V.str i = V.str j) = true := fun z => h (by injection of_decide_eq_true z)
theorem iteN {c A B : Prop} [Decidable c] (h : ¬ c) (q : B) : if c then A else B := by
  rw [if_neg h]
  exact q
theorem iteP {c A B : Prop} [Decidable c] (h : c) (q : A) : if c then A else B := by
  rw [if_pos h]
  exact q
/-! ### the built-ins, by name -/
theorem bb_isinstance : bootBuiltins "isinstance" = some (.builtin "isinstance") := by decide +kernel
theorem bb_len : bootBuiltins "len" = some (.builtin "len") := by decide +kernel
theorem bb_max : bootBuiltins "max" = some (.builtin "max") := by decide +kernel
theorem bb_min : bootBuiltins "min" = some (.builtin "min") := by decide +kernel
theorem bb_abs : bootBuiltins "abs" = some (.builtin "abs") := by decide +kernel
theorem bb_all : bootBuiltins "all" = some (.builtin "all") := by decide +kernel
theorem bb_repr : bootBuiltins "repr" = some (.builtin "repr") := by decide +kernel
theorem bb_int : bootBuiltins "int" = some (.type "int") := by decide +kernel
theorem bb_bool : bootBuiltins "bool" = some (.type "bool") := by decide +kernel
theorem bb_str : bootBuiltins "str" = some (.type "str") := by decide +kernel
theorem bb_list : bootBuiltins "list" = some (.type "list") := by decide +kernel
theorem bb_tuple : bootBuiltins "tuple" = some (.type "tuple") := by decide +kernel
/-! ### what stays; data that is tracked; comprehensions by what their elements are -/
section
/-- all that stands outside Z stays -/
def Fm (Z : Addr → Prop) (H H' : Hp) : Prop := ∀ b o, H b = some o → ¬ Z b → H' b = some o
abbrev Z0 : Addr → Prop := fun _ => False
abbrev Zp (pp : Addr) : Addr → Prop := fun b => b = pp
theorem Fm.refl {Z : Addr → Prop} {H : Hp} : Fm Z H H := fun _ _ h _ => h
theorem Fm.trans {Z : Addr → Prop} {H H1 H2 : Hp} (a : Fm Z H H1) (b : Fm Z H1 H2) : Fm Z H H2 := fun c o h n => b c o (a c o h n) n
theorem Fm.of {Z : Addr → Prop} {H H' : Hp} (s : Same H H') : Fm Z H H' := fun b o h _ => s b o h
theorem Fm.same {H H' : Hp} (s : Fm Z0 H H') : Same H H' := fun b o h => s b o h id
theorem Fm.keep {pp : Addr} {H H' : Hp} (s : Fm (Zp pp) H H') : Keep pp H H' := s
theorem Keep.fr {pp : Addr} {H H' : Hp} (s : Keep pp H H') : Fm (Zp pp) H H' := s
theorem Fm.new {Z : Addr → Prop} {H : Hp} {p : Addr} {o : HO} (n : H p = none) : Fm Z H (upd H p o) := Fm.of (Same.new n)
/-- a later store at a place that was free -/
theorem Fm.on {Z : Addr → Prop} {H H' : Hp} {p : Addr} {o : HO} (s : Fm Z H H') (n : H p = none) : Fm Z H (upd H' p o) := fun b u h z => by
  rw [upd_ne (ne_of_none h n)]
  exact s b u h z
mutual
/-- the value v is the data d, all of it tracked and outside Z -/
inductive Dt (Z : Addr → Prop) (H : Hp) : V → PyData → Prop
  | non : Dt Z H .non .none
  | bl (b : Bool) : Dt Z H (.bl b) (.bool b)
  | int (i : Int) : Dt Z H (.int i) (.int i)
  | str (x : Str) : Dt Z H (.str x) (.str x)
  | lst {a : Addr} {xs : List V} {ds : List PyData} : H a = some (.lst xs) → ¬ Z a → DtAll Z H xs ds → Dt Z H (.ref a) (.list ds)
  | tup {a : Addr} {xs : List V} {ds : List PyData} : H a = some (.tup xs) → ¬ Z a → DtAll Z H xs ds → Dt Z H (.ref a) (.tuple ds)
  | emp {a : Addr} : H a = some (.dK []) → ¬ Z a → Dt Z H (.ref a) (.dict [])
inductive DtAll (Z : Addr → Prop) (H : Hp) : List V → List PyData → Prop
  | nil : DtAll Z H [] []
  | cons {v : V} {vs : List V} {d : PyData} {ds : List PyData} : Dt Z H v d → DtAll Z H vs ds → DtAll Z H (v :: vs) (d :: ds)
end
variable {Z : Addr → Prop} {H H' : Hp} {K : PySem.W.Frag}
mutual
theorem Dt.fr' (s : Fm Z H H') {v : V} {d : PyData} (h : Dt Z H v d) : Dt Z H' v d :=
  match h with
  | .non => .non
  | .bl b => .bl b
  | .int i => .int i
  | .str x => .str x
  | .lst e n t => .lst (s _ _ e n) n (DtAll.fr' s t)
  | .tup e n t => .tup (s _ _ e n) n (DtAll.fr' s t)
  | .emp e n => .emp (s _ _ e n) n
theorem DtAll.fr' (s : Fm Z H H') {vs : List V} {ds : List PyData} (h : DtAll Z H vs ds) : DtAll Z H' vs ds :=
  match h with
  | .nil => .nil
  | .cons a b => .cons (Dt.fr' s a) (DtAll.fr' s b)
end
theorem Dt.fr {v : V} {d : PyData} (h : Dt Z H v d) (s : Fm Z H H') : Dt Z H' v d := Dt.fr' s h
theorem DtAll.fr {vs : List V} {ds : List PyData} (h : DtAll Z H vs ds) (s : Fm Z H H') : DtAll Z H' vs ds := DtAll.fr' s h
mutual
theorem Dt.dp' {v : V} {d : PyData} (c : d.canLay0 = true) (h : Dt Z H v d) : Dp K H v d :=
  match h with
  | .non => .non
  | .bl b => .bl b
  | .int i => .int i
  | .str x => .str x
  | .lst e n t => .lst (SqL.of e) (DtAll.dp' (by simpa [PyData.canLay0] using c) t)
  | .tup e n t => .tup (SqT.of e) (DtAll.dp' (by simpa [PyData.canLay0] using c) t)
  | .emp e n => by simp [PyData.canLay0] at c
theorem DtAll.dp' {vs : List V} {ds : List PyData} (c : PyData.canLayAll0 ds = true) (h : DtAll Z H vs ds) : DpAll K H vs ds :=
  match h with
  | .nil => .nil
  | .cons a b => by
    have c' := c
    unfold PyData.canLayAll0 at c'
    obtain ⟨c1, c2⟩ := Bool.and_eq_true_iff.mp c'
    exact .cons (Dt.dp' c1 a) (DtAll.dp' c2 b)
end
theorem Dt.dp {v : V} {d : PyData} (h : Dt Z H v d) (c : d.canLay0 = true) : Dp K H v d := Dt.dp' c h
mutual
theorem Dt.mono' {Z' : Addr → Prop} (z : ∀ a, Z' a → Z a) {v : V} {d : PyData} (h : Dt Z H v d) : Dt Z' H v d :=
  match h with
  | .non => .non
  | .bl b => .bl b
  | .int i => .int i
  | .str x => .str x
  | .lst e n t => .lst e (fun m => n (z _ m)) (DtAll.mono' z t)
  | .tup e n t => .tup e (fun m => n (z _ m)) (DtAll.mono' z t)
  | .emp e n => .emp e (fun m => n (z _ m))
theorem DtAll.mono' {Z' : Addr → Prop} (z : ∀ a, Z' a → Z a) {vs : List V} {ds : List PyData} (h : DtAll Z H vs ds) : DtAll Z' H vs ds :=
  match h with
  | .nil => .nil
  | .cons a b => .cons (Dt.mono' z a) (DtAll.mono' z b)
end
theorem Dt.z0 {v : V} {d : PyData} (h : Dt Z H v d) : Dt Z0 H v d := Dt.mono' (fun _ m => m.elim) h
theorem Dt.mono {Z' : Addr → Prop} {v : V} {d : PyData} (h : Dt Z H v d) (z : ∀ a, Z' a → Z a) : Dt Z' H v d := Dt.mono' z h
theorem DtAll.len {vs : List V} {ds : List PyData} (h : DtAll Z H vs ds) : vs.length = ds.length := by
  induction vs generalizing ds with
  | nil => cases h; rfl
  | cons v vs ih => cases h with | cons a b => rw [List.length_cons, List.length_cons, ih b]
theorem DtAll.get {vs : List V} {ds : List PyData} (h : DtAll Z H vs ds) {i : Nat} {v : V} (e : vs[i]? = some v) : ∃ d, ds[i]? = some d ∧ Dt Z H v d := by
  induction vs generalizing ds i with
  | nil => simp at e
  | cons u vs ih =>
    cases h with
    | cons a b =>
      cases i with
      | zero =>
        simp at e
        subst e
        exact ⟨_, rfl, a⟩
      | succ i =>
        simp at e
        obtain ⟨d, e1, e2⟩ := ih b e
        exact ⟨d, by simpa using e1, e2⟩
theorem DtAll.append {vs us : List V} {ds es : List PyData} (h : DtAll Z H vs ds) (g : DtAll Z H us es) : DtAll Z H (vs ++ us) (ds ++ es) := by
  induction vs generalizing ds with
  | nil => cases h; exact g
  | cons v vs ih => cases h with | cons a b => exact .cons a (ih b)
theorem DtAll.take {vs : List V} {ds : List PyData} (h : DtAll Z H vs ds) (n : Nat) : DtAll Z H (vs.take n) (ds.take n) := by
  induction vs generalizing ds n with
  | nil => cases h; simp; exact .nil
  | cons v vs ih =>
    cases h with
    | cons a b =>
      cases n with
      | zero => exact .nil
      | succ n => exact .cons a (ih b n)
theorem DtAll.drop {vs : List V} {ds : List PyData} (h : DtAll Z H vs ds) (n : Nat) : DtAll Z H (vs.drop n) (ds.drop n) := by
  induction vs generalizing ds n with
  | nil => cases h; simp; exact .nil
  | cons v vs ih =>
    cases h with
    | cons a b =>
      cases n with
      | zero => exact .cons a b
      | succ n => exact ih b n
theorem DtAll.of_get {vs : List V} {ds : List PyData} (l : vs.length = ds.length) (h : ∀ (i : Nat) (v : V) (d : PyData), vs[i]? = some v → ds[i]? = some d → Dt Z H v d) : DtAll Z H vs ds := by
  induction vs generalizing ds with
  | nil =>
    cases ds with
    | nil => exact .nil
    | cons d ds => simp at l
  | cons v vs ih =>
    cases ds with
    | nil => simp at l
    | cons d ds =>
      refine .cons (h 0 v d rfl rfl) (ih (by simpa using l) fun i v' d' e1 e2 => h (i + 1) v' d' ?_ ?_)
      · rw [List.getElem?_cons_succ]
        exact e1
      · rw [List.getElem?_cons_succ]
        exact e2
theorem DtAll.ints (ns : List Int) : DtAll Z H (ns.map V.int) (ns.map PyData.int) := by
  induction ns with
  | nil => exact .nil
  | cons n ns ih => exact .cons (.int n) ih
end
section
variable {J : It} {n : Nat} {G : Hp → Prop} {Y : Nat → Hp → V → Hp → Prop}
theorem get_snoc {α : Type} {xs : List α} {y z : α} {j : Nat} (h : (xs ++ [y])[j]? = some z) : xs[j]? = some z ∨ (j = xs.length ∧ y = z) := by
  by_cases hj : j < xs.length
  · rw [List.getElem?_append_left hj] at h
    exact .inl h
  · rw [List.getElem?_append_right (by omega)] at h
    by_cases h0 : j - xs.length = 0
    · rw [h0] at h
      exact .inr ⟨by omega, by simpa using h⟩
    · obtain ⟨k, hk⟩ : ∃ k, j - xs.length = k + 1 := ⟨j - xs.length - 1, by omega⟩
      rw [hk] at h
      simp at h
theorem Fm.wide {Z Z' : Addr → Prop} {H H' : Hp} (s : Fm Z H H') (z : ∀ a, Z a → Z' a) : Fm Z' H H' := fun b o h n => s b o h fun m => n (z _ m)
/-- Z, and D -/
def Zu (Z : Addr → Prop) (D : Addr) : Addr → Prop := fun b => Z b ∨ b = D
theorem Fm.zu {Z : Addr → Prop} {D : Addr} {H H' : Hp} (s : Fm Z H H') : Fm (Zu Z D) H H' := s.wide fun _ m => .inl m
theorem zu_ne {Z : Addr → Prop} {D a : Addr} (h : ¬ Z a) (n : a ≠ D) : ¬ Zu Z D a := fun m => m.elim h n
theorem Fm.at_zu {Z : Addr → Prop} {D : Addr} {H : Hp} {o : HO} : Fm (Zu Z D) H (upd H D o) := fun b u h n => by
  rw [upd_ne (fun m => n (.inr m))]
  exact h
mutual
theorem Dt.off' {Z : Addr → Prop} {D : Addr} {H : Hp} (n : H D = none) {v : V} {d : PyData} (h : Dt Z H v d) : Dt (Zu Z D) H v d :=
  match h with
  | .non => .non
  | .bl b => .bl b
  | .int i => .int i
  | .str x => .str x
  | .lst e m t => .lst e (zu_ne m (ne_of_none e n)) (DtAll.off' n t)
  | .tup e m t => .tup e (zu_ne m (ne_of_none e n)) (DtAll.off' n t)
  | .emp e m => .emp e (zu_ne m (ne_of_none e n))
theorem DtAll.off' {Z : Addr → Prop} {D : Addr} {H : Hp} (n : H D = none) {vs : List V} {ds : List PyData} (h : DtAll Z H vs ds) : DtAll (Zu Z D) H vs ds :=
  match h with
  | .nil => .nil
  | .cons a b => .cons (Dt.off' n a) (DtAll.off' n b)
end
theorem Dt.off {Z : Addr → Prop} {D : Addr} {H : Hp} {v : V} {d : PyData} (h : Dt Z H v d) (n : H D = none) : Dt (Zu Z D) H v d := Dt.off' n h
theorem Dt.un {Z : Addr → Prop} {D : Addr} {H : Hp} {v : V} {d : PyData} (h : Dt (Zu Z D) H v d) : Dt Z H v d := h.mono fun _ m => .inl m
/-- a comprehension without a test: R tells of each element, I holds of all heaps on the way -/
theorem lc_acc (w : Walk J n G Y) {g : TG} {te : TE} {vs : List Nat} {σ : St} {H1 : Hp} {D : Addr} {Qd : Hp → Prop} (Z : Addr → Prop) (I : Hp → Prop) (R : Nat → V → Hp → Prop)
    (hD : H1 D = none) (zD : ¬ Z D) (i0 : I H1) (iS : ∀ H l, I H → ¬ Z D → I (upd H D (.lst l))) (rS : ∀ i y H H', i < n → R i y H → Fm (Zu Z D) H H' → R i y H') (few : n < sizeLine)
    (hG : ∀ H, Fm Z H1 H → G H)
    (hs : ∀ i x H H' (Qk : V → Hp → Prop), i < n → Fm Z H1 H → I H → (∀ p, H p = none → p ≠ D) → Y i H x H' → (∀ y H4, Fm Z H H4 → I H4 → R i y H4 → Qk y H4) → g x (wipe σ vs) H' fun σ2 H2 => wipe σ2 vs = wipe σ vs ∧ te σ2 H2 Qk)
    (hd : ∀ H xs, Fm Z H1 H → I H → H D = some (.lst xs) → xs.length = n → (∀ j y, xs[j]? = some y → R j y H) → Qd H) :
    ∃ W : Nat → Nat → Hp → Prop, (∃ m, W 0 m (upd H1 D (.lst []))) ∧ ∀ i m H, W i m H →
      (J.stop i H ∧ Qd H) ∨ (J.go i H ∧ ∃ Nx : Hp → Prop, (∀ H', Nx H' → ∃ m', m' < m ∧ W (i + 1) m' H') ∧ ∀ x H', J.yld i H x H' → g x (wipe σ vs) H' fun σ2 H2 => wipe σ2 vs = wipe σ vs ∧ tYes σ2 H2 fun b H3 =>
        if b = true then te σ2 H3 fun y H4 => ∃ acc, H4 D = some (.lst acc) ∧ acc.length < sizeLine ∧ Nx (upd H4 D (.lst (acc ++ [y]))) else Nx H3) := by
  refine lc_it w (fun i H => i ≤ n ∧ Fm Z H1 H ∧ I H ∧ ∃ xs, H D = some (.lst xs) ∧ xs.length = i ∧ ∀ j y, xs[j]? = some y → R j y H) ?_ (fun i H _ p => hG H p.2.1) ?_ ?_
  · exact ⟨Nat.zero_le _, Fm.new hD, iS _ _ i0 zD, [], upd_same, rfl, fun j y e => by simp at e⟩
  · rintro i x H H' hi ⟨_, f, iH, xs, hx, hl, hr⟩ y
    refine hs i x H H' _ hi f iH (fun p m => (ne_of_none hx m).symm) y ?_
    intro y H4 f4 i4 r4
    refine ⟨xs, f4 _ _ hx zD, by omega, by omega, Fm.on (f.trans f4) hD, iS _ _ i4 zD, xs ++ [y], upd_same, by simp [hl], fun j y' e => ?_⟩
    rcases get_snoc e with e | ⟨e1, rfl⟩
    · have hj : j < xs.length := (List.getElem?_eq_some_iff.mp e).1
      exact rS _ _ _ _ (by omega) (rS _ _ _ _ (by omega) (hr j y' e) f4.zu) Fm.at_zu
    · obtain rfl : j = i := by omega
      exact rS _ _ _ _ hi r4 Fm.at_zu
  · rintro H ⟨_, f, iH, xs, hx, hl, hr⟩
    exact hd H xs f iH hx hl hr
end
section
variable {J : It} {n : Nat} {G : Hp → Prop} {Y : Nat → Hp → V → Hp → Prop}
/-- .. whose elements are data -/
theorem lc_dat (w : Walk J n G Y) {g : TG} {te : TE} {vs : List Nat} {σ : St} {H1 : Hp} {D : Addr} {Qd : Hp → Prop} (Z : Addr → Prop) (I : Hp → Prop) (ds : List PyData) (hn : ds.length = n)
    (hD : H1 D = none) (zD : ¬ Z D) (i0 : I H1) (iS : ∀ H l, I H → ¬ Z D → I (upd H D (.lst l))) (few : n < sizeLine)
    (hG : ∀ H, Fm Z H1 H → G H)
    (hs : ∀ i x d H H' (Qk : V → Hp → Prop), ds[i]? = some d → Fm Z H1 H → I H → (∀ p, H p = none → p ≠ D) → Y i H x H' → (∀ y H4, Fm Z H H4 → I H4 → Dt (Zu Z D) H4 y d → Qk y H4) → g x (wipe σ vs) H' fun σ2 H2 => wipe σ2 vs = wipe σ vs ∧ te σ2 H2 Qk)
    (hd : ∀ H xs, Fm Z H1 H → I H → H D = some (.lst xs) → DtAll (Zu Z D) H xs ds → Qd H) :
    ∃ W : Nat → Nat → Hp → Prop, (∃ m, W 0 m (upd H1 D (.lst []))) ∧ ∀ i m H, W i m H →
      (J.stop i H ∧ Qd H) ∨ (J.go i H ∧ ∃ Nx : Hp → Prop, (∀ H', Nx H' → ∃ m', m' < m ∧ W (i + 1) m' H') ∧ ∀ x H', J.yld i H x H' → g x (wipe σ vs) H' fun σ2 H2 => wipe σ2 vs = wipe σ vs ∧ tYes σ2 H2 fun b H3 =>
        if b = true then te σ2 H3 fun y H4 => ∃ acc, H4 D = some (.lst acc) ∧ acc.length < sizeLine ∧ Nx (upd H4 D (.lst (acc ++ [y]))) else Nx H3) := by
  refine lc_acc w Z I (fun i y H => ∀ d, ds[i]? = some d → Dt (Zu Z D) H y d) hD zD i0 iS (fun i y H H' _ r f d e => (r d e).fr f) few hG ?_ ?_
  · intro i x H H' Qk hi f iH ne y q
    have hi2 : i < ds.length := by omega
    refine hs i x ds[i] H H' Qk (List.getElem?_eq_getElem hi2) f iH ne y fun y H4 f4 i4 r4 => q y H4 f4 i4 fun d e => ?_
    rw [List.getElem?_eq_getElem hi2] at e
    cases e
    exact r4
  · intro H xs f iH hx hl hr
    exact hd H xs f iH hx (DtAll.of_get (by omega) fun i v d e1 e2 => hr i v e1 d e2)
/-- .. whose elements are values that do not depend on the heap -/
theorem lc_vals (w : Walk J n G Y) {g : TG} {te : TE} {vs : List Nat} {σ : St} {H1 : Hp} {D : Addr} {Qd : Hp → Prop} (Z : Addr → Prop) (I : Hp → Prop) (ks : List V) (hn : ks.length = n)
    (hD : H1 D = none) (zD : ¬ Z D) (i0 : I H1) (iS : ∀ H l, I H → ¬ Z D → I (upd H D (.lst l))) (few : n < sizeLine)
    (hG : ∀ H, Fm Z H1 H → G H)
    (hs : ∀ i x k H H' (Qk : V → Hp → Prop), ks[i]? = some k → Fm Z H1 H → I H → (∀ p, H p = none → p ≠ D) → Y i H x H' → (∀ H4, Fm Z H H4 → I H4 → Qk k H4) → g x (wipe σ vs) H' fun σ2 H2 => wipe σ2 vs = wipe σ vs ∧ te σ2 H2 Qk)
    (hd : ∀ H, Fm Z H1 H → I H → H D = some (.lst ks) → Qd H) :
    ∃ W : Nat → Nat → Hp → Prop, (∃ m, W 0 m (upd H1 D (.lst []))) ∧ ∀ i m H, W i m H →
      (J.stop i H ∧ Qd H) ∨ (J.go i H ∧ ∃ Nx : Hp → Prop, (∀ H', Nx H' → ∃ m', m' < m ∧ W (i + 1) m' H') ∧ ∀ x H', J.yld i H x H' → g x (wipe σ vs) H' fun σ2 H2 => wipe σ2 vs = wipe σ vs ∧ tYes σ2 H2 fun b H3 =>
        if b = true then te σ2 H3 fun y H4 => ∃ acc, H4 D = some (.lst acc) ∧ acc.length < sizeLine ∧ Nx (upd H4 D (.lst (acc ++ [y]))) else Nx H3) := by
  refine lc_acc w Z I (fun i y H => ks[i]? = some y) hD zD i0 iS (fun i y H H' _ r f => r) few hG ?_ ?_
  · intro i x H H' Qk hi f iH ne y q
    have hi2 : i < ks.length := by omega
    refine hs i x ks[i] H H' Qk (List.getElem?_eq_getElem hi2) f iH ne y fun H4 f4 i4 => q _ H4 f4 i4 (List.getElem?_eq_getElem hi2)
  · intro H xs f iH hx hl hr
    refine hd H f iH ?_
    rw [hx]
    congr 2
    refine List.ext_getElem? fun i => ?_
    by_cases hi : i < xs.length
    · rw [List.getElem?_eq_getElem hi, hr i xs[i] (List.getElem?_eq_getElem hi)]
    · rw [List.getElem?_eq_none (by omega), List.getElem?_eq_none (by omega)]
end
/-! ### what the written part says of one own exception class -/
structure Cl (K : PySem.W.Frag) (C fI : Addr) (tl : List Value) (newId : String) (fs : List Str) : Prop where
  T : XCls K C fI tl newId
  look : XLook K C
  no : ∀ f ∈ fs, PySem.W.findIn K (.ref C) f = some none
  mro : (PySem.W.clsIn K C).map (·.mro) = some (.ref C :: tl)
  ty : PySem.W.typeIn K (.ref C) = some (.type "type")
theorem cl_of {K : PySem.W.Frag} {C fI : Addr} {tl : List Value} {newId : String} {fs : List Str} (g1 : PySem.W.specialIn K (.builtin "object.__class__") "__get__" = some (some (.builtin "getset_descriptor.__get__"))) (g2 : PySem.W.takesIn K (.builtin "object.__class__") = some true)
    (b : PySem.W.findIn K (.ref C) "__init__" = some (some (.ref fI)))
    (t : (PySem.W.excInitIn K C tl newId, PySem.W.excOver K C tl, PySem.W.hasDictIn K C, PySem.W.isFn K (.ref fI), PySem.W.keepIn K (.ref C)) = (true, true, true, true, true))
    (u : (PySem.W.findIn K (.ref C) "__setattr__", PySem.W.findIn K (.ref C) "__getattribute__", PySem.W.findIn K (.ref C) "__getattr__", PySem.W.findIn K (.ref C) "__class__") =
      (some (some (.builtin "object.__setattr__")), some (some (.builtin "BaseException.__getattribute__")), some none, some (some (.builtin "object.__class__"))))
    (v : (PySem.W.subIn K (.ref C) (.type "BaseException"), PySem.W.mroIn K C (.type "object"), (PySem.W.clsIn K C).map (·.mro), PySem.W.typeIn K (.ref C)) = (some true, some true, some (.ref C :: tl), some (.type "type")))
    (f : fs.map (fun f => PySem.W.findIn K (.ref C) f) = fs.map fun _ => some none) : Cl K C fI tl newId fs := by
  simp only [Prod.mk.injEq] at t u v
  obtain ⟨t1, t2, t3, t4, t5⟩ := t
  obtain ⟨u1, u2, u3, u4⟩ := u
  obtain ⟨v1, v2, v3, v4⟩ := v
  exact ⟨⟨t1, t2, t3, u1, b, t4, t5⟩, ⟨⟨u2, u3, v1, t3⟩, ⟨u2, u3, v1, t3, u4, g1, g2, v2⟩⟩, List.map_inj_left.mp f, v3, v4⟩
/-! ### the types of data; isinstance; integers -/
section
def tyD : PyData → String
  | .none => "NoneType"
  | .bool _ => "bool"
  | .int _ => "int"
  | .str _ => "str"
  | .list _ => "list"
  | .tuple _ => "tuple"
  | .dict _ => "dict"
def isInt : PyData → Bool
  | .int _ => true
  | _ => false
def isSeq : PyData → Bool
  | .list _ => true
  | .tuple _ => true
  | _ => false
def itemsD : PyData → List PyData
  | .list ds => ds
  | .tuple ds => ds
  | _ => []
variable {Z : Addr → Prop} {H H' : Hp} {K : PySem.W.Frag}
theorem Dt.ty {v : V} {d : PyData} (h : Dt Z H v d) : TyX K H v (.type (tyD d)) := by
  cases h with
  | non => exact .base .non
  | bl b => exact .base (.bl b)
  | int i => exact .base (.int i)
  | str x => exact .base (.str x)
  | lst e n t => exact .base (.lst e)
  | tup e n t => exact .base (.tup e)
  | emp e n => exact .base (.dK e)
theorem Dt.kInt {v : V} {d : PyData} (h : Dt Z H v d) : PySem.W.kitOne K (.type (tyD d)) (.type "int") = some (isInt d || (tyD d == "bool")) := by
  cases h with
  | non => exact kit_ty (show kitB "NoneType" "int" = some false by decide +kernel)
  | bl b => exact kit_ty (show kitB "bool" "int" = some true by decide +kernel)
  | int i => exact kit_ty (show kitB "int" "int" = some true by decide +kernel)
  | str x => exact kit_ty (show kitB "str" "int" = some false by decide +kernel)
  | lst e n t => exact kit_ty (show kitB "list" "int" = some false by decide +kernel)
  | tup e n t => exact kit_ty (show kitB "tuple" "int" = some false by decide +kernel)
  | emp e n => exact kit_ty (show kitB "dict" "int" = some false by decide +kernel)
theorem Dt.kBool {v : V} {d : PyData} (h : Dt Z H v d) : PySem.W.kitOne K (.type (tyD d)) (.type "bool") = some (tyD d == "bool") := by
  cases h with
  | non => exact kit_ty (show kitB "NoneType" "bool" = some false by decide +kernel)
  | bl b => exact kit_ty (show kitB "bool" "bool" = some true by decide +kernel)
  | int i => exact kit_ty (show kitB "int" "bool" = some false by decide +kernel)
  | str x => exact kit_ty (show kitB "str" "bool" = some false by decide +kernel)
  | lst e n t => exact kit_ty (show kitB "list" "bool" = some false by decide +kernel)
  | tup e n t => exact kit_ty (show kitB "tuple" "bool" = some false by decide +kernel)
  | emp e n => exact kit_ty (show kitB "dict" "bool" = some false by decide +kernel)
theorem Dt.kStr {v : V} {d : PyData} (h : Dt Z H v d) : PySem.W.kitOne K (.type (tyD d)) (.type "str") = some (tyD d == "str") := by
  cases h with
  | non => exact kit_ty (show kitB "NoneType" "str" = some false by decide +kernel)
  | bl b => exact kit_ty (show kitB "bool" "str" = some false by decide +kernel)
  | int i => exact kit_ty (show kitB "int" "str" = some false by decide +kernel)
  | str x => exact kit_ty (show kitB "str" "str" = some true by decide +kernel)
  | lst e n t => exact kit_ty (show kitB "list" "str" = some false by decide +kernel)
  | tup e n t => exact kit_ty (show kitB "tuple" "str" = some false by decide +kernel)
  | emp e n => exact kit_ty (show kitB "dict" "str" = some false by decide +kernel)
theorem Dt.kList {v : V} {d : PyData} (h : Dt Z H v d) : PySem.W.kitOne K (.type (tyD d)) (.type "list") = some (tyD d == "list") := by
  cases h with
  | non => exact kit_ty (show kitB "NoneType" "list" = some false by decide +kernel)
  | bl b => exact kit_ty (show kitB "bool" "list" = some false by decide +kernel)
  | int i => exact kit_ty (show kitB "int" "list" = some false by decide +kernel)
  | str x => exact kit_ty (show kitB "str" "list" = some false by decide +kernel)
  | lst e n t => exact kit_ty (show kitB "list" "list" = some true by decide +kernel)
  | tup e n t => exact kit_ty (show kitB "tuple" "list" = some false by decide +kernel)
  | emp e n => exact kit_ty (show kitB "dict" "list" = some false by decide +kernel)
theorem Dt.kTup {v : V} {d : PyData} (h : Dt Z H v d) : PySem.W.kitOne K (.type (tyD d)) (.type "tuple") = some (tyD d == "tuple") := by
  cases h with
  | non => exact kit_ty (show kitB "NoneType" "tuple" = some false by decide +kernel)
  | bl b => exact kit_ty (show kitB "bool" "tuple" = some false by decide +kernel)
  | int i => exact kit_ty (show kitB "int" "tuple" = some false by decide +kernel)
  | str x => exact kit_ty (show kitB "str" "tuple" = some false by decide +kernel)
  | lst e n t => exact kit_ty (show kitB "list" "tuple" = some false by decide +kernel)
  | tup e n t => exact kit_ty (show kitB "tuple" "tuple" = some true by decide +kernel)
  | emp e n => exact kit_ty (show kitB "dict" "tuple" = some false by decide +kernel)
theorem Dt.kSeq {v : V} {d : PyData} (h : Dt Z H v d) : PySem.W.kitAny K (.type (tyD d)) [.type "list", .type "tuple"] = some (isSeq d) := by
  refine kitAny_cons h.kList (fun e => kitAny_cons (h.fr Fm.refl).kTup (fun e2 => ?_) fun e2 => ?_) fun e => ?_
  · cases h <;> first | rfl | (simp [tyD] at e2; done) | (simp [tyD, isInt] at e; done)
  · cases h <;> first | rfl | (simp [tyD] at e2; done)
  · cases h <;> first | rfl | (simp [tyD, isInt] at e; done)
theorem pairedLT : Paired ClsV [.ty "list", .ty "tuple"] [.type "list", .type "tuple"] := .cons (.ty _) (.cons (.ty _) .nil)
theorem Dt.seq {v : V} {d : PyData} (h : Dt Z H v d) (s : isSeq d = true) : ∃ a xs, v = .ref a ∧ DtAll Z H xs (itemsD d) ∧ (H a = some (.lst xs) ∨ H a = some (.tup xs)) ∧ ¬ Z a := by
  cases h with
  | lst e n t => exact ⟨_, _, rfl, t, .inl e, n⟩
  | tup e n t => exact ⟨_, _, rfl, t, .inr e, n⟩
  | emp e n => cases s
  | non => cases s
  | bl b => cases s
  | int i => cases s
  | str x => cases s
end
section
variable {X : Cx} {tg : Expr}
/-- what is walked is a tracked list or a tuple -/
def iSeq (tl : TE) : TI := fun σ H R => tl σ H fun x H1 => ∃ (a : Addr) (xs : List V) (o : HO), x = .ref a ∧ (o = .lst xs ∨ o = .tup xs) ∧ H1 a = some o ∧ ∀ J, Walk J xs.length (fun H => H a = some o) (YAt xs) → R J H1
theorem pi_seq {l : Expr} {tl : TE} (hl : PE X l tl) : PI X tg l (iSeq tl) := by
  refine ⟨fun pins s σ H R I h => ?_⟩
  refine thn (hl.run pins s σ H _ I h) fun v s1 ⟨x, H1, I1, r1, q1⟩ => ?_
  obtain ⟨a, xs, o, e, ho, ha, q⟩ := q1
  subst e
  cases r1
  rcases ho with rfl | rfl
  · obtain ⟨its, rv, p, hz⟩ := I1.list (SqL.of (K := X.K) ha)
    refine wpAny_pyIter_list p.isList ?_
    refine ⟨s1.heap.objs.size, [s1.heap.objs.size], _, _, H1, rfl, I1.kept (t' := s1.toks) fun b o e => Heap.get?_push_of_some _ e, turn_list a _, ⟨_, Heap.get?_push_size _ rfl, rfl, rfl⟩, fun b hb => ?_, q _ (walk_list.mono (fun H h => SqL.of h) fun _ _ _ _ _ _ y => y)⟩
    have e : b = s1.heap.objs.size := by simpa using hb
    subst e
    exact I1.fpOk (Nat.le_refl _) (I1.hok.fresh (Nat.le_refl _))
  · obtain ⟨its, rv, p, hz⟩ := I1.tuple (SqT.of (K := X.K) ha)
    refine wpAny_pyIter_tuple (show s1.heap.IsTuple a its.toArray from p) ?_
    refine ⟨s1.heap.objs.size, [s1.heap.objs.size], _, _, H1, rfl, I1.kept (t' := s1.toks) fun b o e => Heap.get?_push_of_some _ e, turn_tuple a _, ⟨_, Heap.get?_push_size _ rfl, rfl, rfl⟩, fun b hb => ?_, q _ (walk_tup.mono (fun H h => SqT.of h) fun _ _ _ _ _ _ y => y)⟩
    have e : b = s1.heap.objs.size := by simpa using hb
    subst e
    exact I1.fpOk (Nat.le_refl _) (I1.hok.fresh (Nat.le_refl _))
end
/-! ### the rules over tracked lists and tuples: nothing of the written part is read (serve within comprehensions too) -/
section
/-- a tracked list or tuple -/
def Sq_ (H : Hp) (a : Addr) (xs : List V) : Prop := H a = some (.lst xs) ∨ H a = some (.tup xs)
variable {X : Cx}
def rIxl : R2 := fun x y H Q => ∃ p xs i v, x = .ref p ∧ y = .int i ∧ H p = some (.lst xs) ∧ atI xs i = some v ∧ Q v H
theorem ixl : IxR X rIxl := fun a b c d e f g h i j k l m r ⟨p, xs, n, z, e1, e2, q1, q2, q3⟩ hs => ix_list a b c d e f g h i j k l m r ⟨p, xs, n, z, e1, e2, SqL.of q1, q2, q3⟩ hs
def rIxt : R2 := fun x y H Q => ∃ p xs i v, x = .ref p ∧ y = .int i ∧ H p = some (.tup xs) ∧ atI xs i = some v ∧ Q v H
theorem ixt : IxR X rIxt := fun a b c d e f g h i j k l m r ⟨p, xs, n, z, e1, e2, q1, q2, q3⟩ hs => ix_tup a b c d e f g h i j k l m r ⟨p, xs, n, z, e1, e2, SqT.of q1, q2, q3⟩ hs
def rSll : V → Option Int → Option Int → Hp → VK → Prop := fun x lo hi H Q => ∃ a xs, x = .ref a ∧ H a = some (.lst xs) ∧ ∀ p, H p = none → Q (.ref p) (upd H p (.lst (cutV xs lo hi)))
theorem sll : SlR X rSll := fun a b c d e f g h i j k l m n o p q ⟨a1, xs, e1, h1, q1⟩ => sl_list a b c d e f g h i j k l m n o p q ⟨a1, xs, e1, SqL.of h1, q1⟩
def rSlt : V → Option Int → Option Int → Hp → VK → Prop := fun x lo hi H Q => ∃ a xs, x = .ref a ∧ H a = some (.tup xs) ∧
  ¬ (HT.sIx xs.length 0 lo = 0 ∧ HT.sIx xs.length xs.length hi = xs.length) ∧ ∀ p, H p = none → Q (.ref p) (upd H p (.tup (cutV xs lo hi)))
theorem slt : SlR X rSlt := fun a b c d e f g h i j k l m n o p q ⟨a1, xs, e1, h1, h2, q1⟩ => sl_tup a b c d e f g h i j k l m n o p q ⟨a1, xs, e1, SqT.of h1, h2, q1⟩
theorem lenT : CallR X (.builtin "len") (fun xs H Q => ∃ p ys, xs = [.ref p] ∧ Sq_ H p ys ∧ Q (.int ys.length) H) := fun a b c d e f g h i ⟨p, ys, e1, h1, q⟩ => call_len_seq a b c d e f g h i ⟨p, ys, e1, h1.imp SqL.of SqT.of, q⟩
theorem listT : CallR X (.type "list") (fun xs H Q => ∃ p ys, xs = [.ref p] ∧ Sq_ H p ys ∧ ∀ l, H l = none → Q (.ref l) (upd H l (.lst ys))) := fun a b c d e f g h i ⟨p, ys, e1, h1, q⟩ => call_list_of a b c d e f g h i ⟨p, ys, e1, h1.imp SqL.of SqT.of, q⟩
theorem tupT : CallR X (.type "tuple") (fun xs H Q => ∃ p ys, xs = [.ref p] ∧ ((H p = some (.lst ys) ∧ ∀ l, H l = none → Q (.ref l) (upd H l (.tup ys))) ∨ (H p = some (.tup ys) ∧ Q (.ref p) H))) :=
  fun a b c d e f g h i ⟨p, ys, e1, h1⟩ => call_tuple_of a b c d e f g h i ⟨p, ys, e1, h1.imp (fun z => ⟨SqL.of z.1, z.2⟩) fun z => ⟨SqT.of z.1, z.2⟩⟩
theorem eqD (hu : X.A.units + 64 < cLine) : OpR X (compareOp .Eq) (fun x y H Q => ∃ d e Z Z', Dt Z H x d ∧ Dt Z' H y e ∧ SeqAt.shaped d = true ∧ SeqAt.shaped e = true ∧ Q (.bl (PyData.eqv d e)) H) :=
  fun a b c d e f g h i j k l ⟨d1, e1, Z, Z', h1, h2, h3, h4, q⟩ => op_eqD hu a b c d e f g h i j k l ⟨d1, e1, h1.dp (PySem.SeqAt.canLay_of_shaped h3), h2.dp (PySem.SeqAt.canLay_of_shaped h4), h3, h4, q⟩
theorem neD (hu : X.A.units + 64 < cLine) : OpR X (compareOp .NotEq) (fun x y H Q => ∃ d e Z Z', Dt Z H x d ∧ Dt Z' H y e ∧ SeqAt.shaped d = true ∧ SeqAt.shaped e = true ∧ Q (.bl (!PyData.eqv d e)) H) :=
  fun a b c d e f g h i j k l ⟨d1, e1, Z, Z', h1, h2, h3, h4, q⟩ => op_neD hu a b c d e f g h i j k l ⟨d1, e1, h1.dp (PySem.SeqAt.canLay_of_shaped h3), h2.dp (PySem.SeqAt.canLay_of_shaped h4), h3, h4, q⟩
theorem inT : OpR X (compareOp .In) (fun x y H Q => ∃ p xs, y = .ref p ∧ Sq_ H p xs ∧ flatV x = true ∧ xs.all flatV = true ∧ Q (.bl (inV x xs)) H) :=
  fun a b c d e f g h i j k l ⟨p, xs, e1, h1, h2, h3, q⟩ => op_in_seq a b c d e f g h i j k l ⟨p, xs, e1, h1.imp SqL.of SqT.of, h2, h3, q⟩
theorem allT (hc : X.calm = true) : CallR X (.builtin "all") (fun vs H Q => ∃ (a : Addr) (bs : List Bool), vs = [V.ref a] ∧ H a = some (.lst (bs.map V.bl)) ∧ Q (.bl (bs.all id)) H) :=
  fun a b c d e f g h i ⟨p, bs, e1, h1, q⟩ => cr_all hc a b c d e f g h i ⟨p, bs, e1, SqL.of h1, q⟩
def gTupT (n : Nat) (t : TGs) : TG := fun v σ H Q => ∃ a xs, v = .ref a ∧ H a = some (.tup xs) ∧ xs.length = n ∧ t xs σ H Q
theorem pgT {pos : Pos} {es : List Expr} {k : Nat} {t : TGs} {n : Nat} (hc : X.calm = true) (h : PGs X es t)
    (hn : (assignEach es X.env).length = n := by rfl) (hst : (assignEach es X.env).findIdx? (·.1) = none := by rfl) : PG X (.Tuple es k pos) (gTupT n t) :=
  ⟨fun a b c d e f g h1 h2 ⟨p, xs, e1, e2, e3, e4⟩ => (pg_tup hc h hn hst).run a b c d e f g h1 h2 ⟨p, xs, e1, SqT.of e2, e3, e4⟩⟩
end
/-! slices of lists -/
theorem cut_to {xs : List V} (i : Nat) : cutV xs none (some (i : Int)) = xs.take i := by
  unfold cutV
  rw [HT.sIx_nat, HT.sIx_none, List.drop_zero, Nat.sub_zero]
  by_cases h : i ≤ xs.length
  · rw [Nat.min_eq_left h]
  · rw [Nat.min_eq_right (by omega), List.take_of_length_le (Nat.le_refl _), List.take_of_length_le (by omega)]
/-! what may be compared -/
def Shp (n : Nat) (d : PyData) : Prop := d.canLay0 = true ∧ d.depth ≤ n
theorem Shp.ok {n : Nat} {d : PyData} (h : Shp n d) (z : n ≤ 64 := by decide) : SeqAt.shaped d = true := by
  show (d.canLay0 && decide (d.depth ≤ 64)) = true
  rw [h.1, Bool.true_and]
  exact decide_eq_true (Nat.le_trans h.2 z)
theorem shp_all {n : Nat} : ∀ {ds : List PyData}, (∀ d ∈ ds, Shp n d) → PyData.canLayAll0 ds = true ∧ PyData.depthAll ds ≤ n
  | [], _ => ⟨by simp [PyData.canLayAll0], by simp [PyData.depthAll]⟩
  | d :: ds, h => by
    obtain ⟨a1, a2⟩ := h d List.mem_cons_self
    obtain ⟨b1, b2⟩ := shp_all (ds := ds) fun x hx => h x (List.mem_cons_of_mem _ hx)
    exact ⟨by simp [PyData.canLayAll0, a1, b1], by simp only [PyData.depthAll]; omega⟩
theorem shp_list {n : Nat} {ds : List PyData} (h : ∀ d ∈ ds, Shp n d) : Shp (n + 1) (.list ds) := by
  obtain ⟨a, b⟩ := shp_all h
  exact ⟨by simp [PyData.canLay0, a], by simp only [PyData.depth]; omega⟩
theorem shp_tup {n : Nat} {ds : List PyData} (h : ∀ d ∈ ds, Shp n d) : Shp (n + 1) (.tuple ds) := by
  obtain ⟨a, b⟩ := shp_all h
  exact ⟨by simp [PyData.canLay0, a], by simp only [PyData.depth]; omega⟩
theorem shp_int {i : Int} : Shp 0 (.int i) := ⟨by simp [PyData.canLay0], by simp [PyData.depth]⟩
theorem shp_none : Shp 0 .none := ⟨by simp [PyData.canLay0], by simp [PyData.depth]⟩
theorem Shp.mono {n m : Nat} {d : PyData} (h : Shp n d) (z : n ≤ m) : Shp m d := ⟨h.1, Nat.le_trans h.2 z⟩
/-! elements told one by one -/
theorem PoolAt.upd' {H : Hp} {pp D : Addr} {o : HO} (h : PoolAt H pp) (n : D ≠ pp) : PoolAt (upd H D o) pp := by
  obtain ⟨c, s, h0, h1, h2⟩ := h
  exact ⟨c, s, h0, h1, by rw [upd_ne (Ne.symm n)]; exact h2⟩
theorem PoolAt.zp {H : Hp} {pp D : Addr} (h : PoolAt H pp) (n : H D = none) : ¬ Zp pp D := h.ne n
theorem DtAll.set {Z : Addr → Prop} {H : Hp} {vs : List V} {ds : List PyData} (h : DtAll Z H vs ds) {v : V} {d : PyData} (g : Dt Z H v d) {i : Nat} : DtAll Z H (vs.set i v) (ds.set i d) := by
  induction vs generalizing ds i with
  | nil => cases h; exact .nil
  | cons u vs ih =>
    cases h with
    | cons a b =>
      cases i with
      | zero => exact .cons g b
      | succ i => exact .cons a (ih b)
theorem gen {H : Hp} {p : Addr} (o : HO) (n : H p = none) : ∃ H', Same H H' ∧ H' p = some o ∧ upd H p o = H' := ⟨_, Same.new n, upd_same, rfl⟩
theorem up {H : Hp} {a p : Addr} {o x : HO} (h : H a = some x) (n : H p = none) : (upd H p o) a = some x := Same.new n _ _ h
theorem PoolAt.fr {H H' : Hp} {p : Addr} (h : PoolAt H p) (e : Fm Z0 H H') : PoolAt H' p := h.same e.same
/-! ### what the top has written, bundle by bundle -/
/-- the class x stands at C, its __init__ is st -/
def CIn (K : PySem.W.Frag) (x q : Str) (st : Stmt) (C : Addr) (tl : List Value) (nw : String) (fs : List Str) : Prop :=
  ∃ fI fd, PySem.W.nsIn K mainGlobals x = some (some (.ref C)) ∧ Fun K "__init__" q st fI fd ∧ Cl K C fI tl nw fs
theorem cin_mk {K : PySem.W.Frag} {x q : Str} {st : Stmt} {C fI : Addr} {tl : List Value} {nw : String} {fs : List Str} {oc : Value} {od an : Option Addr} {osl : Array (Option Value)} {kV doc pm cdv ct : Value}
    (a : PySem.W.nsIn K mainGlobals x = some (some (.ref C))) (b : PySem.W.findIn K (.ref C) "__init__" = some (some (.ref fI)))
    (l : K.lookup fI = some ⟨oc, od, .func (PySem.W.fnOf "__init__" q (defArgs st) (defBody st) (defScope st) .none kV doc pm an cdv ct), osl⟩) (c : PySem.W.codeIn K cdv q = true) (k : PySem.W.keepIn K (.ref fI) = true)
    (g1 : PySem.W.specialIn K (.builtin "object.__class__") "__get__" = some (some (.builtin "getset_descriptor.__get__"))) (g2 : PySem.W.takesIn K (.builtin "object.__class__") = some true)
    (t : (PySem.W.excInitIn K C tl nw, PySem.W.excOver K C tl, PySem.W.hasDictIn K C, PySem.W.isFn K (.ref fI), PySem.W.keepIn K (.ref C)) = (true, true, true, true, true))
    (u : (PySem.W.findIn K (.ref C) "__setattr__", PySem.W.findIn K (.ref C) "__getattribute__", PySem.W.findIn K (.ref C) "__getattr__", PySem.W.findIn K (.ref C) "__class__") =
      (some (some (.builtin "object.__setattr__")), some (some (.builtin "BaseException.__getattribute__")), some none, some (some (.builtin "object.__class__"))))
    (v : (PySem.W.subIn K (.ref C) (.type "BaseException"), PySem.W.mroIn K C (.type "object"), (PySem.W.clsIn K C).map (·.mro), PySem.W.typeIn K (.ref C)) = (some true, some true, some (.ref C :: tl), some (.type "type")))
    (f : fs.map (fun f => PySem.W.findIn K (.ref C) f) = fs.map fun _ => some none) : CIn K x q st C tl nw fs := ⟨fI, _, a, fun_mk l c k, cl_of g1 g2 b t u v f⟩
theorem has_mk {K : PySem.W.Frag} {h : Heap} {mg : Str → Option Value} {x : Str} {st : Stmt} {ps : List Str} {f : Addr} {oc : Value} {od an : Option Addr} {osl : Array (Option Value)} {kV doc pm cdv ct : Value} (X : K.In h) (G : h.Ns mainGlobals mg)
    (b : ∀ (kV doc pm : Value) (an : Option Addr) (cdv ct : Value) (us : List Value), us.length = ps.length → bindArgs (PySem.W.fnOf x x (defArgs st) (defBody st) (defScope st) .none kV doc pm an cdv ct) ⟨us, []⟩ = pure (ps.zip us))
    (a : PySem.W.nsIn K mainGlobals x = some (some (.ref f))) (l : K.lookup f = some ⟨oc, od, .func (PySem.W.fnOf x x (defArgs st) (defBody st) (defScope st) .none kV doc pm an cdv ct), osl⟩) (c : PySem.W.codeIn K cdv x = true) (k : PySem.W.keepIn K (.ref f) = true) : Has K mg x st ps :=
  ⟨f, _, PySem.W.mg_of X G a, (fun_mk (st := st) l c k).binds (ps := ps) b, fun_mk (st := st) l c k⟩
theorem over_mk {K : PySem.W.Frag} {C f : Addr} {nm q : Str} {st : Stmt} {ps : List Str} {oc : Value} {od an : Option Addr} {osl : Array (Option Value)} {kV doc pm cdv ct : Value}
    (b : ∀ (kV doc pm : Value) (an : Option Addr) (cdv ct : Value) (us : List Value), us.length = ps.length → bindArgs (PySem.W.fnOf nm q (defArgs st) (defBody st) (defScope st) .none kV doc pm an cdv ct) ⟨us, []⟩ = pure (ps.zip us))
    (a : PySem.W.findIn K (.ref C) nm = some (some (.ref f))) (l : K.lookup f = some ⟨oc, od, .func (PySem.W.fnOf nm q (defArgs st) (defBody st) (defScope st) .none kV doc pm an cdv ct), osl⟩) (c : PySem.W.codeIn K cdv q = true) (k : PySem.W.keepIn K (.ref f) = true) (i : PySem.W.isFn K (.ref f) = true) :
    ∃ f fd, Meth K C nm f ∧ Fun K nm q st f fd ∧ Binds K fd ps [] :=
  ⟨f, _, ⟨a, i, k⟩, fun_mk (st := st) l c k, (fun_mk (st := st) l c k).binds (ps := ps) b⟩
/-! ### own operators: x op y by a method of the class of x (or of y) -/
/-! ### an int to the left, an own instance to the right -/
/-! ### != by the text's own ==: object.__ne__ asks it and turns the answer round -/
section
variable {X : Cx} {CX : CXT} {k : Nat} {f C : Addr} {fd : FuncData} {ps : List Str} {sp : Sp} {E : XK}
/-- a promise kept one builtin further in -/
theorem run_in1 {pins : List (Addr × Obj)} {σ : St} {H : Hp} {s : Shared} {Q : VK} {us : List Value} {vs : List V} (F : FnOk X.prog X.w X.K X.mg X.base CX k f fd ps sp) (hr : Room (k + 1) X.A) (hb : Binds X.K fd ps []) (hx : Passes CX X E)
    (I : Inv X pins σ H s) (r : Vals vs us) (h : sp vs H Q E) : wpAny (model X.prog X.w) X.A.in1 (call (.ref f) us) (EP X pins σ Q) X.xe s := by
  have hl : (us ++ []).length = ps.length := by
    rw [List.append_nil, ← F.len _ _ _ _ h]
    exact r.length.symm
  refine wpAny_call (codeAny_mono (F.run X.A.in1 X.stack s H ⟨us, []⟩ us vs Q E hr.in1 I.env0.in1 (by simpa using hb s us I.kIn hl) r h) fun r s' hq => ?_)
  cases r with
  | error er => exact hx pins σ H s er s' I hq
  | ok fl =>
    cases fl with
    | ret u => exact I.after hq
    | next => exact False.elim hq
    | brk => exact False.elim hq
    | cont => exact False.elim hq
/-! ### a tuple or a list to the right -/
end
section
variable {X : Cx} {CX : CXT} {k : Nat} {f C : Addr} {fd : FuncData} {ps : List Str} {sp : Sp} {E : XK} {a b : Expr} {ta tb : TE} {pos : Pos}
/-- a[b], a an instance of an own class with __getitem__ -/
def rIxOwn (C : Addr) (sp : Sp) (E : XK) : R2 := fun x y H Q => ∃ a dx fs, x = .ref a ∧ H a = some (.ins C dx fs) ∧ sp [.ref a, y] H Q E
theorem pe_ixOwn (ha : PE X a ta) (hb : PE X b tb) (F : FnOk X.prog X.w X.K X.mg X.base CX k f fd ps sp) (hr : Room (k + 1) X.A) (hbi : Binds X.K fd ps []) (hx : Passes CX X E)
    (hs : PySem.W.findIn X.K (.ref C) "__getitem__" = some (some (.ref f))) (hf : PySem.W.fnIn X.K f = true) (hfn : PySem.W.isFn X.K (.ref f) = true)
    (hsl : ∀ v u : Value, subscripted b true v u = runValue (.builtin "lifetime.subscript" ⟨[v, u], []⟩) := by intro _ _; with_unfolding_all rfl) : PE X (.Subscript a b pos) (tOp (rIxOwn C sp E) ta tb) := by
  refine ⟨fun pins s σ H Q I h => ?_⟩
  refine PyProof.Rows.Subscript_ (binT ha hb I h fun v u s2 x y H2 I2 rx ry q => ?_)
  obtain ⟨z, dx, fs, rfl, hz, hq⟩ := q
  cases rx
  obtain ⟨mA, J, _⟩ := ins_get I2.hok hz
  obtain ⟨od, J, _⟩ := J.look
  obtain ⟨m, hF⟩ := I2.fr
  exact PySem.W.sub_K hF I2.ok.mod.kin J hs hf hfn (run_in1 (vs := [.ref z, y]) F hr hbi hx I2 (.cons rfl (.cons ry .nil)) hq) (hsl _ _)
end
/-! ### own classes: a method, a property, a class of errors as the top leaves them (gathered from k12) -/
section
variable {P : Program} {w : World} {K : PySem.W.Frag} {mg : Str → Option Value} {base : Heap} {C : Addr}
/-- a property of an own class -/
def OwnP (P : Program) (w : World) (K : PySem.W.Frag) (mg : Str → Option Value) (base : Heap) (C : Addr) (k : Nat) (nm : Str) (sp : Sp) : Prop :=
  ∃ p g fd, PropOf K C nm p g ∧ Binds K fd ["self"] [] ∧ FnOk P w K mg base (L2.CX P w) k g fd ["self"] sp
theorem pe_propO {X : Cx} {k : Nat} {sp : Sp} {E : XK} {f : Str} {e : Expr} {pos : Pos} {ta : TE} (he : PE X e ta) (c : Cls X.K C) (m : OwnP X.prog X.w X.K X.mg X.base C k f sp) (hr : Room (k + 1) X.A) (hx : Passes (L2.CX X.prog X.w) X.nox E) (hab : attributeBase e f X.env (eval e X.env) = eval e X.env := by rfl) : PE X (.Attribute e f pos) (tProp C sp [] E ta) := by
  obtain ⟨p, g, fd, hp, hb, F⟩ := m
  exact pe_prop he c hp F hr hb .nil hx hab
/-- a method called by its name -/
def OwnMeth (P : Program) (w : World) (K : PySem.W.Frag) (mg : Str → Option Value) (base : Heap) (C : Addr) (k : Nat) (nm : Str) (ps : List Str) (sp : Sp) : Prop :=
  ∃ f fd, Meth K C nm f ∧ Binds K fd ps [] ∧ FnOk P w K mg base (L2.CX P w) k f fd ps sp
theorem pe_methO {X : Cx} {C : Addr} {k : Nat} {m : Str} {ps : List Str} {sp : Sp} {E : XK} {o e : Expr} {es : List Expr} {apos pos : Pos} {pl : Sem Bool} {ta : TE} {t : TA} (he : PE X o ta) (c : Cls X.K C) (mm : OwnMeth X.prog X.w X.K X.mg X.base C k m ps sp) (hr : Room k X.A) (hx : Passes (L2.CX X.prog X.w) X E) (ha : PA X (e :: es) t)
    (hst : starEach (e :: es) X.env = (false, eval e X.env) :: starEach es X.env := by rfl) (hpl : (backTo pos (starEach es X.env)).any (·.1) = false := by rfl)
    (ht : eval (.Call (.Attribute o m apos) (e :: es) [] pos) X.env = (do
      let ov ← eval o X.env
      standAt apos.atName
      let (f, first) ← holding [ov] (getMethod ov m pl)
      callWith pos f first (backTo pos (starEach (e :: es) X.env)) (backToKw pos (keywordEach [] X.env))) := by rfl) : PE X (.Call (.Attribute o m apos) (e :: es) [] pos) (tMeth C m sp [] E ta t) := by
  obtain ⟨f, fd, hm, hb, F⟩ := mm
  exact pe_meth (pl := pl) he c hm F hr hb .nil hx ha hst hpl ht
/-- a def of the text, its errors told -/
def OkX (P : Program) (w : World) (K : PySem.W.Frag) (mg : Str → Option Value) (base : Heap) (k : Nat) (x : Str) (ps : List Str) (sp : Sp) : Prop :=
  ∃ f fd, mg x = some (.ref f) ∧ PySem.W.keepIn K (.ref f) = true ∧ Binds K fd ps [] ∧ FnOk P w K mg base (L2.CX P w) k f fd ps sp
theorem pe_cX {X : Cx} {k : Nat} {x : Str} {ps : List Str} {sp : Sp} {p pos : Pos} {e : Expr} {es : List Expr} {t : TA} {E : XK} (o : OkX X.prog X.w X.K X.mg X.base k x ps sp) (hr : Room k X.A) (hx : Passes (L2.CX X.prog X.w) X E) (hg : Gl X x)
    (ha : PA X (e :: es) t) (hdb : (x == ("__debug__" : Str)) = false := by decide) (he : starEach (e :: es) X.env = (false, eval e X.env) :: starEach es X.env := by rfl) (hpl : (backTo pos (starEach es X.env)).any (·.1) = false := by rfl) :
    PE X (.Call (.Name x p) (e :: es) [] pos) (tCall sp [] E t) := by
  obtain ⟨f, fd, g, kp, b, G⟩ := o
  exact pe_call G hr hg g kp b .nil hx ha hdb he hpl
def PFun (K : PySem.W.Frag) (C : Addr) (nm qual : Str) (st : Stmt) : Prop := ∃ p g fd, PropOf K C nm p g ∧ Fun K nm qual st g fd ∧ Binds K fd ["self"] []
theorem new_same {H : Hp} {x dx : Addr} {o : HO} (hx : H x = none) (hd : H dx = none) : Same H (upd (upd H dx (.own x)) x o) := fun b u e => by
  rw [upd_ne (ne_of_none e hx), upd_ne (ne_of_none e hd)]
  exact e
theorem PE.imp {X : Cx} {e : Expr} {t t' : TE} (h : PE X e t) (k : ∀ σ H Q, t' σ H Q → t σ H Q) : PE X e t' := ⟨fun pins s σ H Q I w => h.run pins s σ H Q I (k _ _ _ w)⟩
theorem PSs.len {X : Cx} {st : List Stmt} {t : TS} (h : PSs X st t) : PSs X st (fun D τ H => τ.length = X.N.length → t D τ H) := ⟨fun pins s σ H D I w => h.run pins s σ H D I (w I.len)⟩
theorem PSs.imp {X : Cx} {st : List Stmt} {t t' : TS} (h : PSs X st t) (k : ∀ D τ H, t' D τ H → t D τ H) : PSs X st t' := ⟨fun pins s σ H D I w => h.run pins s σ H D I (k _ _ _ w)⟩
theorem two_of {α : Type} {τ : List α} (h : τ.length = 2) : ∃ x y, τ = [x, y] := by
  match τ, h with
  | [x, y], _ => exact ⟨x, y, rfl⟩
end
/-! ### defs that raise nothing, called while an exception is handled -/
structure RoomM (k : Nat) (A : Around) : Prop where
  dp : A.depth + 3 * k + 5 < recursionLimit
  un : A.units + 16 * k + 200 < cLine
theorem RoomM.cold {k : Nat} {A : Around} (r : RoomM k A) : Room k { A with handled := none } := ⟨rfl, r.dp, r.un⟩
theorem RoomM.deeper {k : Nat} {A : Around} (r : RoomM (k + 1) A) (env : Env) : RoomM k (A.deeper env) := ⟨(r.cold.deeper env).dp, (r.cold.deeper env).un⟩
/-! ### an expression is asked; where it raises, the error is noted and what R does of it is told -/
/-! ### with of an own block around one return; the block's exit also where an error leaves it -/
/-! ### lambdas as values: their function objects are told -/
section
open LamX
variable {X : Cx} {pins : List (Addr × Obj)} {σ : St} {H : Hp} {s : Shared}
/-- at f: the lambda of this text, its names captured from the cells clo, its code object at c' -/
def LamO (f : Addr) (q : Str) (params : Arguments) (body : Expr) (scope : Scope) (clo : List (Str × Addr)) (c' : Addr) : HO :=
  .ext fun h => ∃ pm ctv : Value, h.get? f = some (PySem.W.kla_obj "<lambda>" q params body scope clo pm c' ctv)
theorem lamO_ok {P : Program} {w : World} {G : Hp} {h : Heap} {f c' : Addr} {q : Str} {params : Arguments} {body : Expr} {scope : Scope} {clo : List (Str × Addr)} {pm ctv : Value} (e : h.get? f = some (PySem.W.kla_obj "<lambda>" q params body scope clo pm c' ctv)) :
    ObjOk P w G h f (LamO f q params body scope clo c') := ⟨⟨pm, ctv, e⟩, ⟨_, e⟩, fun _ _ ⟨a, b, z⟩ k => ⟨a, b, k _ z⟩⟩
theorem lamO_at {P : Program} {w : World} {G : Hp} {h : Heap} {f c' : Addr} {q : Str} {params : Arguments} {body : Expr} {scope : Scope} {clo : List (Str × Addr)} (ok : HOk P w G h) (e : G f = some (LamO f q params body scope clo c')) :
    ∃ pm ctv : Value, h.get? f = some (PySem.W.kla_obj "<lambda>" q params body scope clo pm c' ctv) := (show ObjOk P w G h f (.ext _) from ok f _ e).1
theorem lamO_tbl {f c' : Addr} {q : Str} {params : Arguments} {body : Expr} {scope : Scope} {clo : List (Str × Addr)} (ps : Array Value) : LamO f q params body scope clo c' ≠ .tbl ps := fun z => by
  unfold LamO at z
  cases z
/-- the lambda is made, and told from then on -/
theorem lam_told {T : List (Addr × Str)} {c P : Addr} {params : Arguments} {body : Expr} {scope : Scope} {pos : Pos} {E Q : Value → Shared → Prop} (I : Inv X pins σ H s) (TB : TabB X.base X.mg c P) (code : X.env.code = .ref c) (inT : (P, X.env.qual ++ "<lambda>") ∈ T)
    (one : ∀ p ∈ T, p.1 = P → p.2 = X.env.qual ++ "<lambda>") (tabs : Tabs T H) (dfl : defaultsOf params X.env = ([], [])) (free : ∀ y ∈ scope.names, y.2 = .free → ∃ c, X.env.cells.lookup y.1 = some c)
    (z : ∀ (f c' : Addr) (G : Hp) (s' : Shared), Inv X pins σ G s' → ExtN H G → Tabs T G → H f = none → G f = some (LamO f (X.env.qual ++ "<lambda>") params body scope (cloFrom X.env.cells scope.names []) c') → G c' = some (CodeO c' (X.env.qual ++ "<lambda>")) → Q (.ref f) s') :
    wpAny (model X.prog X.w) X.A (eval (.Lambda params body scope pos) X.env) Q E s := by
  obtain ⟨ps, hP, tri, among⟩ := tabs _ inT
  have bP := TB.bm.keeps I.bk
  have at_P : s.heap.get? P = some { cls := .none, data := .fields ps } := I.hok P _ hP
  refine PySem.W.kla_eval dfl ?_
  cases look : codeAmong pos ps.toList with
  | none =>
    refine PySem.W.kla_makeFunction (mg := X.mg) (c := c) (P := P) (ps := ps) (closure_ok free) I.ok.glob (I.mod.glob.keeps I.bk) code (TB.code.keeps I.bk) at_P tri look TB.gP bP fun c' ctv h1 tk but low high rec_ tab => ?_
    obtain ⟨c2, oc, vs, t, e2, at_c, dc, vc⟩ := rec_
    cases e2
    have far : s.heap.objs.size ≤ h1.objs.size := Nat.le_trans low (Nat.le_of_lt high)
    have nC : H c' = none := I.hok.fresh low
    -- the code object and the table first, the function then
    have J := inv_table (t' := tk) (more := #[rawInt pos.line, rawInt pos.col, .ref c']) (h' := h1) I hP (fun b o hb e => but b o hb e) tab low ⟨oc, vs, t, at_c, dc, vc⟩
    have nF : H h1.objs.size = none := I.hok.fresh far
    have J2 := J.laid (a := h1.objs.size) (o := LamO h1.objs.size (X.env.qual ++ "<lambda>") params body scope (cloFrom X.env.cells scope.names []) c') (t' := tk)
      (h' := h1.push (PySem.W.kla_obj "<lambda>" (X.env.qual ++ "<lambda>") params body scope (cloFrom X.env.cells scope.names []) ((X.mg "__name__").getD .none) c' ctv)) (fun b o e => Heap.get?_push_of_some _ e) (Nat.le_refl _) (lamO_ok (Heap.get?_push_size _ rfl))
    have nFc : h1.objs.size ≠ c' := Nat.ne_of_gt high
    have grow : ∀ b o, H b = some o → (∀ ps, o ≠ .tbl ps) → (upd (upd (upd H P (.tbl (ps ++ #[rawInt pos.line, rawInt pos.col, .ref c']))) c' (CodeO c' (X.env.qual ++ "<lambda>"))) h1.objs.size
        (LamO h1.objs.size (X.env.qual ++ "<lambda>") params body scope (cloFrom X.env.cells scope.names []) c')) b = some o := fun b o e n => by
      rw [upd_ne (ne_of_none e nF), upd_ne (ne_of_none e nC), upd_ne (fun m => n ps (Option.some.inj (e.symm.trans (by rw [m]; exact hP))))]
      exact e
    refine z h1.objs.size c' _ _ J2 grow (fun p hp => ?_) nF upd_same (by rw [upd_ne (Ne.symm nFc), upd_same])
    by_cases hb : p.1 = P
    · have long : (ps ++ #[rawInt pos.line, rawInt pos.col, .ref c']).toList = ps.toList ++ [rawInt pos.line, rawInt pos.col, .ref c'] := by simp
      have nPf : P ≠ h1.objs.size := ne_of_none hP nF
      rw [one p hp hb, hb]
      refine ⟨_, by rw [upd_ne nPf, upd_ne (ne_of_none hP nC), upd_same], by rw [long]; exact PySem.TriplesOk_snoc _ _ _ _ tri, fun p2 cv h2 => ?_⟩
      rw [long] at h2
      rcases among_app _ tri h2 with y | y
      · obtain ⟨c0, e1, e2⟩ := among p2 cv y
        exact ⟨c0, e1, grow _ _ e2 codeO_ne⟩
      · exact ⟨c', y, by rw [upd_ne (Ne.symm nFc), upd_same]⟩
    · obtain ⟨ps2, a1, a2, a3⟩ := tabs p hp
      refine ⟨ps2, ?_, a2, fun p2 cv h2 => ?_⟩
      · rw [upd_ne (ne_of_none a1 nF), upd_ne (ne_of_none a1 nC), upd_ne hb]
        exact a1
      · obtain ⟨c0, e1, e2⟩ := a3 p2 cv h2
        exact ⟨c0, e1, grow _ _ e2 codeO_ne⟩
  | some cv =>
    obtain ⟨c', e, co⟩ := among pos cv look
    subst e
    refine PySem.W.kla_makeFunctionHit (mg := X.mg) (c := c) (P := P) (ps := ps) (closure_ok free) I.ok.glob (I.mod.glob.keeps I.bk) code (TB.code.keeps I.bk) at_P tri look bP fun ctv h1 tk kp far => ?_
    have nF : H h1.objs.size = none := I.hok.fresh far
    have J := (I.kept (t' := tk) (h' := h1) kp).laid (a := h1.objs.size) (o := LamO h1.objs.size (X.env.qual ++ "<lambda>") params body scope (cloFrom X.env.cells scope.names []) c') (t' := tk)
      (h' := h1.push (PySem.W.kla_obj "<lambda>" (X.env.qual ++ "<lambda>") params body scope (cloFrom X.env.cells scope.names []) ((X.mg "__name__").getD .none) c' ctv)) (fun b o e => Heap.get?_push_of_some _ e) (Nat.le_refl _) (lamO_ok (Heap.get?_push_size _ rfl))
    have grow : ∀ b o, H b = some o → (upd H h1.objs.size (LamO h1.objs.size (X.env.qual ++ "<lambda>") params body scope (cloFrom X.env.cells scope.names []) c')) b = some o := fun b o e => by
      rw [upd_ne (ne_of_none e nF)]
      exact e
    exact z h1.objs.size c' _ _ J (.of grow) (tabs.ext grow) nF upd_same (grow _ _ co)
/-- what a lambda as a value asks: f is new, and told -/
def tLamV (T : List (Addr × Str)) (q : Str) (params : Arguments) (body : Expr) (scope : Scope) (clo : List (Str × Addr)) : TE := fun _ H Q => Tabs T H ∧ ∀ (f c' : Addr) (G : Hp), ExtN H G → Tabs T G → H f = none → G f = some (LamO f q params body scope clo c') → G c' = some (CodeO c' q) → Q (.ref f) G
theorem pe_lamV {T : List (Addr × Str)} {c P : Addr} {params : Arguments} {body : Expr} {scope : Scope} {pos : Pos} (TB : TabB X.base X.mg c P) (code : X.env.code = .ref c) (inT : (P, X.env.qual ++ "<lambda>") ∈ T) (one : ∀ p ∈ T, p.1 = P → p.2 = X.env.qual ++ "<lambda>")
    (L : LamS X.env.scope scope) (dfl : defaultsOf params X.env = ([], [])) : PE X (.Lambda params body scope pos) (tLamV T (X.env.qual ++ "<lambda>") params body scope (cloFrom X.env.cells scope.names [])) :=
  ⟨fun pins s σ H Q I h => lam_told I TB code inT one h.1 dfl (L.has I.ok) fun f c' G s' J e t n a b => ⟨.ref f, G, J, rfl, h.2 f c' G e t n a b⟩⟩
end
section
open LamX
variable {X : Cx} {pins : List (Addr × Obj)} {σ : St} {H : Hp} {s : Shared}
abbrev LamF (X : Cx) (f : Addr) (params : Arguments) (body : Expr) (scope : Scope) (c' : Addr) (G : Hp) : Prop :=
  G f = some (LamO f (X.env.qual ++ "<lambda>") params body scope (cloFrom X.env.cells scope.names []) c') ∧ G c' = some (CodeO c' (X.env.qual ++ "<lambda>"))
/-- a lambda takes no arguments -/
abbrev Bare (X : Cx) (params : Arguments) (body : Expr) (scope : Scope) : Prop :=
  ∀ (pm cv ctv : Value), bindArgs (PySem.W.kla_fn "<lambda>" (X.env.qual ++ "<lambda>") params body scope (cloFrom X.env.cells scope.names []) pm cv ctv) ⟨[], []⟩ = pure []
/-- x(), in a def that is called from X's frame at s and was handed a lambda of X -/
theorem pe_act2 {CXg : CXT} {Eg : XK} {Ng : List Str} {qg a : Str} {sg scope : Scope} {g : Addr} {cdg : Value} {params : Arguments} {body : Expr} {k i : Nat} {pn : List (Addr × Obj)} {xe : Value → Shared → Prop} {W : WX} {tb : XK → TE} {p1 p2 : Pos}
    (I : Inv X pins σ H s) (L : LamS X.env.scope scope) (bare : Bare X params body scope) (tk : Takes ((cxOf CXg X.prog X.w X.K X.mg X.base Ng qg sg g cdg X.A X.stack s H Eg).tr pn xe) W)
    (room : Room (k + 1) (X.A.deeper (PyProof.Rows.envOfC qg sg s.heap.objs.size g cdg)))
    (bod : ∀ (A : Around) (outer : List Env) (s : Shared) (H : Hp) (E : XK) (f c' : Addr), Room k (A.deeper (lamEnv X scope s.heap.objs.size f c')) → PE (lamCx X A outer s H E scope f c') body (tb E))
    (at_i : Ng[i]? = some a) (vis : Vis sg a) (nd : (a == ("__debug__" : Str)) = false := by decide) (nc : (a == ("__classdict__" : Str)) = false := by decide) :
    PE ((cxOf CXg X.prog X.w X.K X.mg X.base Ng qg sg g cdg X.A X.stack s H Eg).tr pn xe) (.Call (.Name a p1) [] [] p2) (fun τ G Q => ∃ (E : XK) (f c' : Addr), (∀ cls d τ G, E cls d G → W cls d τ G) ∧ τ[i]? = some (some (.ref f)) ∧ LamF X f params body scope c' G ∧ tb E σ G Q) := by
  refine ⟨fun pz z τ G Q J w => ?_⟩
  obtain ⟨E, f, c', wish, in_i, ⟨ef, ec⟩, ht⟩ := w
  refine wpAny_Call_Name_kw (thn ((pe_var (pos := p1) at_i vis nd nc).run pz z τ G (fun v G1 => v = .ref f ∧ G1 = G) J ⟨.ref f, in_i, rfl, rfl⟩) fun u z1 hu => ?_)
  obtain ⟨v, G1, J1, rv, rfl, rfl⟩ := hu
  obtain rfl : u = Value.ref f := rv
  obtain ⟨pm, ctv, at_f⟩ := lamO_at J1.hok ef
  obtain ⟨⟨oc, vs, t, at_c, dc, vc⟩, _, _⟩ := (show ObjOk _ _ _ _ c' (CodeO c' (X.env.qual ++ "<lambda>")) from J1.hok c' _ ec)
  refine PySem.W.callWith_F0 ⟨_, _, _, _, at_f⟩ (PySem.wpAny_call ?_)
  have un : Un (frs X.stack) [] H G1 s.heap z1.heap := J1.base
  have runs : codeAny (model X.prog X.w) (X.A.deeper (PyProof.Rows.envOfC qg sg s.heap.objs.size g cdg)) (.call (.ref f) ⟨[], []⟩)
      (CR (L2.CX X.prog X.w) (PyProof.Rows.envOfC qg sg s.heap.objs.size g cdg :: X.stack) X.prog X.w G1 z1 Q E) z1 := by
    refine PySem.W.kla_callFunE room.depth at_f rfl L.co L.gen rfl ⟨c', oc, vs, t, rfl, at_c, dc, vc⟩ ?_
    rw [bare]
    refine PySem.wpAny_pure (PySem.wpAny_newFunctionEnv (fun y hy => (L.own y hy).2) (fun y hy => absurd hy (by simp)) (fun h1 ns but => ⟨J1.nolimit.fresh _ but, ?_⟩) L.kind)
    have kp : ∀ b o, z1.heap.get? b = some o → h1.get? b = some o := fun b o e => but.extBut b o (Nat.ne_of_lt (Heap.lt_size e)) (Heap.get?_push_of_some _ e)
    have S := lam_start2 (E := E) (f := f) (c' := c') (tk := z1.toks + ([] : List (Str × Value)).length) I L J1.env0 room.hd un ns kp
    show codeAny _ _ (.expr body (lamEnv X scope z1.heap.objs.size f c')) _ _
    refine PySem.W.kla_codeExpr (PySem.wpAny_mono ((bod _ _ z1 G1 E f c' (room.deeper _)).run [] _ _ G1 Q S ht) (fun v z2 y => ?_) fun _ _ y => y)
    obtain ⟨v', G2, S2, r2, q2⟩ := y
    exact ⟨v', G2, S2.os, S2.bare, S2.base, S2.hok, r2, q2⟩
  refine PySem.codeAny_mono runs ?_
  rintro (er | _ | _ | _ | u) z2 y
  · exact passes_call tk wish pz τ G1 z1 er z2 J1 y
  · exact y.elim
  · exact y.elim
  · exact y.elim
  · exact J1.after y
end
/-! ### a comprehension whose element looks back at the def that holds it -/
section
open PyProof.Rows hiding St
variable {X : Cx}
/-- from the block back to its def -/
def Back (X : Cx) (pins : List (Addr × Obj)) (σ : St) (s : Shared) (H : Hp) (scope : Scope) (ce : Env) (fp : List Addr) : Prop :=
  ∀ (pz : List (Addr × Obj)) (τ : St) (G : Hp) (z : Shared), Inv (X.blk s H scope ce fp) pz τ G z → Inv X pins σ G z
theorem pe_lcB {elt tg iter : Expr} {scope : Scope} {own : List (Str × Nat)} {pos : Pos} {wi : TI} {g : TG} {te : St → TE} (calm : X.calm = true) (nd : X.N.Nodup) (wk : PI X tg iter wi) (bk : BlkOk X.N X.env.scope scope own)
    (gg : ∀ (s : Shared) (H : Hp) (C : Addr) (cl : List (Str × Addr)) (fp : List Addr), PG (X.blk s H scope (compEnvC scope cl C X.env) fp) tg g)
    (ee : ∀ (pins : List (Addr × Obj)) (σ : St) (s : Shared) (H : Hp) (C : Addr) (cl : List (Str × Addr)) (fp : List Addr), Back X pins σ s H scope (compEnvC scope cl C X.env) fp → PE (X.blk s H scope (compEnvC scope cl C X.env) fp) elt (te σ))
    (same : ∀ x, foldedSetIterable iter X.env x = pure x := by intro _; rfl) : PE X (.ListComp elt [⟨tg, iter, [], 0⟩] scope pos) (fun σ H Q => tLc wi g tYes (te σ) (own.map (·.2)) σ H Q) := by
  refine ⟨fun pins s σ H Q I w => ?_⟩
  rw [eval_ListComp]
  have caught : ∀ y ∈ scope.names, y.2 = .free → ∃ c, X.env.cells.lookup y.1 = some c := fun y hy e => (bk.free y hy e).elim (fun k => I.ok.has _ (.inl k)) fun k => I.ok.has _ (.inr k)
  refine wpAny_comprehension_free (use := none) rfl same (closure_ok caught) bk.kind (fun y hy e => by rw [bk.uniq y hy, e]) (thn (wk.run pins s σ H _ I w) fun v1 s1 h1 => thn h1 fun v2 s2 h2 => ?_)
  obtain ⟨it, fp, turn_at, J, H2, rfl, I2, T, st2, frees, w⟩ := h2
  refine wpAny_newObj_type (newEnv_comp ?_) (by show 0 ≤ sizeLine; decide)
  have newD : H2 s2.heap.objs.size = none := I2.hok.fresh (Nat.le_refl _)
  obtain ⟨W, ⟨m0, w0⟩, turn⟩ := w s2.heap.objs.size newD
  generalize eD : s2.heap.objs.size = D at newD w0 turn
  -- the list that is filled
  have stay3 : ∀ b o, s2.heap.get? b = some o → (s2.heap.push { cls := .type "list", data := .seq ([] : List Value).toArray }).get? b = some o := fun b o e => Heap.get?_push_of_some _ e
  have I3 : Inv X pins σ (upd H2 D (.lst [])) { s2 with heap := s2.heap.push { cls := .type "list", data := .seq ([] : List Value).toArray } } :=
    I2.laid (t' := s2.toks) stay3 (Nat.le_of_eq eD) ⟨Nat.zero_le _, [], 0, .nil, by rw [← eD]; exact Heap.get?_push_size _ rfl⟩
  have size3 : (s2.heap.push { cls := .type "list", data := .seq ([] : List Value).toArray }).objs.size = s2.heap.objs.size + 1 := Heap.size_push _ _
  have frees3 : ∀ b ∈ fp, FpOk X pins (upd H2 D (.lst [])) b ∧ b < (s2.heap.push { cls := .type "list", data := .seq ([] : List Value).toArray }).objs.size := fun b hb => by
    obtain ⟨o, e, _⟩ := T.obj _ _ st2 b hb
    have lt := Heap.lt_size e
    refine ⟨⟨?_, (frees b hb).2⟩, by rw [size3]; exact Nat.lt_succ_of_lt lt⟩
    rw [upd_ne (by rw [← eD]; exact Nat.ne_of_lt lt)]
    exact (frees b hb).1
  have st3 : turn_at 0 (s2.heap.push { cls := .type "list", data := .seq ([] : List Value).toArray }) := T.keep _ _ _ st2 fun b _ o e => stay3 b o e
  generalize e3 : ({ s2 with heap := s2.heap.push { cls := .type "list", data := .seq ([] : List Value).toArray } } : Shared) = s3 at I3
  have h3 : s3.heap = s2.heap.push { cls := .type "list", data := .seq ([] : List Value).toArray } := by rw [← e3]
  rw [← h3] at frees3 st3
  have I4 := block_start I3 bk nd frees3
  have pg := gg s3 (upd H2 D (.lst [])) s3.heap.objs.size (cellsFrom (s3.heap.objs.size + 1) scope.names (cloFrom X.env.cells scope.names [])) fp
  have pe := ee pins σ s3 (upd H2 D (.lst [])) s3.heap.objs.size (cellsFrom (s3.heap.objs.size + 1) scope.names (cloFrom X.env.cells scope.names [])) fp
  show codeAny _ _ (.compStart (.ListComp elt [⟨tg, iter, [], 0⟩] scope pos) 0 (.ref it) (.ref D) (compEnvC scope (cellsFrom (s3.heap.objs.size + 1) scope.names (cloFrom X.env.cells scope.names [])) s3.heap.objs.size X.env))
    (compPost (model X.prog X.w) X.A X.xe none (EP X pins σ Q) (.ref D) s3.heap.objs.size) { s3 with heap := pushCells (s3.heap.push { cls := .type "dict", data := .dict #[] }) scope.names }
  have free3 : ∀ b ∈ fp, (upd H2 D (.lst [])) b = none := fun b hb => (frees3 b hb).1.1
  generalize eC : compEnvC scope (cellsFrom (s3.heap.objs.size + 1) scope.names (cloFrom X.env.cells scope.names [])) s3.heap.objs.size X.env = ce at I4 pg pe ⊢
  have locals : ce.locals = s3.heap.objs.size := by rw [← eC]; rfl
  generalize eH : upd H2 D (.lst []) = H3 at I3 I4 pg pe w0 free3 frees3
  generalize e4 : ({ s3 with heap := pushCells (s3.heap.push { cls := .type "dict", data := .dict #[] }) scope.names } : Shared) = s4 at I4 ⊢
  have st4 : turn_at 0 s4.heap := T.keep _ _ _ st3 fun b _ o e => by
    rw [← e4]
    exact pushCells_keeps _ _ _ _ (Heap.get?_push_of_some _ e)
  -- the way back
  have back : Back X pins σ s3 H3 scope ce fp := fun pz τ G z V => I3.call' (ch := fp) V.os V.base V.hok V.bare fun b hb => by
    obtain ⟨⟨_, y1, _, y3, y4, y5⟩, _⟩ := frees3 b hb
    exact ⟨y3, y1, y4, y5⟩
  have walked : ∀ {τ : St} {G : Hp} {z : Shared}, Inv (X.blk s3 H3 scope ce fp) [] τ G z → (∀ b ∈ fp, G b = none) → ∀ b ∈ fp, FpOk (X.blk s3 H3 scope ce fp) [] G b := fun {τ G z} V n b hb =>
    ⟨n b hb, (V.ok.exf b hb).1, V.ok.exfs b hb, .inl hb, fun x c e => (V.ok.exf b hb).2 x c e, fun p hp => absurd (show p ∈ ([] : List (Addr × Obj)) ++ [] from hp) (by simp)⟩
  have loop : codeAny (model X.prog X.w) X.A (.compLoop (.ListComp elt [⟨tg, iter, [], 0⟩] scope pos) 0 (.ref it) (.ref D) ce) (compPost (model X.prog X.w) X.A X.xe none (EP X pins σ Q) (.ref D) s3.heap.objs.size) s4 := by
    refine compLoop_any (fun n z => ∃ i G, Inv (X.blk s3 H3 scope ce fp) [] (wipe σ (own.map (·.2))) G z ∧ turn_at i z.heap ∧ (∀ b ∈ fp, G b = none) ∧ W i n G) ?_ m0 ⟨0, H3, I4, st4, free3, w0⟩
    rintro n z5 ⟨i, G5, V5, st5, n5, w5⟩
    rcases turn i n G5 w5 with ⟨stop, done⟩ | ⟨go, Nx, next, step⟩
    · refine thnF (T.done (X.blk s3 H3 scope ce fp) rfl rfl rfl calm i [] z5 _ G5 (fun _ _ => False) V5 (walked V5 n5) st5 stop) fun r z6 hz => ?_
      obtain ⟨rfl, V6⟩ := hz
      have I7 := back [] _ _ _ V6
      obtain ⟨m, ns, _⟩ := V6.loc
      have ns2 : z6.heap.Ns s3.heap.objs.size m := locals ▸ (show z6.heap.Ns ce.locals m from ns)
      have nC : G5 s3.heap.objs.size = none := locals ▸ (show G5 ce.locals = none from V6.free)
      obtain ⟨f0, f1, f2, f3, f4, f5⟩ := I3.fpOk (Nat.le_refl _) nC
      exact ⟨m, ns2, fun h'' but => ⟨.ref D, G5, I7.turned (t' := z6.toks) (fun b o hb e => (but.2 b hb).trans e) f0 f1 f3 f4 f5, rfl, done⟩⟩
    · refine thnF (T.item (X.blk s3 H3 scope ce fp) rfl rfl rfl calm i [] z5 _ G5 (fun _ _ => False) V5 (walked V5 n5) st5 go) fun r z6 hz => ?_
      obtain ⟨u, rfl, hz⟩ := hz
      refine thnF hz fun _ z7 hz => ?_
      obtain ⟨x, G7, V7, r7, y7, st7, n7⟩ := hz
      have V7' := V7.pinned (walked V7 n7) (T.obj _ _ st7)
      refine thnF (pg.run _ z7 _ G7 x u _ V7' r7 (step x G7 y7)) fun _ z8 hz => ?_
      obtain ⟨τ8, G8, V8, wiped, yes⟩ := hz
      refine thnF (((pts_nil : PTs (X.blk s3 H3 scope ce fp) [] tYes)).run _ z8 τ8 G8 (fun b G => b = true ∧ te σ τ8 G fun y H4 => ∃ acc, H4 D = some (.lst acc) ∧ acc.length < sizeLine ∧ Nx (upd H4 D (.lst (acc ++ [y])))) V8 ⟨rfl, yes⟩) fun b z9 hz => ?_
      obtain ⟨G9, V9, rfl, q9⟩ := hz
      simp only [if_true]
      refine thnF ((pe back).run _ z9 τ8 G9 _ V9 q9) fun y z10 hz => ?_
      obtain ⟨yv, G10, V10, r10, acc, atD, few, nx⟩ := hz
      refine app_ok (X := X.blk s3 H3 scope ce fp) V10 atD few r10 fun z11 V11 => ?_
      obtain ⟨m', less, w'⟩ := next _ nx
      have pinned : ∀ b ∈ fp, ∀ o, z7.heap.get? b = some o → z11.heap.get? b = some o ∧ (upd G10 D (.lst (acc ++ [yv]))) b = none := fun b hb o e =>
        let y := V11.pin (b, o) (List.mem_append_right _ (List.mem_append_right _ (mem_pinsAt hb e)))
        ⟨y.1, y.2.1⟩
      refine ⟨m', less, i + 1, _, (V11.unpinned (pins := [])).weak (by rw [← wiped, wipe_length]) (fun j v e => ?_), T.keep _ _ _ st7 fun b hb o e => (pinned b hb o e).1, fun b hb => ?_, w'⟩
      · rw [← wiped] at e
        exact (wipe_some e).1
      · obtain ⟨o, e, _⟩ := T.obj _ _ st7 b hb
        exact (pinned b hb o e).2
  exact codeAny_compStart_list loop (T.self X.A 0 _ _ _ st4 loop)
end
/-! ### a def that is handed a lambda and calls it -/
section
open LamX
/-- a lambda of the def X: its text, and what it does -/
structure LamD (X : Cx) (k : Nat) where
  params : Arguments
  body : Expr
  scope : Scope
  t : XK → TE
  L : LamS X.env.scope scope
  bare : Bare X params body scope
  bod : ∀ (A : Around) (outer : List Env) (s : Shared) (H : Hp) (E : XK) (f c' : Addr), Room k (A.deeper (lamEnv X scope s.heap.objs.size f c')) → PE (lamCx X A outer s H E scope f c') body (t E)
abbrev LamD.at {X : Cx} {k : Nat} (d : LamD X k) (f c' : Addr) (G : Hp) : Prop := LamF X f d.params d.body d.scope c' G
/-- the def x stands at g, as the text wrote it: one parameter a, the slots Ng -/
structure OneP (K : PySem.W.Frag) (mg : Str → Option Value) (x a : Str) (Ng : List Str) (st : Stmt) (g : Addr) (cdv : Value) : Prop where
  at_ : mg x = some (.ref g)
  kp : PySem.W.keepIn K (.ref g) = true
  lk : ∃ (oc kV doc pm ct : Value) (od an : Option Addr) (osl : Array (Option Value)), K.lookup g = some ⟨oc, od, .func (PySem.W.fnOf x x (defArgs st) (defBody st) (defScope st) .none kV doc pm an cdv ct), osl⟩ ∧
    Binds K (PySem.W.fnOf x x (defArgs st) (defBody st) (defScope st) .none kV doc pm an cdv ct) [a] []
  cd : PySem.W.codeIn K cdv x = true
  sc : FnScope Ng [a] (defScope st)
  slot : Ng[0]? = some a
  vis : Vis (defScope st) a
/-- the def's body does TT of whatever the lambda does -/
def Handed (X : Cx) (k : Nat) (x a : Str) (Ng : List Str) (st : Stmt) (g : Addr) (cdv : Value) (TT : (XK → Hp → VK → Prop) → Hp → VK → Prop) : Prop :=
  ∀ (d : LamD X k) (f c' : Addr) (s : Shared) (H : Hp) (Q : VK) (tl : XK → Hp → VK → Prop), d.at f c' H →
    (∀ (W : WX) (pn : List (Addr × Obj)) (xe : Value → Shared → Prop) (p1 p2 : Pos), Takes ((cxOf CX0 X.prog X.w X.K X.mg X.base Ng x (defScope st) g cdv X.A X.stack s H E0).tr pn xe) W →
      PE ((cxOf CX0 X.prog X.w X.K X.mg X.base Ng x (defScope st) g cdv X.A X.stack s H E0).tr pn xe) (.Call (.Name a p1) [] [] p2) (fun τ G R => ∃ (E : XK) (f' c'' : Addr), (∀ cls dd τ G, E cls dd G → W cls dd τ G) ∧ τ[0]? = some (some (.ref f')) ∧ d.at f' c'' G ∧ tl E G R)) →
    TT tl H Q → ∃ t, PSs (cxOf CX0 X.prog X.w X.K X.mg X.base Ng x (defScope st) g cdv X.A X.stack s H E0).nox (defBody st) t ∧ t { nx := fun _ G => Q .non G, rt := Q } (L2.start Ng [.ref f]) H
section
variable {X : Cx} {pins : List (Addr × Obj)} {σ : St} {H : Hp} {s : Shared} {k : Nat} {x a : Str} {Ng : List Str} {st : Stmt} {g : Addr} {cdv : Value} {TT : (XK → Hp → VK → Prop) → Hp → VK → Prop}
theorem run_handed {Q : VK} (I : Inv X pins σ H s) (D : OneP X.K X.mg x a Ng st g cdv) (room : Room (k + 2) X.A) (G : Handed X k x a Ng st g cdv TT) (d : LamD X k) {f c' : Addr} (kn : d.at f c' H) (nd : (a == ("__debug__" : Str)) = false) (nc : (a == ("__classdict__" : Str)) = false)
    (w : TT (fun E G' Q' => d.t E σ G' Q') H Q) : codeAny (model X.prog X.w) X.A (.call (.ref g) ⟨[.ref f], []⟩) (CR CX0 X.stack X.prog X.w H s Q E0) s := by
  obtain ⟨oc, kV, doc, pm, ct, od, an, osl, lk, bi⟩ := D.lk
  refine run_ofS (N := Ng) (ps := [a]) (us := [.ref f]) (vs := [.ref f]) lk D.cd D.sc room I.env0 (bi s [.ref f] I.kIn rfl) (.cons rfl .nil) rfl fun room' => ?_
  obtain ⟨t, ht, q⟩ := G d f c' s H Q _ kn (fun W pn xe p1 p2 tk => pe_act2 (i := 0) I d.L d.bare tk room' (fun A outer s H E f c' r => d.bod A outer s H E f c' r) D.slot D.vis nd nc) w
  exact ⟨t, ht.nox, q⟩
/-- x(e), e a lambda of X -/
theorem pe_handX {e : Expr} {te : TE} {p pos : Pos} (D : OneP X.K X.mg x a Ng st g cdv) (room : Room (k + 2) X.A) (G : Handed X k x a Ng st g cdv TT) (gl : Gl X x) (he : PE X e te) (nd : (a == ("__debug__" : Str)) = false := by decide) (nc : (a == ("__classdict__" : Str)) = false := by decide) (ndx : (x == ("__debug__" : Str)) = false := by decide)
    (ev : starEach [e] X.env = (false, eval e X.env) :: starEach [] X.env := by rfl) (pl : (backTo pos (starEach [] X.env)).any (·.1) = false := by rfl) :
    PE X (.Call (.Name x p) [e] [] pos) (fun σ H Q => te σ H fun v H1 => ∃ (d : LamD X k) (f c' : Addr), v = .ref f ∧ d.at f c' H1 ∧ TT (fun E G' Q' => d.t E σ G' Q') H1 Q) := by
  refine ⟨fun pins s σ H Q I h => wpAny_Call_Name_kw (ld_glob I gl D.at_ (PySem.W.callWith_K (h₀ := X.base) I.ok.mod.kin D.kp (thn ((pa_cons he pa_nil ev).run pos pins s σ H (fun vs H1 => match vs with | [v] => ∃ (d : LamD X k) (f c' : Addr), v = .ref f ∧ d.at f c' H1 ∧ TT (fun E G' Q' => d.t E σ G' Q') H1 Q | _ => False) I ?_) fun us s1 hu => ?_) ev pl) ndx)⟩
  · exact h
  · obtain ⟨vs, H1, I1, r, w⟩ := hu
    obtain ⟨v, rfl⟩ : ∃ v, vs = [v] := by
      match vs, w with
      | [v], _ => exact ⟨v, rfl⟩
    obtain ⟨d, f, c', rfl, kn, w⟩ := w
    obtain ⟨u, rfl, ru⟩ := vals1 r
    obtain rfl : u = Value.ref f := ru
    refine ⟨I1.kIn, PySem.wpAny_call (PySem.codeAny_mono (run_handed I1 D room G d kn nd nc w) ?_)⟩
    rintro (er | _ | _ | _ | u) s2 y
    · exact y.elim
    · exact y.elim
    · exact y.elim
    · exact y.elim
    · exact I1.after y
def tHandB (X : Cx) (k : Nat) (TT : (XK → Hp → VK → Prop) → Hp → VK → Prop) (te : TE) (σ : St) : TE := fun τ H Q => te τ H fun v H1 => ∃ (d : LamD X k) (f c' : Addr), v = .ref f ∧ d.at f c' H1 ∧ TT (fun E G' Q' => d.t E σ G' Q') H1 Q
/-- the same in a comprehension's block, whose def is X -/
theorem pe_handB {s0 : Shared} {H0 : Hp} {scope : Scope} {ce : Env} {fp : List Addr} {e : Expr} {te : TE} {p pos : Pos} (bk : Back X pins σ s0 H0 scope ce fp) (D : OneP X.K X.mg x a Ng st g cdv) (room : Room (k + 2) X.A) (G : Handed X k x a Ng st g cdv TT) (gl : Gl (X.blk s0 H0 scope ce fp) x)
    (he : PE (X.blk s0 H0 scope ce fp) e te) (nd : (a == ("__debug__" : Str)) = false := by decide) (nc : (a == ("__classdict__" : Str)) = false := by decide) (ndx : (x == ("__debug__" : Str)) = false := by decide)
    (ev : starEach [e] (X.blk s0 H0 scope ce fp).env = (false, eval e (X.blk s0 H0 scope ce fp).env) :: starEach [] (X.blk s0 H0 scope ce fp).env := by rfl) (pl : (backTo pos (starEach [] (X.blk s0 H0 scope ce fp).env)).any (·.1) = false := by rfl) :
    PE (X.blk s0 H0 scope ce fp) (.Call (.Name x p) [e] [] pos) (tHandB X k TT te σ) := by
  refine ⟨fun pz z τ H Q I h => wpAny_Call_Name_kw (ld_glob I gl D.at_ (PySem.W.callWith_K (h₀ := X.base) I.ok.mod.kin D.kp (thn ((pa_cons he pa_nil ev).run pos pz z τ H (fun vs H1 => match vs with | [v] => ∃ (d : LamD X k) (f c' : Addr), v = .ref f ∧ d.at f c' H1 ∧ TT (fun E G' Q' => d.t E σ G' Q') H1 Q | _ => False) I ?_) fun us s1 hu => ?_) ev pl) ndx)⟩
  · exact h
  · obtain ⟨vs, H1, I1, r, w⟩ := hu
    obtain ⟨v, rfl⟩ : ∃ v, vs = [v] := by
      match vs, w with
      | [v], _ => exact ⟨v, rfl⟩
    obtain ⟨d, f, c', rfl, kn, w⟩ := w
    obtain ⟨u, rfl, ru⟩ := vals1 r
    obtain rfl : u = Value.ref f := ru
    refine ⟨I1.kIn, PySem.wpAny_call (PySem.codeAny_mono (run_handed (bk _ _ _ _ I1) D room G d kn nd nc w) ?_)⟩
    rintro (er | _ | _ | _ | u) s2 y
    · exact y.elim
    · exact y.elim
    · exact y.elim
    · exact y.elim
    · exact I1.after y
end
end
/-! ### the law's own call, with a table of code objects that its lambdas fill -/
section
open LamX
/-- the empty table of a code object -/
abbrev noTab : Obj := { cls := .none, data := .fields #[] }
end
/-! ### the law's own call, with tables of code objects that lambdas of several defs fill -/
section
open LamX
/-- the abstract heap H tells of the script at a, of the empty tables Ps, and of nothing else -/
structure SoleL (P : Program) (w : World) (K : PySem.W.Frag) (H : Hp) (h : Heap) (a : Addr) (Ps : List Addr) (ns : List Int) : Prop where
  only : ∀ b, H b = none ∨ b ∈ Ps ∨ ∃ o xs, H b = some (.frz o (.lst xs))
  seq : SqL K H a (ns.map V.int)
  ok : HOk P w H h
  known : ∀ b, H b ≠ none → b = a ∨ b ∈ Ps
  notK : H a ≠ none → K.lookup a = none
  tab : ∀ p ∈ Ps, H p = some (.tbl #[])
theorem sole_runL {P : Program} {w : World} {K : PySem.W.Frag} {mg mb : Str → Option Value} {CX : CXT} {k : Nat} {fa a : Addr} {Ts : List (Addr × Addr)} {fd : FuncData} {x : Str} {sp : Sp} {s₁ : Shared} {vs : List Value} {ns : List Int} {H : Hp}
    (Z : SoleL P w K H s₁.heap a (Ts.map (·.2)) ns) (KX : K.In s₁.heap) (gN : s₁.heap.Ns mainGlobals mg) (bN : s₁.heap.Ns builtinsNs mb) (bB : ∀ y : Str, y ≠ "__name__" → mb y = bootBuiltins y) (lim : s₁.heap.NoLimit) (gens0 : s₁.gens = #[])
    (obj : s₁.heap.get? a = some { cls := .type "list", data := .seq vs.toArray }) (tabO : ∀ q ∈ Ts, s₁.heap.get? q.2 = some noTab) (tabK : ∀ q ∈ Ts, K.lookup q.2 = none) (hd : ∀ q ∈ Ts, PySem.W.CodeHd s₁.heap q.1 q.2)
    (main : ∃ (bm : Addr) (ob : Obj), mg "__builtins__" = some (.ref bm) ∧ bm ≠ builtinsNs ∧ s₁.heap.get? bm = some ob ∧ ob.cls = .type "module" ∧ ob.dict = some builtinsNs ∧ ob.data = .plain)
    (room : Room k callerA) (F : ∀ base : Heap, K.In base → base.Ns mainGlobals mg → (∀ q ∈ Ts, TabB base mg q.1 q.2) → FnG P w K mg base CX k fa fd [x] sp)
    (bind : ∀ (s : Shared) (u : Value), BindsTo s fd ⟨[u], []⟩ [(x, u)]) (want : ∀ H : Hp, (∀ q ∈ Ts, H q.2 = some (.tbl #[])) → SqL K H a (ns.map V.int) → sp [.ref a] H (fun v _ => v = .bl true) fun _ _ _ => False)
    (noX : ∀ H e s', CX [] H s₁ (fun _ _ _ => False) e s' → False) : codeAny (model P w) callerA (.call (.ref fa) ⟨[.ref a], []⟩) (Wanted s₁) s₁ := by
  -- what H tells of an address is the script's list or the table
  have told : ∀ {b : Addr} {o : Obj}, s₁.heap.get? b = some o → H b ≠ none → o.data = .seq vs.toArray ∨ o.data = .fields #[] := fun {b o} g n => by
    rcases Z.known b n with e | e
    · rw [e, obj] at g
      rw [← Option.some.inj g]
      exact .inl rfl
    · obtain ⟨q, hq, e⟩ := List.mem_map.mp e
      rw [← e, tabO q hq] at g
      rw [← Option.some.inj g]
      exact .inr rfl
  have hid : ∀ {b : Addr} {o : Obj}, s₁.heap.get? b = some o → ¬ H b ≠ none → (hidT s₁.heap H).get? b = some o := fun g n => hidT_get g (Classical.byContradiction n)
  have names : ∀ {b : Addr} {m : Str → Option Value}, s₁.heap.Ns b m → (hidT s₁.heap H).Ns b m := by
    rintro b m ⟨o, es, ep, g, d, r⟩
    refine ⟨o, es, ep, hid g fun n => ?_, d, r⟩
    rcases told g n with e | e
    · rw [e] at d
      exact Data.noConfusion d
    · rw [e] at d
      exact Data.noConfusion d
  have part : K.In (hidT s₁.heap H) := fun b o g => hid (KX b o g) fun n => by
    rcases Z.known b n with e | e
    · subst e
      rw [Z.notK n] at g
      cases g
    · obtain ⟨q, hq, e⟩ := List.mem_map.mp e
      rw [← e, tabK q hq] at g
      cases g
  obtain ⟨mc, c1, c2⟩ := lim
  have md : Mod K mg (hidT s₁.heap H) := ⟨part, names gN, ⟨mb, names bN, bB⟩, ⟨mc, names c1, c2⟩⟩
  have apart : ∀ {bm : Addr} {o : Obj}, s₁.heap.get? bm = some o → o.data = .plain → (∀ q ∈ Ts, bm ≠ q.2) ∧ ¬ H bm ≠ none := fun {bm o} g d => by
    refine ⟨fun q hq m => ?_, fun n => ?_⟩
    · rw [m, tabO q hq] at g
      rw [← Option.some.inj g] at d
      exact Data.noConfusion d
    · rcases told g n with e | e
      · rw [d] at e
        exact Data.noConfusion e
      · rw [d] at e
        exact Data.noConfusion e
  have TB : ∀ q ∈ Ts, TabB (hidT s₁.heap H) mg q.1 q.2 := fun q hq => by
    refine ⟨?_, ?_, fun m => ?_⟩
    · obtain ⟨o, us, file, tf, flags, tg, inF, text, tt, q1, q2, q3, qq⟩ := id (hd q hq)
      refine ⟨o, us, file, tf, flags, tg, inF, text, tt, hid q1 fun n => ?_, q2, q3, qq⟩
      rcases told q1 n with e | e
      · rw [q3] at e
        exact Data.noConfusion e
      · rw [q3] at e
        obtain ⟨q4, _⟩ := qq
        injection e with e
        rw [e] at q4
        simp at q4
    · obtain ⟨bm, ob, b1, b2, b3, b4, b5, b6⟩ := main
      obtain ⟨n1, n2⟩ := apart b3 b6
      refine ⟨bm, ob, b1, b2, fun m => ?_, n1 q hq, hid b3 n2, b4, b5, b6⟩
      obtain ⟨o, es, ep, g, d, _⟩ := gN
      rw [m, g] at b3
      rw [← Option.some.inj b3, d] at b6
      exact Data.noConfusion b6
    · obtain ⟨o, es, ep, g, d, _⟩ := gN
      rw [m, tabO q hq] at g
      rw [← Option.some.inj g] at d
      exact Data.noConfusion d
  have e0 : Env0 P w K mg (hidT s₁.heap H) callerA [] s₁ H := ⟨rfl, md, fun _ _ g => of_hidT g, Nat.le_of_eq (hidT_size _ _), trivial, fun b m => absurd m (List.not_mem_nil (a := b)), Z.ok, PyProof.Rows.AllBare.of_eq gens0⟩
  refine codeAny_mono ((F _ part (names gN) TB).goes callerA [] s₁ H ⟨[.ref a], []⟩ [.ref a] [.ref a] _ _ rfl room e0 (bind s₁ (.ref a)) (.cons rfl .nil) (want H (fun q hq => Z.tab _ (List.mem_map.mpr ⟨q, hq, rfl⟩)) Z.seq)) ?_
  rintro (er | _ | _ | _ | u) s' q
  · exact (noX H er s' q).elim
  · exact q.elim
  · exact q.elim
  · exact q.elim
  · obtain ⟨v, H', os, bare, un, ok', rv, rfl⟩ := q
    obtain rfl : u = Value.bool true := rv
    have stay : ∀ b o, b ∉ Ts.map (·.2) → s₁.heap.get? b = some o → s'.heap.get? b = some o := fun b o nb g => by
      rcases Z.only b with n | n | ⟨ob, xs, n⟩
      · exact un.keep b o g n (fun m => by cases m) (fun m => by cases m)
      · exact absurd n nb
      · have g1 := (Z.ok b _ n).1
        have g2 := (ok' b _ (un.frzs b ob _ n)).1
        rw [g] at g1
        rw [g2, Option.some.inj g1]
    have grown : ∀ q ∈ Ts, ∃ more : Array Value, s'.heap.get? q.2 = some { cls := .none, data := .fields more } := fun q hq => by
      obtain ⟨more, gm⟩ := un.tbls q.2 #[] (Z.tab _ (List.mem_map.mpr ⟨q, hq, rfl⟩))
      have z : s'.heap.get? q.2 = some { cls := .none, data := .fields (#[] ++ more) } := ok' q.2 _ gm
      rw [Array.empty_append] at z
      exact ⟨more, z⟩
    refine ⟨rfl, ⟨fun b o g => ?_, fun b o g => ?_⟩, os, bare⟩
    · by_cases m : b ∈ Ts.map (·.2)
      · obtain ⟨q, hq, rfl⟩ := List.mem_map.mp m
        obtain ⟨more, gr⟩ := grown q hq
        have t := tabO q hq
        rw [t] at g
        cases g
        exact .inr (.inl ⟨((hd q hq).tab t).isCodeTable, rfl, #[], more, rfl, by first | exact gr | (rw [Array.empty_append]; exact gr)⟩)
      · exact .inl (stay b o m g)
    · by_cases m : b ∈ Ts.map (·.2)
      · obtain ⟨q, hq, rfl⟩ := List.mem_map.mp m
        obtain ⟨more, gr⟩ := grown q hq
        exact ⟨_, gr⟩
      · exact ⟨o, stay b o m g⟩
theorem law_callGL {P : Program} {w : World} {K : PySem.W.Frag} {mg mb : Str → Option Value} {CX : CXT} {k : Nat} {fa a : Addr} {Ts : List (Addr × Addr)} {fd : FuncData} {x : Str} {sp : Sp} {s₁ : Shared} {vs : List Value} {ns : List Int} (KX : K.In s₁.heap) (gN : s₁.heap.Ns mainGlobals mg)
    (bN : s₁.heap.Ns builtinsNs mb) (bB : ∀ y : Str, y ≠ "__name__" → mb y = bootBuiltins y) (lim : s₁.heap.NoLimit) (gens0 : s₁.gens = #[]) (obj : s₁.heap.get? a = some { cls := .type "list", data := .seq vs.toArray }) (hints : PyProof.Rows.IntsAre vs ns) (few : ns.length ≤ sizeLine)
    (tabO : ∀ q ∈ Ts, s₁.heap.get? q.2 = some noTab) (tabK : ∀ q ∈ Ts, K.lookup q.2 = none) (hd : ∀ q ∈ Ts, PySem.W.CodeHd s₁.heap q.1 q.2)
    (main : ∃ (bm : Addr) (ob : Obj), mg "__builtins__" = some (.ref bm) ∧ bm ≠ builtinsNs ∧ s₁.heap.get? bm = some ob ∧ ob.cls = .type "module" ∧ ob.dict = some builtinsNs ∧ ob.data = .plain)
    (room : Room k callerA) (F : ∀ base : Heap, K.In base → base.Ns mainGlobals mg → (∀ q ∈ Ts, TabB base mg q.1 q.2) → FnG P w K mg base CX k fa fd [x] sp) (bind : ∀ (s : Shared) (u : Value), BindsTo s fd ⟨[u], []⟩ [(x, u)])
    (want : ∀ H : Hp, (∀ q ∈ Ts, H q.2 = some (.tbl #[])) → SqL K H a (ns.map V.int) → sp [.ref a] H (fun v _ => v = .bl true) fun _ _ _ => False) (noX : ∀ H e s', CX [] H s₁ (fun _ _ _ => False) e s' → False) :
    codeAny (model P w) callerA (.call (.ref fa) ⟨[.ref a], []⟩) (Wanted s₁) s₁ := by
  have rv := vals_ints hints
  have many := hints.length
  have nt : a ∉ Ts.map (·.2) := fun m => by
    obtain ⟨q, hq, e⟩ := List.mem_map.mp m
    rw [← e, tabO q hq] at obj
    cases obj
  by_cases hk : K.lookup a = none
  · -- the script is the caller's own: told as a locked list
    generalize eH : (fun b : Addr => if b = a then some (HO.frz { cls := .type "list", data := .seq vs.toArray } (.lst (ns.map V.int))) else if b ∈ Ts.map (·.2) then some (.tbl #[]) else none) = H
    have at_a : H a = some (HO.frz { cls := .type "list", data := .seq vs.toArray } (.lst (ns.map V.int))) := by
      rw [← eH]
      exact if_pos rfl
    have at_t : ∀ p ∈ Ts.map (·.2), H p = some (.tbl #[]) := fun p hp => by
      rw [← eH]
      have n : p ≠ a := fun m => nt (by rw [← m]; exact hp)
      exact (if_neg n).trans (if_pos hp)
    have else_ : ∀ b, b ≠ a → b ∉ Ts.map (·.2) → H b = none := fun b n1 n2 => by
      rw [← eH]
      exact (if_neg n1).trans (if_neg n2)
    refine sole_runL (H := H) ⟨fun b => ?_, .inl (.inr ⟨_, at_a⟩), fun b u z => ?_, fun b n => ?_, fun _ => hk, at_t⟩ KX gN bN bB lim gens0 obj tabO tabK hd main room F bind want noX
    · by_cases e1 : b = a
      · exact .inr (.inr ⟨_, _, by rw [e1]; exact at_a⟩)
      · by_cases e2 : b ∈ Ts.map (·.2)
        · exact .inr (.inl e2)
        · exact .inl (else_ b e1 e2)
    · by_cases e1 : b = a
      · subst e1
        obtain rfl := Option.some.inj (at_a.symm.trans z)
        exact ⟨obj, by rw [List.length_map]; exact few, vs, _, rv, obj⟩
      · by_cases e2 : b ∈ Ts.map (·.2)
        · obtain rfl := Option.some.inj ((at_t b e2).symm.trans z)
          obtain ⟨q, hq, rfl⟩ := List.mem_map.mp e2
          exact tabO q hq
        · rw [else_ b e1 e2] at z
          cases z
    · by_cases e1 : b = a
      · exact .inl e1
      · by_cases e2 : b ∈ Ts.map (·.2)
        · exact .inr e2
        · exact absurd (else_ b e1 e2) n
  · -- the script is one of the module's objects
    obtain ⟨o, ho⟩ := Option.ne_none_iff_exists'.mp hk
    have eo := Option.some.inj (obj.symm.trans (KX a o ho))
    generalize eH : (fun b : Addr => if b ∈ Ts.map (·.2) then some (HO.tbl #[]) else none) = H
    have at_t : ∀ p ∈ Ts.map (·.2), H p = some (.tbl #[]) := fun p hp => by
      rw [← eH]
      exact if_pos hp
    have else_ : ∀ b, b ∉ Ts.map (·.2) → H b = none := fun b n => by
      rw [← eH]
      exact if_neg n
    refine sole_runL (H := H) ⟨fun b => ?_, .inr ⟨o, vs.toArray, 0, ho, by rw [← eo], by rw [← eo], by rw [← eo], by rw [List.size_toArray, many]; exact few, by simpa using rv⟩, fun b u z => ?_, fun b n => ?_, fun n => absurd (else_ a nt) n, at_t⟩ KX gN bN bB lim gens0 obj tabO tabK hd main room F bind want noX
    · by_cases e2 : b ∈ Ts.map (·.2)
      · exact .inr (.inl e2)
      · exact .inl (else_ b e2)
    · by_cases e2 : b ∈ Ts.map (·.2)
      · obtain rfl := Option.some.inj ((at_t b e2).symm.trans z)
        obtain ⟨q, hq, rfl⟩ := List.mem_map.mp e2
        exact tabO q hq
      · rw [else_ b e2] at z
        cases z
    · by_cases e2 : b ∈ Ts.map (·.2)
      · exact .inr e2
      · exact absurd (else_ b e2) n
end
/-! ### own operators with an int on either side (gathered from k12) -/
/-! ### dicts whose keys are tuples of ints, texts and None: told by an own description -/
section
def lV : Leaf → V
  | .none => .non
  | .num i => .int i
  | .text x => .str x
/-- the entries: keys, where their tuples stand, values -/
abbrev Ents : Type := List (List Leaf × Addr × V)
def dRow3 (p : List Leaf × Addr × V) (q : List Leaf × Addr × Value) : Prop := p.1 = q.1 ∧ p.2.1 = q.2.1 ∧ RelV p.2.2 q.2.2
def dObj (P : Program) (w : World) (a : Addr) (kbs : Ents) : HO := .ext fun h => ∃ xs : List (List Leaf × Addr × Value), Paired dRow3 kbs xs ∧
  (∃ o es ep, h.get? a = some o ∧ o.ExactDict ∧ o.data = .dict es ep ∧ es.toList = xs.map (entryOfKey (tupleKind (leafKind P w)))) ∧ (xs.map (·.1)).Nodup ∧ (a == sysModules) = false ∧ kbs.length ≤ sizeLine
/-- such a dict stands at a, and its keys' tuples where they are said to -/
def Tab (P : Program) (w : World) (H : Hp) (a : Addr) (kbs : Ents) : Prop := H a = some (dObj P w a kbs) ∧ ∀ x ∈ kbs, H x.2.1 = some (.tup (x.1.map lV))
def valT (kbs : Ents) (k : List Leaf) : Option V := (kbs.find? fun x => decide (x.1 = k)).map (·.2.2)
variable {P : Program} {w : World} {H H' : Hp} {h : Heap} {a b : Addr} {kbs : Ents} {k : List Leaf}
theorem leaf_is {l : Leaf} {u : Value} (r : RelV (lV l) u) : (leafKind P w).is l u = true := by
  cases l with
  | none =>
    obtain rfl : u = Value.none := r
    rfl
  | num i =>
    obtain ⟨t, rfl⟩ := r
    exact decide_eq_true rfl
  | text x =>
    obtain ⟨t, rfl⟩ := r
    show Value.isStrOf x (.str x t) = true
    simp [Value.isStrOf]
theorem leaves_are : ∀ {ls : List Leaf} {us : List Value}, Vals (ls.map lV) us → ItemsAre (leafKind P w) ls us
  | [], _, r => by
    cases r
    exact .nil
  | l :: ls, _, r => by
    cases r with
    | cons r t => exact .cons (leaf_is r) (leaves_are t)
theorem leafKey (ok : HOk P w H h) (e : H b = some (.tup (k.map lV))) : (tupleKind (leafKind P w)).is h k b := by
  obtain ⟨_, us, r, ob, at_b, isT, m, dat⟩ := (show ObjOk P w H h b (.tup (k.map lV)) from ok b _ e)
  exact ⟨ob, us.toArray, m, at_b, isT, dat, by simpa using leaves_are r⟩
theorem dRow3.keys {xs : List (List Leaf × Addr × Value)} (r : Paired dRow3 kbs xs) : kbs.map (·.1) = xs.map (·.1) := by
  induction r with
  | nil => rfl
  | cons h _ ih => rw [List.map_cons, List.map_cons, ih, h.1]
theorem dRow3.val {xs : List (List Leaf × Addr × Value)} (r : Paired dRow3 kbs xs) (k : List Leaf) : RelO (valT kbs k) ((atKey xs k).map (·.2)) := by
  induction r with
  | nil => exact True.intro
  | @cons p q ps qs h _ ih =>
    unfold valT atKey at ih ⊢
    rw [List.find?_cons, List.find?_cons, ← h.1]
    by_cases e : p.1 = k
    · rw [decide_eq_true e]
      exact h.2.2
    · rw [decide_eq_false e]
      exact ih
theorem dRow3.snoc {xs : List (List Leaf × Addr × Value)} {p : List Leaf × Addr × V} {q : List Leaf × Addr × Value} (r : Paired dRow3 kbs xs) (z : dRow3 p q) : Paired dRow3 (kbs ++ [p]) (xs ++ [q]) := by
  induction r with
  | nil => exact .cons z .nil
  | cons h _ ih => exact .cons h ih
theorem Tab.dict (t : Tab P w H a kbs) (ok : HOk P w H h) : ∃ xs, Paired dRow3 kbs xs ∧ h.DictOfH (tupleKind (leafKind P w)) a xs ∧ (a == sysModules) = false ∧ kbs.length ≤ sizeLine := by
  obtain ⟨⟨xs, r, ⟨o, es, ep, h1, h2, h3, h4⟩, nd, low, few⟩, _, _⟩ := (show ObjOk P w H h a (dObj P w a kbs) from ok a _ t.1)
  refine ⟨xs, r, ⟨o, es, ep, h1, h2, h3, h4, ?_, nd⟩, low, few⟩
  have all : ∀ {l : Ents} {m : List (List Leaf × Addr × Value)}, Paired dRow3 l m → (∀ x ∈ l, H x.2.1 = some (.tup (x.1.map lV))) → ∀ x ∈ m, (tupleKind (leafKind P w)).is h x.1 x.2.1 := by
    intro l m r
    induction r with
    | nil => exact fun _ x hx => nomatch hx
    | @cons p q ps qs hq _ ih =>
      intro hl x hx
      rcases List.mem_cons.mp hx with e | hx
      · rw [e, ← hq.1, ← hq.2.1]
        exact leafKey ok (hl p List.mem_cons_self)
      · exact ih (fun y hy => hl y (List.mem_cons_of_mem _ hy)) x hx
  exact all r t.2
theorem dObj_ok {xs : List (List Leaf × Addr × Value)} (r : Paired dRow3 kbs xs) (d : h.DictOfH (tupleKind (leafKind P w)) a xs) (low : (a == sysModules) = false) (few : kbs.length ≤ sizeLine) : ObjOk P w H h a (dObj P w a kbs) := by
  obtain ⟨o, es, ep, h1, h2, h3, h4, _, nd⟩ := d
  refine ⟨⟨xs, r, ⟨o, es, ep, h1, h2, h3, h4⟩, nd, low, few⟩, ⟨o, h1⟩, fun g1 g2 z k => ?_⟩
  obtain ⟨ys, r', ⟨o', es', ep', q1, q2, q3, q4⟩, nd', low', few'⟩ := z
  exact ⟨ys, r', ⟨o', es', ep', k _ q1, q2, q3, q4⟩, nd', low', few'⟩
theorem Tab.same (t : Tab P w H a kbs) (s : Same H H') : Tab P w H' a kbs := ⟨s _ _ t.1, fun x hx => s _ _ (t.2 x hx)⟩
variable {X : Cx}
def rInTab (X : Cx) : R2 := fun x y H Q => ∃ b a k kbs, x = .ref b ∧ y = .ref a ∧ H b = some (.tup (k.map lV)) ∧ Tab X.prog X.w H a kbs ∧ Q (.bl (valT kbs k).isSome) H
theorem relO_isS {x : Option V} {y : Option Value} (r : RelO x y) : y.isSome = x.isSome := by
  cases x <;> cases y <;> first | rfl | exact r.elim
theorem op_inTab (un : X.A.units + 64 < cLine) : OpR X (compareOp .In) (rInTab X) := by
  intro pins s σ H x y v u Q I rx ry h
  obtain ⟨b, a, k, kbs, rfl, rfl, eb, t, q⟩ := h
  cases rx
  cases ry
  obtain ⟨xs, r, d, low, few⟩ := t.dict I.hok
  refine wpAny_in_heap (tupleKind_room_in1 (by omega)) (leafKey I.hok eb) low d ?_
  have e := relO_isS (dRow3.val r k)
  rw [Option.isSome_map] at e
  rw [e]
  exact ⟨.bl _, H, I.tok _, rfl, q⟩
def rIxTab (X : Cx) : R2 := fun x y H Q => ∃ b a k kbs v, x = .ref a ∧ y = .ref b ∧ H b = some (.tup (k.map lV)) ∧ Tab X.prog X.w H a kbs ∧ valT kbs k = some v ∧ Q v H
theorem ixTab (un : X.A.units + 64 < cLine) : IxR X (rIxTab X) := by
  intro value slice pins s σ H x y v u Q I rx ry h hs
  obtain ⟨b, a, k, kbs, z, rfl, rfl, eb, t, ev, q⟩ := h
  cases rx
  cases ry
  obtain ⟨xs, r, d, low, few⟩ := t.dict I.hok
  have e := dRow3.val r k
  rw [ev] at e
  obtain ⟨u', hu, ru⟩ := RelO.some_of e
  obtain ⟨p, hp, rfl⟩ := Option.map_eq_some_iff.mp hu
  exact PyProof.Rows.tail_any d.typeIs PySem.F.slot_dict_getitem.lookup (wpAny_getItem_heap (tupleKind_room_in1 (by omega)) (leafKey I.hok eb) d hp ⟨z, H, I.tok _, ru, q⟩) hs
/-- a store of a new key -/
def PutTab (X : Cx) (H : Hp) (D : Addr) (y z : V) (H' : Hp) : Prop := ∃ kbs k b, y = .ref b ∧ H b = some (.tup (k.map lV)) ∧ Tab X.prog X.w H D kbs ∧ k ∉ kbs.map (·.1) ∧ kbs.length < sizeLine ∧ H' = upd H D (dObj X.prog X.w D (kbs ++ [(k, b, z)]))
theorem atKey_none {xs : List (List Leaf × Addr × Value)} {k : List Leaf} (n : k ∉ xs.map (·.1)) : atKey xs k = none := by
  unfold atKey
  rw [Option.map_eq_none_iff, List.find?_eq_none]
  intro x hx e
  exact n (List.mem_map.mpr ⟨x, hx, of_decide_eq_true e⟩)
theorem putTab_set {pins : List (Addr × Obj)} {σ : St} {H H' : Hp} {s : Shared} {E : Value → Shared → Prop} {D : Addr} {y z : V} {u r : Value} {Q : Unit → Shared → Prop} (un : X.A.units < cLine) (I : Inv X pins σ H s) (p : PutTab X H D y z H') (ry : RelV y u) (rz : RelV z r)
    (w : ∀ s', Inv X pins σ H' s' → Q () s') : wpAny (model X.prog X.w) X.A (dictSet D u r) Q E s := by
  obtain ⟨kbs, k, b, rfl, eb, t, new, few, rfl⟩ := p
  cases ry
  obtain ⟨xs, rr, d, low, _⟩ := t.dict I.hok
  have nw : atKey xs k = none := atKey_none (by rw [← dRow3.keys rr]; exact new)
  have len : xs.length = kbs.length := by rw [← List.length_map (f := (·.1)), ← dRow3.keys rr, List.length_map]
  refine wpAny_dictSet_heap (knd := tupleKind (leafKind X.prog X.w)) un (leafKey I.hok eb) d (fun h' d' but => w _ ?_) (by omega)
  rw [storedH_new nw] at d'
  obtain ⟨o, es, ep, q1, _⟩ := id d'
  refine I.write (x := D) (e := D) (by rw [t.1]; exact True.intro) (.inl rfl) (fun c o' nc g => (but.2 c nc).trans g) ⟨o, q1⟩ (dObj_ok (dRow3.snoc rr ⟨rfl, rfl, rz⟩) d' low ?_)
  rw [List.length_append]
  exact few
end
/-! ### {key: value for ..}, its keys tuples of ints, texts and None, each once -/
section
open PyProof.Rows hiding St
variable {X : Cx}
def tDcT (X : Cx) (wi : TI) (g : TG) (tk tv : TE) (vs : List Nat) : TE := fun σ H Q => wi σ H fun J H1 => ∀ D, H1 D = none → ∃ W : Nat → Nat → Hp → Prop, (∃ m, W 0 m (upd H1 D (dObj X.prog X.w D []))) ∧ ∀ i m H, W i m H →
  (J.stop i H ∧ Q (.ref D) H) ∨ (J.go i H ∧ ∃ Nx : Hp → Prop, (∀ H', Nx H' → ∃ m', m' < m ∧ W (i + 1) m' H') ∧ ∀ x H', J.yld i H x H' → g x (wipe σ vs) H' fun σ2 H2 => wipe σ2 vs = wipe σ vs ∧ tk σ2 H2 fun y H4 => tv σ2 H4 fun z H5 => ∃ H6, PutTab X H5 D y z H6 ∧ Nx H6)
theorem pe_dcT {kx vx tg iter : Expr} {scope : Scope} {own : List (Str × Nat)} {pos : Pos} {wi : TI} {g : TG} {tk tv : TE} (un : X.A.units < cLine) (calm : X.calm = true) (nd : X.N.Nodup) (wk : PI X tg iter wi) (bk : BlkOk X.N X.env.scope scope own)
    (gg : ∀ (s : Shared) (H : Hp) (C : Addr) (cl : List (Str × Addr)) (fp : List Addr), PG (X.blk s H scope (compEnvC scope cl C X.env) fp) tg g)
    (kk : ∀ (s : Shared) (H : Hp) (C : Addr) (cl : List (Str × Addr)) (fp : List Addr), PE (X.blk s H scope (compEnvC scope cl C X.env) fp) kx tk) (vv : ∀ (s : Shared) (H : Hp) (C : Addr) (cl : List (Str × Addr)) (fp : List Addr), PE (X.blk s H scope (compEnvC scope cl C X.env) fp) vx tv)
    (same : ∀ x, foldedSetIterable iter X.env x = pure x := by intro _; rfl) : PE X (.DictComp kx vx [⟨tg, iter, [], 0⟩] scope pos) (tDcT X wi g tk tv (own.map (·.2))) := by
  refine ⟨fun pins s σ H Q I w => ?_⟩
  rw [arm_eval_DictComp]
  have caught : ∀ y ∈ scope.names, y.2 = .free → ∃ c, X.env.cells.lookup y.1 = some c := fun y hy e => (bk.free y hy e).elim (fun k => I.ok.has _ (.inl k)) fun k => I.ok.has _ (.inr k)
  refine wpAny_comprehension_free (use := none) rfl same (closure_ok caught) bk.kind (fun y hy e => by rw [bk.uniq y hy, e]) (thn (wk.run pins s σ H _ I w) fun v1 s1 h1 => thn h1 fun v2 s2 h2 => ?_)
  obtain ⟨it, fp, turn_at, J, H2, rfl, I2, T, st2, frees, w⟩ := h2
  refine wpAny_newObj_type (newEnv_comp ?_)
  have newD : H2 s2.heap.objs.size = none := I2.hok.fresh (Nat.le_refl _)
  obtain ⟨W, ⟨m0, w0⟩, turn⟩ := w s2.heap.objs.size newD
  generalize eD : s2.heap.objs.size = D at newD w0 turn
  -- the dict that is filled
  have stay3 : ∀ b o, s2.heap.get? b = some o → (s2.heap.push { cls := .type "dict", data := .dict #[] }).get? b = some o := fun b o e => Heap.get?_push_of_some _ e
  have low : (D == sysModules) = false := by
    rw [← eD]
    exact beq_eq_false_iff_ne.mpr (Nat.ne_of_gt I2.big)
  have I3 : Inv X pins σ (upd H2 D (dObj X.prog X.w D [])) { s2 with heap := s2.heap.push { cls := .type "dict", data := .dict #[] } } :=
    I2.laid (t' := s2.toks) stay3 (Nat.le_of_eq eD) (by rw [← eD] at low ⊢; exact dObj_ok .nil (Heap.DictOfH.new s2.heap) low (Nat.zero_le _))
  have size3 : (s2.heap.push { cls := .type "dict", data := .dict #[] }).objs.size = s2.heap.objs.size + 1 := Heap.size_push _ _
  generalize eH : upd H2 D (dObj X.prog X.w D []) = H3 at I3 w0
  have frees3 : ∀ b ∈ fp, FpOk X pins H3 b ∧ b < (s2.heap.push { cls := .type "dict", data := .dict #[] }).objs.size := fun b hb => by
    obtain ⟨o, e, _⟩ := T.obj _ _ st2 b hb
    have lt := Heap.lt_size e
    refine ⟨⟨?_, (frees b hb).2⟩, by rw [size3]; exact Nat.lt_succ_of_lt lt⟩
    rw [← eH, upd_ne (by rw [← eD]; exact Nat.ne_of_lt lt)]
    exact (frees b hb).1
  have st3 : turn_at 0 (s2.heap.push { cls := .type "dict", data := .dict #[] }) := T.keep _ _ _ st2 fun b _ o e => stay3 b o e
  generalize e3 : ({ s2 with heap := s2.heap.push { cls := .type "dict", data := .dict #[] } } : Shared) = s3 at I3
  have h3 : s3.heap = s2.heap.push { cls := .type "dict", data := .dict #[] } := by rw [← e3]
  rw [← h3] at frees3 st3
  have I4 := block_start I3 bk nd frees3
  have pg := gg s3 H3 s3.heap.objs.size (cellsFrom (s3.heap.objs.size + 1) scope.names (cloFrom X.env.cells scope.names [])) fp
  have pk := kk s3 H3 s3.heap.objs.size (cellsFrom (s3.heap.objs.size + 1) scope.names (cloFrom X.env.cells scope.names [])) fp
  have pv := vv s3 H3 s3.heap.objs.size (cellsFrom (s3.heap.objs.size + 1) scope.names (cloFrom X.env.cells scope.names [])) fp
  show codeAny _ _ (.compStart (.DictComp kx vx [⟨tg, iter, [], 0⟩] scope pos) 0 (.ref it) (.ref D) (compEnvC scope (cellsFrom (s3.heap.objs.size + 1) scope.names (cloFrom X.env.cells scope.names [])) s3.heap.objs.size X.env))
    (compPost (model X.prog X.w) X.A X.xe none (EP X pins σ Q) (.ref D) s3.heap.objs.size) { s3 with heap := pushCells (s3.heap.push { cls := .type "dict", data := .dict #[] }) scope.names }
  have free3 : ∀ b ∈ fp, H3 b = none := fun b hb => (frees3 b hb).1.1
  generalize eC : compEnvC scope (cellsFrom (s3.heap.objs.size + 1) scope.names (cloFrom X.env.cells scope.names [])) s3.heap.objs.size X.env = ce at I4 pg pk pv ⊢
  have locals : ce.locals = s3.heap.objs.size := by rw [← eC]; rfl
  generalize e4 : ({ s3 with heap := pushCells (s3.heap.push { cls := .type "dict", data := .dict #[] }) scope.names } : Shared) = s4 at I4 ⊢
  have st4 : turn_at 0 s4.heap := T.keep _ _ _ st3 fun b _ o e => by
    rw [← e4]
    exact pushCells_keeps _ _ _ _ (Heap.get?_push_of_some _ e)
  have walked : ∀ {τ : St} {G : Hp} {z : Shared}, Inv (X.blk s3 H3 scope ce fp) [] τ G z → (∀ b ∈ fp, G b = none) → ∀ b ∈ fp, FpOk (X.blk s3 H3 scope ce fp) [] G b := fun {τ G z} V n b hb =>
    ⟨n b hb, (V.ok.exf b hb).1, V.ok.exfs b hb, .inl hb, fun x c e => (V.ok.exf b hb).2 x c e, fun p hp => absurd (show p ∈ ([] : List (Addr × Obj)) ++ [] from hp) (by simp)⟩
  have loop : codeAny (model X.prog X.w) X.A (.compLoop (.DictComp kx vx [⟨tg, iter, [], 0⟩] scope pos) 0 (.ref it) (.ref D) ce) (compPost (model X.prog X.w) X.A X.xe none (EP X pins σ Q) (.ref D) s3.heap.objs.size) s4 := by
    refine compLoop_anyD (fun n z => ∃ i G, Inv (X.blk s3 H3 scope ce fp) [] (wipe σ (own.map (·.2))) G z ∧ turn_at i z.heap ∧ (∀ b ∈ fp, G b = none) ∧ W i n G) ?_ m0 ⟨0, H3, I4, st4, free3, w0⟩
    rintro n z5 ⟨i, G5, V5, st5, n5, w5⟩
    rcases turn i n G5 w5 with ⟨stop, done⟩ | ⟨go, Nx, next, step⟩
    · refine thnF (T.done (X.blk s3 H3 scope ce fp) rfl rfl rfl calm i [] z5 _ G5 (fun _ _ => False) V5 (walked V5 n5) st5 stop) fun r z6 hz => ?_
      obtain ⟨rfl, V6⟩ := hz
      have I7 : Inv X pins σ G5 z6 := I3.call' (ch := fp) V6.os V6.base V6.hok V6.bare fun b hb => by
        obtain ⟨⟨_, y1, _, y3, y4, y5⟩, _⟩ := frees3 b hb
        exact ⟨y3, y1, y4, y5⟩
      obtain ⟨m, ns, _⟩ := V6.loc
      have ns2 : z6.heap.Ns s3.heap.objs.size m := locals ▸ (show z6.heap.Ns ce.locals m from ns)
      have nC : G5 s3.heap.objs.size = none := locals ▸ (show G5 ce.locals = none from V6.free)
      obtain ⟨f0, f1, f2, f3, f4, f5⟩ := I3.fpOk (Nat.le_refl _) nC
      exact ⟨m, ns2, fun h'' but => ⟨.ref D, G5, I7.turned (t' := z6.toks) (fun b o hb e => (but.2 b hb).trans e) f0 f1 f3 f4 f5, rfl, done⟩⟩
    · refine thnF (T.item (X.blk s3 H3 scope ce fp) rfl rfl rfl calm i [] z5 _ G5 (fun _ _ => False) V5 (walked V5 n5) st5 go) fun r z6 hz => ?_
      obtain ⟨u, rfl, hz⟩ := hz
      refine thnF hz fun _ z7 hz => ?_
      obtain ⟨x, G7, V7, r7, y7, st7, n7⟩ := hz
      have V7' := V7.pinned (walked V7 n7) (T.obj _ _ st7)
      refine thnF (pg.run _ z7 _ G7 x u _ V7' r7 (step x G7 y7)) fun _ z8 hz => ?_
      obtain ⟨τ8, G8, V8, wiped, yes⟩ := hz
      refine thnF (((pts_nil : PTs (X.blk s3 H3 scope ce fp) [] tYes)).run _ z8 τ8 G8 (fun b G => b = true ∧ tk τ8 G fun y H4 => tv τ8 H4 fun z H5 => ∃ H6, PutTab X H5 D y z H6 ∧ Nx H6) V8 ⟨rfl, yes⟩) fun b z9 hz => ?_
      obtain ⟨G9, V9, rfl, q9⟩ := hz
      simp only [if_true]
      refine thnF (pk.run _ z9 τ8 G9 _ V9 q9) fun y z10 hz => ?_
      obtain ⟨yv, G10, V10, r10, q10⟩ := hz
      refine thnF (pv.run _ z10 τ8 G10 _ V10 q10) fun y2 z11 hz => ?_
      obtain ⟨zv, G11, V11, r11, G12, put, nx⟩ := hz
      refine putTab_set (X := X.blk s3 H3 scope ce fp) un V11 put r10 r11 fun z12 V12 => ?_
      obtain ⟨m', less, w'⟩ := next _ nx
      have pinned : ∀ b ∈ fp, ∀ o, z7.heap.get? b = some o → z12.heap.get? b = some o ∧ G12 b = none := fun b hb o e =>
        let y := V12.pin (b, o) (List.mem_append_right _ (List.mem_append_right _ (mem_pinsAt hb e)))
        ⟨y.1, y.2.1⟩
      refine ⟨m', less, i + 1, _, (V12.unpinned (pins := [])).weak (by rw [← wiped, wipe_length]) (fun j v e => ?_), T.keep _ _ _ st7 fun b hb o e => (pinned b hb o e).1, fun b hb => ?_, w'⟩
      · rw [← wiped] at e
        exact (wipe_some e).1
      · obtain ⟨o, e, _⟩ := T.obj _ _ st7 b hb
        exact (pinned b hb o e).2
  exact codeAny_compStart_dict loop (T.self X.A 0 _ _ _ st4 loop)
end
section
variable {X : Cx} {J : It} {n : Nat} {G : Hp → Prop} {Y : Nat → Hp → V → Hp → Prop}
theorem dc_it (wk : Walk J n G Y) {g : TG} {tk tv : TE} {vs : List Nat} {σ : St} {H1 : Hp} {D : Addr} {Qd : Hp → Prop} (I : Nat → Hp → Prop) (i0 : I 0 (upd H1 D (dObj X.prog X.w D []))) (hG : ∀ i H, I i H → G H)
    (hs : ∀ i x H H', i < n → I i H → Y i H x H' → g x (wipe σ vs) H' fun σ2 H2 => wipe σ2 vs = wipe σ vs ∧ tk σ2 H2 fun y H4 => tv σ2 H4 fun z H5 => ∃ H6, PutTab X H5 D y z H6 ∧ I (i + 1) H6) (hd : ∀ H, I n H → Qd H) :
    ∃ W : Nat → Nat → Hp → Prop, (∃ m, W 0 m (upd H1 D (dObj X.prog X.w D []))) ∧ ∀ i m H, W i m H →
      (J.stop i H ∧ Qd H) ∨ (J.go i H ∧ ∃ Nx : Hp → Prop, (∀ H', Nx H' → ∃ m', m' < m ∧ W (i + 1) m' H') ∧ ∀ x H', J.yld i H x H' → g x (wipe σ vs) H' fun σ2 H2 => wipe σ2 vs = wipe σ vs ∧ tk σ2 H2 fun y H4 => tv σ2 H4 fun z H5 => ∃ H6, PutTab X H5 D y z H6 ∧ Nx H6) := by
  refine ⟨fun i m H => m = n - i ∧ i ≤ n ∧ I i H, ⟨n, rfl, Nat.zero_le _, i0⟩, ?_⟩
  rintro i m H ⟨rfl, le, iH⟩
  by_cases lt : i < n
  · exact .inr ⟨wk.goes i H lt (hG i H iH), I (i + 1), fun H' z => ⟨n - (i + 1), by omega, rfl, lt, z⟩, fun x H' y => hs i x H H' lt iH (wk.yields i H x H' lt (hG i H iH) y)⟩
  · obtain rfl : i = n := by omega
    exact .inl ⟨wk.stops H (hG _ H iH), hd H iH⟩
end
section
variable {J : It} {n : Nat} {G : Hp → Prop} {Y : Nat → Hp → V → Hp → Prop}
/-- the same for keys that are ints or texts (tDc), by what holds at each turn -/
theorem dcK_it (wk : Walk J n G Y) {g : TG} {tt : TT} {tk tv : TE} {vs : List Nat} {σ : St} {H1 : Hp} {D : Addr} {Qd : Hp → Prop} (I : Nat → Hp → Prop) (i0 : I 0 (upd H1 D (.dK []))) (hG : ∀ i H, I i H → G H)
    (hs : ∀ i x H H', i < n → I i H → Y i H x H' → g x (wipe σ vs) H' fun σ2 H2 => wipe σ2 vs = wipe σ vs ∧ tt σ2 H2 fun b H3 => if b = true then tk σ2 H3 fun y H4 => tv σ2 H4 fun z H5 => ∃ kvs k, y = kV k ∧ H5 D = some (.dK kvs) ∧ kvs.length < sizeLine ∧ I (i + 1) (upd H5 D (.dK (putK kvs k z))) else I (i + 1) H3)
    (hd : ∀ H, I n H → Qd H) : ∃ W : Nat → Nat → Hp → Prop, (∃ m, W 0 m (upd H1 D (.dK []))) ∧ ∀ i m H, W i m H → (J.stop i H ∧ Qd H) ∨ (J.go i H ∧ ∃ Nx : Hp → Prop, (∀ H', Nx H' → ∃ m', m' < m ∧ W (i + 1) m' H') ∧ ∀ x H', J.yld i H x H' → g x (wipe σ vs) H' fun σ2 H2 => wipe σ2 vs = wipe σ vs ∧ tt σ2 H2 fun b H3 =>
      if b = true then tk σ2 H3 fun y H4 => tv σ2 H4 fun z H5 => ∃ kvs k, y = kV k ∧ H5 D = some (.dK kvs) ∧ kvs.length < sizeLine ∧ Nx (upd H5 D (.dK (putK kvs k z))) else Nx H3) := by
  refine ⟨fun i m H => m = n - i ∧ i ≤ n ∧ I i H, ⟨n, rfl, Nat.zero_le _, i0⟩, ?_⟩
  rintro i m H ⟨rfl, le, iH⟩
  by_cases lt : i < n
  · exact .inr ⟨wk.goes i H lt (hG i H iH), I (i + 1), fun H' z => ⟨n - (i + 1), by omega, rfl, lt, z⟩, fun x H' y => hs i x H H' lt iH (wk.yields i H x H' lt (hG i H iH) y)⟩
  · obtain rfl : i = n := by omega
    exact .inl ⟨wk.stops H (hG _ H iH), hd H iH⟩
theorem putK_new {κ : Type} [DecidableEq κ] {kvs : List (κ × V)} {k : κ} {v : V} (n : k ∉ kvs.map (·.1)) : putK kvs k v = kvs ++ [(k, v)] := by
  unfold putK
  rw [if_neg]
  rw [List.any_eq_true]
  rintro ⟨x, hx, e⟩
  exact n (List.mem_map.mpr ⟨x, hx, of_decide_eq_true e⟩)
end
/-! ### tests that tell one truth, whatever grows meanwhile -/
section
def PureT (t : TT) (σ : St) (H : Hp) (b : Bool) : Prop := ∀ Q : Bool → Hp → Prop, (∀ H', Same H H' → Q b H') → t σ H Q
variable {t u : TT} {σ : St} {H : Hp} {x y : Bool}
theorem PureT.or (a : PureT t σ H x) (b : ∀ H', Same H H' → PureT u σ H' y) : PureT (tOr t u) σ H (x || y) := fun Q q => a _ fun H1 s1 => by
  cases x with
  | true => exact iteT (q _ s1)
  | false => exact iteF (b H1 s1 _ fun H2 s2 => q _ (s1.trans s2))
theorem PureT.and (a : PureT t σ H x) (b : x = true → ∀ H', Same H H' → PureT u σ H' y) : PureT (tAnd t u) σ H (x && y) := fun Q q => a _ fun H1 s1 => by
  cases x with
  | false => exact iteF (q _ s1)
  | true => exact iteT (b rfl H1 s1 _ fun H2 s2 => q _ (s1.trans s2))
theorem PureT.no (a : PureT t σ H x) : PureT (tNot t) σ H (!x) := fun Q q => a _ fun H1 s1 => q _ s1
theorem PureT.cast (a : PureT t σ H x) (e : x = y) : PureT t σ H y := e ▸ a
theorem PureT.ifs {c d : TS} {D : Ends} (a : PureT t σ H x) (b : x = true → ∀ H', Same H H' → c D σ H') (e : x = false → ∀ H', Same H H' → d D σ H') : tIfS t c d D σ H := a _ fun H1 s1 => by
  cases x with
  | true => exact iteT (b rfl _ s1)
  | false => exact iteF (e rfl _ s1)
end
theorem no_tt {b : Bool} (h : (!b) = true) : b = false := by cases b <;> first | rfl | cases h
theorem no_ff {b : Bool} (h : (!b) = false) : b = true := by cases b <;> first | rfl | cases h
theorem dec_len {n m : Nat} : decide (V.int n = V.int m) = decide (n = m) := decide_eq_decide.mpr ⟨fun h => by injection h with h; omega, fun h => by rw [h]⟩
theorem PureT.sqn {t : TT} {σ : St} {H : Hp} {x : Bool} {c u : TS} {D : Ends} (a : PureT t σ H x) (b : x = true → ∀ H', Same H H' → c { D with nx := u D } σ H') (e : x = false → ∀ H', Same H H' → u D σ H') : tSeq (tIfS t c tNext) u D σ H := PureT.ifs a b e
theorem PureT.orc {t u : TT} {σ : St} {H : Hp} {x y : Bool} (a : PureT t σ H x) (b : x = false → ∀ H', Same H H' → PureT u σ H' y) : PureT (tOr t u) σ H (x || y) := fun Q q => a _ fun H1 s1 => by
  cases x with
  | true => exact iteT (q _ s1)
  | false => exact iteF (b rfl H1 s1 _ fun H2 s2 => q _ (s1.trans s2))
/-! ### enumerate of a tuple, in a for loop's head -/
section
open PyProof.Rows hiding St
abbrev tupIt (t : Addr) : Obj := { cls := .type "tuple_iterator", data := .fields #[.ref t, .int 0 0] }
abbrev enumOf (n : Addr) : Obj := { cls := .type "enumerate", data := .fields #[.none, .bool false, .ref n, rawInt 0, .none, .none] }
theorem meets_enumT (t : Addr) (items : Array Value) : Meets (Builtin.«enumerate.__new__» ⟨[.type "enumerate", .ref t], []⟩)
    (fun _ R s => s.heap.IsTuple t items ∧ R (.ok (.ret (.ref (s.heap.push (tupIt t)).objs.size))) { s with heap := (s.heap.push (tupIt t)).push (enumOf s.heap.objs.size) }) := .of_wp fun prog w A R s z => by
  obtain ⟨at_t, z⟩ := z
  obtain ⟨hp, gs, dr, tk1, os1⟩ := s
  have sub := sub_enumerate
  obtain ⟨o, ho, _⟩ := id at_t
  wp_walk using wpAny_loadPart' ho
  refine wpAny_stack_any fun _ => (wpAny_pure ?_)
  split
  · rename_i c _ _ _ _ _
    cases (c == Value.type "enumerate") <;> (wp_walk using wpAny_loadPart' ho, wpAny_pyIter_tuple at_t; exact ⟨_, rfl, z⟩)
  · wp_walk using wpAny_loadPart' ho, wpAny_pyIter_tuple at_t
    exact ⟨_, rfl, z⟩
theorem call_enumT {prog : Program} {w : World} {A : Around} {E : Value → Shared → Prop} {s : Shared} {t : Addr} {items : Array Value} {Q : Value → Shared → Prop} (at_t : s.heap.IsTuple t items)
    (z : ∀ h', IsEnum h' (s.heap.objs.size + 1) s.heap.objs.size 0 .none → h'.IsTupleIter s.heap.objs.size t 0 → (∀ b o, s.heap.get? b = some o → h'.get? b = some o) → Q (.ref (s.heap.objs.size + 1)) { s with heap := h' }) :
    wpAny (model prog w) A (call (.type "enumerate") [.ref t]) Q E s := by
  refine callType_new PySem.F.called_enumerate (by decide) (PySem.F.typeCall_enumerate_1 _) (PySem.F.newCall_enumerate_1 _) (fun obj => PySem.F.args_object_init_2 obj _) PySem.F.entry_enumerate_new (meets_enumT t items) ⟨at_t, ?_⟩
  have size1 : (s.heap.push (tupIt t)).objs.size = s.heap.objs.size + 1 := Heap.size_push ..
  show _ ∧ _
  rw [size1]
  have en : IsEnum ((s.heap.push (tupIt t)).push (enumOf s.heap.objs.size)) (s.heap.objs.size + 1) s.heap.objs.size 0 .none := by
    have y := Heap.get?_push_size (s.heap.push (tupIt t)) (o := enumOf s.heap.objs.size) rfl
    rw [size1] at y
    exact y
  exact ⟨⟨_, en, rfl⟩, z _ en ⟨_, Heap.get?_push_of_some _ (Heap.get?_push_size _ rfl), rfl, rfl⟩ fun b o x => Heap.get?_push_of_some _ (Heap.get?_push_of_some _ x)⟩
end
section
open PyProof.Rows hiding St
def Itet (a : Addr) (xs : List V) : It := ⟨fun i H => i < xs.length ∧ H a = some (.tup xs), fun i H v H' => ∃ T x, v = .ref T ∧ H T = none ∧ H' = upd H T (.tup [.int (i : Nat), x]) ∧ xs[i]? = some x, fun i H => i = xs.length ∧ H a = some (.tup xs)⟩
theorem walk_enumTup {a : Addr} {xs : List V} : Walk (Itet a xs) xs.length (fun H => H a = some (.tup xs)) (YPair (fun i => some (.int (i : Nat))) (fun i => xs[i]?)) :=
  ⟨fun _ _ hi h => ⟨hi, h⟩, fun _ h => ⟨rfl, h⟩, fun i H v H' _ _ ⟨T, x, h1, h2, h3, h4⟩ => ⟨T, .int (i : Nat), x, h1, h2, h3, rfl, h4⟩⟩
theorem turn_enumTup {P : Program} {w : World} {K : PySem.W.Frag} {elts : List Expr} {kk : Nat} {tpos : Pos} {a e it : Addr} {xs : List V} :
    Turn P w K (.Tuple elts kk tpos) (Itet a xs) [e, it] e (fun i h => (∃ old, IsEnum h e it ((i : Nat) : Int) old) ∧ h.IsTupleIter it a i ∧ e ≠ it) where
  mem := List.mem_cons_self
  obj := fun i h st b hb => by
    obtain ⟨⟨old, en⟩, ⟨o, ho, _, dat⟩, _⟩ := st
    rcases List.mem_cons.mp hb with z | z
    · exact ⟨_, z ▸ en, fun v q => by cases q⟩
    · obtain rfl := List.mem_singleton.mp z
      exact ⟨o, ho, fun v q => by rw [dat] at q; cases q⟩
  keep := fun i h h' st k => by
    obtain ⟨⟨old, en⟩, ti, ne⟩ := st
    exact ⟨⟨old, k e List.mem_cons_self _ en⟩, ti.at fun o q => k it (List.mem_cons_of_mem _ List.mem_cons_self) o q, ne⟩
  item := by
    intro X hP hw hK calm i pins s σ H E I fp st go
    subst hP hw hK
    obtain ⟨⟨old, en⟩, ti, ne⟩ := st
    obtain ⟨lt, at_a⟩ := go
    obtain ⟨its, rv, p, _⟩ := I.tuple (SqT.of (K := X.K) at_a)
    have p : s.heap.IsTuple a its.toArray := p
    have len := rv.length
    have lte : e < s.heap.objs.size := Heap.lt_size en
    have lti : it < s.heap.objs.size := by
      obtain ⟨_, q, _⟩ := ti
      exact Heap.lt_size q
    have nea : a ≠ e := ne_of_none at_a (fp e List.mem_cons_self).1
    have nia : a ≠ it := ne_of_none at_a (fp it (List.mem_cons_of_mem _ List.mem_cons_self)).1
    have ef : e ∉ [it, a] := fun m => by
      rcases List.mem_cons.mp m with z | z
      · exact ne z
      · exact nea (List.mem_singleton.mp z).symm
    refine wpAny_pyNext_enum_itemD (Draws.tuple (A := X.A.in1) (I.ok.hd calm) it a nia its.toArray) en ⟨ti, p⟩ (by simpa [← len] using lt) ne ef fun x h' tk px out st' atT sz kk => ?_
    refine ⟨_, rfl, wpAny_letOwnedTupleGo_enum (s := { s with heap := h', toks := tk + 1 }) out fun h2 en2 but => ?_⟩
    have atT2 : h2.get? s.heap.objs.size = some { cls := .type "tuple", data := .seq #[.int i tk, x] } := (but.2 _ (Nat.ne_of_gt lte)).trans atT
    obtain ⟨y, ey⟩ : ∃ y, xs[i]? = some y := ⟨xs[i], List.getElem?_eq_getElem lt⟩
    obtain ⟨u, hu, ru⟩ := rv.get ey
    have eux : x = u := by
      have q : its.toArray[i]? = some x := px
      rw [List.getElem?_toArray, hu] at q
      exact (Option.some.inj q).symm
    subst eux
    have new : ObjOk X.prog X.w (upd H s.heap.objs.size (.tup [.int (i : Nat), y])) h2 s.heap.objs.size (.tup [.int (i : Nat), y]) := ⟨by show 2 ≤ sizeLine; decide, [.int i tk, x], .cons ⟨_, rfl⟩ (.cons ru .nil), ⟨_, atT2, rfl, _, rfl⟩⟩
    have apart : ∀ b, b ∉ [e, it] → b ≠ e ∧ b ≠ it := fun b hb => ⟨fun z => hb (by simp [z]), fun z => hb (by simp [z])⟩
    have I1 : Inv X pins σ (upd H s.heap.objs.size (.tup [.int (i : Nat), y])) { s with heap := h2, toks := tk + 1 } :=
      I.turnedNew (ch := [e, it]) (fun b ob hb q => (but.2 b (apart b hb).1).trans (kk b ob (apart b hb).1 (apart b hb).2 q)) fp (Nat.le_refl _) new
    have e1 : ((i + 1 : Nat) : Int) = (i : Int) + 1 := by omega
    refine ⟨.ref s.heap.objs.size, _, I1, rfl, ⟨_, y, rfl, I.hok.fresh (Nat.le_refl _), rfl, ey⟩, ⟨⟨x, by rw [e1]; exact en2⟩, st'.1.at fun o q => (but.2 it (Ne.symm ne)).trans q, ne⟩, fun b hb => ?_⟩
    rw [upd_ne (Nat.ne_of_lt (by
      rcases List.mem_cons.mp hb with z | z
      · rw [z]; exact lte
      · rw [List.mem_singleton.mp z]; exact lti))]
    exact (fp b hb).1
  done := by
    intro X hP hw hK calm i pins s σ H E I fp st stop
    subst hP hw hK
    obtain ⟨⟨old, en⟩, ti, ne⟩ := st
    obtain ⟨rfl, at_a⟩ := stop
    obtain ⟨its, rv, p, _⟩ := I.tuple (SqT.of (K := X.K) at_a)
    have p : s.heap.IsTuple a its.toArray := p
    have len := rv.length
    have nia : a ≠ it := ne_of_none at_a (fp it (List.mem_cons_of_mem _ List.mem_cons_self)).1
    obtain ⟨f0, f1, f2, f3, f4, f5⟩ := fp it (List.mem_cons_of_mem _ List.mem_cons_self)
    exact wpAny_pyNext_enum_endD (Draws.tuple (A := X.A.in1) (I.ok.hd calm) it a nia its.toArray) en (by
      refine ⟨?_, p⟩
      rw [List.size_toArray, ← len]
      exact ti) fun h' eb => ⟨rfl, I.turned (t' := s.toks) (fun b o hb q => eb b o hb q) f0 f1 f3 f4 f5⟩
  self := fun A i s Q E st h => by
    obtain ⟨⟨_, en⟩, _⟩ := st
    exact wpAny_pyIter_enum en h
variable {X : Cx}
/-- enumerate of a tracked list or tuple -/
def iEnumS (ta : TA) : TI := fun σ H R => ta σ H fun vs H1 => ∃ (a : Addr) (xs : List V) (o : HO), vs = [.ref a] ∧ (o = .lst xs ∨ o = .tup xs) ∧ H1 a = some o ∧
  ∀ J, Walk J xs.length (fun H => H a = some o) (YPair (fun i => some (.int (i : Nat))) (fun i => xs[i]?)) → R J H1
theorem pi_enumS {e : Expr} {ta : TA} {p pos tpos : Pos} {elts : List Expr} {kk : Nat} (hg : Gl X "enumerate") (hm : X.mg "enumerate" = none) (ha : PA X [e] ta) (hs : starEach [e] X.env = [(false, eval e X.env)] := by rfl) :
    PI X (.Tuple elts kk tpos) (.Call (.Name "enumerate" p) [e] [] pos) (iEnumS ta) := by
  refine ⟨fun pins s σ H R I w => Call_ (ld_blt I hg hm boot_enumerate (PyProof.Rows.callWith_type1 (thn (ha.run pos pins s σ H _ I w) fun us s1 hz => ?_) hs rfl))⟩
  obtain ⟨vs, H1, I1, r1, a, xs, o, rfl, ho, at_a, q⟩ := hz
  obtain ⟨u, rfl, ru⟩ := vals1 r1
  obtain rfl : u = Value.ref a := ru
  have fresh : ∀ b, b ∈ [s1.heap.objs.size + 1, s1.heap.objs.size] → FpOk X pins H1 b := fun b hb => by
    have le : s1.heap.objs.size ≤ b := by
      rcases List.mem_cons.mp hb with z | z
      · rw [z]; exact Nat.le_succ _
      · rw [List.mem_singleton.mp z]; exact Nat.le_refl _
    exact I1.fpOk le (I1.hok.fresh le)
  rcases ho with rfl | rfl
  · obtain ⟨its, rv, p', _⟩ := I1.list (SqL.of (K := X.K) at_a)
    exact call_enumerate_list p'.isList fun h' en ti _ k => wpAny_pyIter_enum en ⟨s1.heap.objs.size + 1, [s1.heap.objs.size + 1, s1.heap.objs.size], _, _, H1, rfl, I1.kept (t' := s1.toks) k, turn_enum a _ _, ⟨⟨.none, en⟩, ti, Nat.succ_ne_self _⟩, fresh, q _ (walk_enum.mono (fun H z => SqL.of z) fun _ _ _ _ _ _ y => y)⟩
  · obtain ⟨its, rv, p', _⟩ := I1.tuple (SqT.of (K := X.K) at_a)
    have p' : s1.heap.IsTuple a its.toArray := p'
    exact call_enumT p' fun h' en ti k => wpAny_pyIter_enum en ⟨s1.heap.objs.size + 1, [s1.heap.objs.size + 1, s1.heap.objs.size], _, _, H1, rfl, I1.kept (t' := s1.toks) k, turn_enumTup (a := a) (xs := xs), ⟨⟨.none, en⟩, ti, Nat.succ_ne_self _⟩, fresh, q _ walk_enumTup⟩
end
structure TxtL (mg : Str → Option Value) : Prop where
  isinstance : mg "isinstance" = none
  int : mg "int" = none
  bool : mg "bool" = none
  str : mg "str" = none
  abs : mg "abs" = none
  len : mg "len" = none
  list : mg "list" = none
  tuple : mg "tuple" = none
  range : mg "range" = none
  enumerate : mg "enumerate" = none
  all : mg "all" = none
  max : mg "max" = none
  min : mg "min" = none
  repr : mg "repr" = none
abbrev Txt (K : PySem.W.Frag) (mg : Str → Option Value) (aR : Addr) : Prop := TxtL mg
section
variable {P : Program} {w : World} {K : PySem.W.Frag} {mg : Str → Option Value} {base : Heap} {aR : Addr}
abbrev s__law_pool : Stmt := top 51
theorem sc__law_pool : FnScope ["_law_script", "_law_k", "_law_cell", "_law_seed"] ["_law_script", "_law_k"] (defScope s__law_pool) := ⟨rfl, rfl, rfl, by decide +kernel, rfl, by decide +kernel, by decide +kernel⟩
def spPool (K : PySem.W.Frag) : Sp := fun vs H Q _ => ∃ (a : Addr) (ns : List Int) (k : Nat), vs = [.ref a, .int k] ∧ SqL K H a (ns.map V.int) ∧ k < 64 ∧ ∀ pp H', Same H H' → H pp = none → PoolAt H' pp → Q (.ref pp) H'
theorem seed_ok (c : Int) (k : Nat) (hk : k < 64) : Sm (7919 * (k : Int)) ∧ (c.fmod 2147483629 + 7919 * (k : Int) * (k : Int) + 31).natAbs < 2 ^ 64 := by
  have h1 := Int.fmod_nonneg_of_pos c (show (0 : Int) < 2147483629 by decide)
  have h2 := Int.fmod_lt_of_pos c (show (0 : Int) < 2147483629 by decide)
  have h3 : 0 ≤ 7919 * (k : Int) * (k : Int) := Int.mul_nonneg (by omega) (by omega)
  have h4 : 7919 * (k : Int) * (k : Int) ≤ 7919 * (k : Int) * 64 := Int.mul_le_mul_of_nonneg_left (by omega) (by omega)
  exact ⟨⟨by omega, by omega⟩, by omega⟩
theorem ok__law_pool (h : Has K mg "_law_pool" s__law_pool ["_law_script", "_law_k"]) (T : Txt K mg aR) : Ok P w K mg base 1 "_law_pool" ["_law_script", "_law_k"] (spPool K) := by
  obtain ⟨f, fd, g, b, F⟩ := h
  refine ⟨f, fd, g, F.kp, b, F.ok sc__law_pool (fun vs H Q E h => ?_) (fun cdv A outer s H vs Q E hr h => ?_)⟩
  · obtain ⟨a, ns, k, rfl, _⟩ := h
    rfl
  · obtain ⟨a, ns, k, rfl, hS, hk, q⟩ := h
    have z0 : ∀ c : Int, 0 ≤ ((c.fmod 2147483629 + 7919 * (k : Int) * (k : Int) + 31) ^ (3 : Int).toNat).fmod 2147483647 := fun c => Int.fmod_nonneg_of_pos _ (by decide)
    have z1 : ∀ c : Int, ((c.fmod 2147483629 + 7919 * (k : Int) * (k : Int) + 31) ^ (3 : Int).toNat).fmod 2147483647 < 2147483647 := fun c => Int.fmod_lt_of_pos _ (by decide)
    refine ⟨_, (pss_cons (ps_set (i := 2) sc__law_pool.nd rfl (Or.inl rfl) pe_int)
    (pss_cons (ps_if (pt_cmpR op_lt (pv 1) (pe_callB call_len_seq (by rfl) T.len (by decide +kernel) (pa_cons (pv 0) pa_nil)) (nomark _))
      (pss_one (ps_set (i := 2) sc__law_pool.nd rfl (Or.inl rfl) (pe_ix ix_list (pv 0) (pv 1) (fun _ _ => rfl))))
      pss_nil)
    (pss_cons (ps_set (i := 3) sc__law_pool.nd rfl (Or.inl rfl) (pe_op op_modN (pe_op op_pow (pe_op op_add (pe_op op_add (pe_op op_modN (pe_callTy call_int1 (by rfl) T.int (by decide +kernel) (pa_cons (pv 2) pa_nil)) pe_int) (pe_op op_mulS (pe_op op_mulS pe_int (pv 1)) (pv 1))) pe_int) pe_int) pe_int))
    (pss_cons (ps_if (pt_cmpR op_lt (pv 2) (pe_op op_pow pe_int pe_int) (nomark _))
      (pss_one (ps_set (i := 2) sc__law_pool.nd rfl (Or.inl rfl) pe_int))
      pss_nil)
    (pss_one (ps_ret (pe_lst (pa_cons (pv 2) (pa_cons (pv 3) pa_nil))))))))), ?_⟩
    refine ⟨_, rfl, _, rfl, _, _, rfl, .inl hS, _, _, rfl, rfl, _, rfl, ?_⟩
    refine ite2 (fun c1 => ?_) (fun c1 => ?_)
    · have hlt : k < ns.length := by
        have := of_decide_eq_true c1
        rw [List.length_map] at this
        omega
      refine ⟨_, rfl, _, rfl, a, _, _, .int ns[k], rfl, rfl, hS, atI_nat (by rw [List.getElem?_map, List.getElem?_eq_getElem hlt]; rfl), ?_⟩
      obtain ⟨k1, k2⟩ := seed_ok ns[k] k hk
      refine ⟨_, rfl, .inl ⟨_, rfl, _, _, rfl, rfl, n29, _, rfl, _, _, rfl, rfl, ⟨⟨by decide, by decide⟩, ⟨by omega, by omega⟩⟩, _, rfl, _, _, rfl, rfl, ⟨k1, ⟨by omega, by omega⟩⟩, _, _, rfl, rfl, _, _, rfl, rfl, _, _, rfl, rfl, ⟨by decide, by decide, k2⟩, _, _, rfl, rfl, n47, ?_⟩⟩
      refine ⟨_, rfl, _, _, rfl, rfl, ⟨by decide, by decide, by decide⟩, _, _, rfl, rfl, _, rfl, ?_⟩
      refine ite2 (fun c2 => ?_) (fun c2 => ?_)
      · refine ⟨_, rfl, _, rfl, (by show 2 ≤ sizeLine; decide), fun p hp => ?_⟩
        exact q p _ (Same.new hp) hp ⟨_, _, z0 ns[k], z1 ns[k], upd_same⟩
      · refine ⟨_, rfl, _, rfl, (by show 2 ≤ sizeLine; decide), fun p hp => ?_⟩
        exact q p _ (Same.new hp) hp ⟨_, _, z0 ns[k], z1 ns[k], upd_same⟩
    · obtain ⟨k1, k2⟩ := seed_ok 0 k hk
      refine ⟨_, rfl, .inl ⟨_, rfl, _, _, rfl, rfl, n29, _, rfl, _, _, rfl, rfl, ⟨⟨by decide, by decide⟩, ⟨by omega, by omega⟩⟩, _, rfl, _, _, rfl, rfl, ⟨k1, ⟨by omega, by omega⟩⟩, _, _, rfl, rfl, _, _, rfl, rfl, _, _, rfl, rfl, ⟨by decide, by decide, k2⟩, _, _, rfl, rfl, n47, ?_⟩⟩
      refine ⟨_, rfl, _, _, rfl, rfl, ⟨by decide, by decide, by decide⟩, _, _, rfl, rfl, _, rfl, ?_⟩
      refine ite2 (fun c2 => ?_) (fun c2 => ?_)
      · refine ⟨_, rfl, _, rfl, (by show 2 ≤ sizeLine; decide), fun p hp => ?_⟩
        exact q p _ (Same.new hp) hp ⟨_, _, z0 0, z1 0, upd_same⟩
      · refine ⟨_, rfl, _, rfl, (by show 2 ≤ sizeLine; decide), fun p hp => ?_⟩
        exact q p _ (Same.new hp) hp ⟨_, _, z0 0, z1 0, upd_same⟩
abbrev s__law_draw : Stmt := top 52
theorem sc__law_draw : FnScope ["_law_pool_here", "_law_many", "_law_digit"] ["_law_pool_here", "_law_many"] (defScope s__law_draw) := ⟨rfl, rfl, rfl, by decide +kernel, rfl, by decide +kernel, by decide +kernel⟩
def spDraw : Sp := fun vs H Q _ => ∃ (pp : Addr) (n : Int), vs = [.ref pp, .int n] ∧ 0 < n ∧ Sm n ∧ PoolAt H pp ∧ ∀ d H', 0 ≤ d → d < n → PoolAt H' pp → Keep pp H H' → Q (.int d) H'
theorem ok__law_draw (h : Has K mg "_law_draw" s__law_draw ["_law_pool_here", "_law_many"]) (T : Txt K mg aR) : Ok P w K mg base 1 "_law_draw" ["_law_pool_here", "_law_many"] spDraw := by
  obtain ⟨f, fd, g, b, F⟩ := h
  refine ⟨f, fd, g, F.kp, b, F.ok sc__law_draw (fun vs H Q E h => ?_) (fun cdv A outer s H vs Q E hr h => ?_)⟩
  · obtain ⟨pp, n, rfl, _⟩ := h
    rfl
  · obtain ⟨pp, n, rfl, hn, sn, ⟨c, z, z0, z1, hp⟩, q⟩ := h
    have hn0 : n ≠ 0 := by omega
    refine ⟨_, (pss_cons (ps_if (pt_cmpR op_gt (pe_ix ix_list (pv 0) pe_int (fun _ _ => rfl)) pe_int (nomark _))
      (pss_cons (ps_set (i := 2) sc__law_draw.nd rfl (Or.inl rfl) (pe_op op_modN (pe_callTy call_int1 (by rfl) T.int (by decide +kernel) (pa_cons (pe_ix ix_list (pv 0) pe_int (fun _ _ => rfl)) pa_nil)) (pv 1)))
      (pss_cons (ps_asg (pe_op op_divS (pe_ix ix_list (pv 0) pe_int (fun _ _ => rfl)) (pv 1)) (pg_sub (pv 0) pe_int set_list))
      (pss_one (ps_ret (pv 2)))))
      pss_nil)
    (pss_cons (ps_asg (pe_op op_modN (pe_callTy call_int1 (by rfl) T.int (by decide +kernel) (pa_cons (pe_op op_add (pe_op op_mulS (pe_ix ix_list (pv 0) pe_int (fun _ _ => rfl)) pe_int) pe_int) pa_nil)) pe_int) (pg_sub (pv 0) pe_int set_list))
    (pss_one (ps_ret (pe_op op_modN (pe_op op_divS (pe_op op_modN (pe_callTy call_int1 (by rfl) T.int (by decide +kernel) (pa_cons (pe_op op_mulS (pe_ix ix_list (pv 0) pe_int (fun _ _ => rfl)) (pe_ix ix_list (pv 0) pe_int (fun _ _ => rfl))) pa_nil)) pe_int) pe_int) (pv 1)))))), ?_⟩
    refine ⟨_, rfl, pp, _, _, _, rfl, rfl, SqL.of hp, atI0, _, _, rfl, rfl, _, rfl, ?_⟩
    refine ite2 (fun c1 => ?_) (fun c1 => ?_)
    · refine ⟨_, rfl, pp, _, _, _, rfl, rfl, SqL.of hp, atI0, .inl ⟨_, rfl, _, rfl, _, _, rfl, rfl, hn0, ?_⟩⟩
      refine ⟨_, rfl, pp, _, _, _, rfl, rfl, SqL.of hp, atI0, _, rfl, _, _, rfl, rfl, ⟨hn0, sn⟩, _, rfl, pp, _, _, 0, rfl, rfl, hp, rfl, ?_⟩
      refine ⟨_, rfl, ?_⟩
      exact q _ _ (Int.fmod_nonneg_of_pos _ hn) (Int.fmod_lt_of_pos _ hn) ⟨_, z, z0, z1, upd_same⟩ fun b o e nb => by
        rw [upd_ne nb]
        exact e
    · have s0 : 0 ≤ (z * 48271 + 11).fmod 2147483647 := Int.fmod_nonneg_of_pos _ (by decide)
      have s1 : (z * 48271 + 11).fmod 2147483647 < 2147483647 := Int.fmod_lt_of_pos _ (by decide)
      refine ⟨_, rfl, pp, _, _, _, rfl, rfl, SqL.of hp, atI1, _, _, rfl, rfl, ⟨⟨by omega, by omega⟩, ⟨by decide, by decide⟩⟩, _, _, rfl, rfl, .inl ⟨_, rfl, _, _, rfl, rfl, n47, _, rfl, pp, _, _, 1, rfl, rfl, hp, rfl, ?_⟩⟩
      have e2 : (upd H pp (.lst ([V.int c, V.int z].set 1 (.int ((z * 48271 + 11).fmod 2147483647))))) pp = some (.lst [V.int c, V.int ((z * 48271 + 11).fmod 2147483647)]) := upd_same
      refine ⟨_, rfl, pp, _, _, _, rfl, rfl, SqL.of e2, atI1, _, rfl, pp, _, _, _, rfl, rfl, SqL.of e2, atI1, _, _, rfl, rfl, ⟨⟨by omega, by omega⟩, ⟨by omega, by omega⟩⟩, .inl ⟨_, rfl, _, _, rfl, rfl, n29, _, _, rfl, rfl, ⟨by decide, ⟨by decide, by decide⟩⟩, _, rfl, _, _, rfl, rfl, hn0, ?_⟩⟩
      exact q _ _ (Int.fmod_nonneg_of_pos _ hn) (Int.fmod_lt_of_pos _ hn) ⟨_, _, s0, s1, e2⟩ fun b o e nb => by
        rw [upd_ne nb]
        exact e
abbrev s__law_choose : Stmt := top 53
theorem sc__law_choose : FnScope ["_law_pool_here", "_law_items"] ["_law_pool_here", "_law_items"] (defScope s__law_choose) := ⟨rfl, rfl, rfl, by decide +kernel, rfl, by decide +kernel, by decide +kernel⟩
def spChoose (K : PySem.W.Frag) : Sp := fun vs H Q _ => ∃ (pp l : Addr) (xs : List V), vs = [.ref pp, .ref l] ∧ SqL K H l xs ∧ l ≠ pp ∧ 0 < xs.length ∧ xs.length < 1000000 ∧ PoolAt H pp ∧ ∀ v H', v ∈ xs → PoolAt H' pp → Keep pp H H' → Q v H'
theorem ok__law_choose (h : Has K mg "_law_choose" s__law_choose ["_law_pool_here", "_law_items"]) (T : Txt K mg aR) (O__law_draw : Ok P w K mg base 1 "_law_draw" ["_law_pool_here", "_law_many"] spDraw) : Ok P w K mg base 2 "_law_choose" ["_law_pool_here", "_law_items"] (spChoose K) := by
  obtain ⟨f, fd, g, b, F⟩ := h
  refine ⟨f, fd, g, F.kp, b, F.ok sc__law_choose (fun vs H Q E h => ?_) (fun cdv A outer s H vs Q E hr h => ?_)⟩
  · obtain ⟨pp, l, xs, rfl, _⟩ := h
    rfl
  · obtain ⟨pp, l, xs, rfl, hS, hne, hl0, hl1, hP, q⟩ := h
    refine ⟨_, (pss_one (ps_ret (pe_ix ix_list (pv 1) (pe_cO O__law_draw (hr.mono (by decide)) pass0 rfl (pa_cons (pv 0) (pa_cons (pe_callB call_len_seq (by rfl) T.len (by decide +kernel) (pa_cons (pv 1) pa_nil)) pa_nil))) (fun _ _ => rfl)))), ?_⟩
    refine ⟨_, rfl, _, rfl, _, rfl, l, xs, rfl, .inl hS, pp, _, rfl, by omega, ⟨by omega, by omega⟩, hP, fun d H' d0 d1 P' k' => ?_⟩
    have hj : d.toNat < xs.length := by omega
    refine ⟨l, xs, d, xs[d.toNat], rfl, rfl, k'.seq hne hS, ?_, q _ H' (List.getElem_mem hj) P' k'⟩
    exact at_of (j := d.toNat) (by omega) (List.getElem?_eq_getElem hj)
end
/-! ### the checks of programs: what they answer of any data -/
def five : List Str := ["down", "up", "zero", "positive", "near"]
def abc : Str := "abcdefghijklmnopqrstuvwxyz"
/-- what the text's top has of the checks' constants -/
structure PTx (K : PySem.W.Frag) (mg : Str → Option Value) (aR : Addr) : Prop where
  T : TxtL mg
  gRULES : mg "RULES" = some (.ref aR)
  tRULES : ∀ H, SqT K H aR (five.map V.str)
  large : ∃ t, mg "LARGEST" = some (.int 1000000 t)
  letters : ∃ t, mg "LETTERS" = some (.str abc t)
/-- data of bounded size, n deep -/
def Sz : Nat → PyData → Prop
  | 0, d => (itemsD d).length ≤ 1000 ∧ ∀ s, d = .str s → s.length ≤ 1000
  | n + 1, d => (itemsD d).length ≤ 1000 ∧ (∀ s, d = .str s → s.length ≤ 1000) ∧ ∀ x ∈ itemsD d, Sz n x
def betw (d : PyData) (lo hi : Int) : Bool := match d with | .int i => decide (lo ≤ i) && decide (i ≤ hi) | _ => false
def ruleD (d : PyData) : Bool := match d with | .str s => inV (.str s) (five.map V.str) | _ => false
def baseD (d : PyData) : Bool := match d with | .int i => betw d (-10) 10 && decide (2 ≤ i.natAbs) | _ => false
def remD (d : PyData) (n : Int) : Bool := betw d (1 - n) (n - 1)
def inAbc (c : Nat) : Bool := !(Builtin.Str.occurrences abc ⟨#[c]⟩ 0 abc.length 1).isEmpty
def nameD (d : PyData) : Bool := match d with | .str s => decide (1 ≤ s.length) && (decide (s.length ≤ 8) && s.cps.toList.all inAbc) | _ => false
def isTup (d : PyData) : Bool := tyD d == "tuple"
def listD (d : PyData) (lo hi : Int) : Bool := isSeq d && (decide (lo ≤ ((itemsD d).length : Int)) && decide (((itemsD d).length : Int) ≤ hi))
def factD (d : PyData) (n : Int) : Bool := isTup d && (decide (((itemsD d).length : Int) = n) && (itemsD d).all fun x => betw x (-1000000) 1000000)
section
variable {P : Program} {w : World} {K : PySem.W.Frag} {mg : Str → Option Value} {base : Heap} {aR : Addr}
def spIsInt : Sp := fun vs H Q _ => ∃ v d, vs = [v] ∧ Dt Z0 H v d ∧ Q (.bl (isInt d)) H
abbrev s_is_integer : Stmt := top 17
abbrev N_is_integer : List Str := ["value"]
theorem sc_is_integer : FnScope N_is_integer ["value"] (defScope s_is_integer) := ⟨rfl, rfl, rfl, by decide +kernel, rfl, by decide +kernel, by decide +kernel⟩
theorem ok_is_integer (h : Has K mg "is_integer" s_is_integer ["value"]) (PT : PTx K mg aR) : Ok P w K mg base 1 "is_integer" ["value"] spIsInt := by
  obtain ⟨f, fd, g, b, F⟩ := h
  have T := PT.T
  refine ⟨f, fd, g, F.kp, b, F.ok sc_is_integer (fun vs H Q E h => ?_) (fun cdv A outer s H vs Q E hr h => ?_)⟩
  · obtain ⟨v, d, rfl, _⟩ := h
    rfl
  · obtain ⟨v, d, rfl, h1, q⟩ := h
    refine ⟨_, (pss_one (ps_ret (pe_and (pe_callB call_isi (by rfl) T.isinstance bb_isinstance (pa_cons (pv 0) (pa_cons (pe_bltn (v := .ty "int") (by rfl) T.int bb_int rfl) pa_nil))) (pe_one (pe_not (pe_callB call_isi (by rfl) T.isinstance bb_isinstance (pa_cons (pv 0) (pa_cons (pe_bltn (v := .ty "bool") (by rfl) T.bool bb_bool rfl) pa_nil)))))))), ?_⟩
    refine ⟨_, rfl, _, _, _, _, _, rfl, .ty _, h1.ty, h1.kInt, _, rfl, ?_⟩
    cases e : isInt d || (tyD d == "bool") with
    | false =>
      refine iteF ?_
      rw [show isInt d = false from (Bool.or_eq_false_iff.mp e).1] at q
      exact q
    | true =>
      refine iteT ?_
      refine ⟨_, rfl, _, _, _, _, _, rfl, .ty _, h1.ty, h1.kBool, _, rfl, ?_⟩
      rw [show (!(tyD d == "bool")) = isInt d by cases h1 <;> first | rfl | (simp [tyD, isInt] at e; done)]
      exact q
def spBetw : Sp := fun vs H Q _ => ∃ v d lo hi, vs = [v, .int lo, .int hi] ∧ Dt Z0 H v d ∧ Q (.bl (betw d lo hi)) H
abbrev s_is_between : Stmt := top 18
abbrev N_is_between : List Str := ["value", "low", "high"]
theorem sc_is_between : FnScope N_is_between ["value", "low", "high"] (defScope s_is_between) := ⟨rfl, rfl, rfl, by decide +kernel, rfl, by decide +kernel, by decide +kernel⟩
theorem ok_is_between (h : Has K mg "is_between" s_is_between ["value", "low", "high"]) (O_is_integer : Ok P w K mg base 1 "is_integer" ["value"] spIsInt) : Ok P w K mg base 2 "is_between" ["value", "low", "high"] spBetw := by
  obtain ⟨f, fd, g, b, F⟩ := h
  refine ⟨f, fd, g, F.kp, b, F.ok sc_is_between (fun vs H Q E h => ?_) (fun cdv A outer s H vs Q E hr h => ?_)⟩
  · obtain ⟨v, d, lo, hi, rfl, _⟩ := h
    rfl
  · obtain ⟨v, d, lo, hi, rfl, h1, q⟩ := h
    refine ⟨_, (pss_one (ps_ret (pe_and (pe_cO O_is_integer (hr.mono (by decide)) pass0 rfl (pa_cons (pv 0) pa_nil)) (pe_one (pe_chain op_le op_le (pv 1) (pv 0) (pv 2)))))), ?_⟩
    refine ⟨_, rfl, v, d, rfl, h1, _, rfl, ?_⟩
    cases h1 with
    | int i =>
      refine iteT ?_
      refine ⟨_, rfl, _, rfl, _, _, rfl, rfl, _, rfl, ?_⟩
      by_cases e : lo ≤ i
      · refine iteP (decide_eq_true e) ?_
        refine ⟨_, rfl, _, _, rfl, rfl, ?_⟩
        rw [show betw (.int i) lo hi = decide (i ≤ hi) by show (decide _ && decide _) = _; rw [decide_eq_true e, Bool.true_and]] at q
        exact q
      · refine iteN (by rw [decide_eq_false e]; decide) ?_
        rw [show betw (.int i) lo hi = false by show (decide _ && decide _) = _; rw [decide_eq_false e, Bool.false_and]] at q
        exact q
    | _ => exact iteF q
def spRuleD : Sp := fun vs H Q _ => ∃ v d, vs = [v] ∧ Dt Z0 H v d ∧ Q (.bl (ruleD d)) H
abbrev s_is_rule : Stmt := top 19
abbrev N_is_rule : List Str := ["value"]
theorem sc_is_rule : FnScope N_is_rule ["value"] (defScope s_is_rule) := ⟨rfl, rfl, rfl, by decide +kernel, rfl, by decide +kernel, by decide +kernel⟩
theorem ok_is_rule (h : Has K mg "is_rule" s_is_rule ["value"]) (PT : PTx K mg aR) : Ok P w K mg base 1 "is_rule" ["value"] spRuleD := by
  obtain ⟨f, fd, g, b, F⟩ := h
  have T := PT.T
  refine ⟨f, fd, g, F.kp, b, F.ok sc_is_rule (fun vs H Q E h => ?_) (fun cdv A outer s H vs Q E hr h => ?_)⟩
  · obtain ⟨v, d, rfl, _⟩ := h
    rfl
  · obtain ⟨v, d, rfl, h1, q⟩ := h
    refine ⟨_, (pss_one (ps_ret (pe_and (pe_callB call_isi (by rfl) T.isinstance bb_isinstance (pa_cons (pv 0) (pa_cons (pe_bltn (v := .ty "str") (by rfl) T.str bb_str rfl) pa_nil))) (pe_one (pe_cmpR op_in_seq (pv 0) (pe_glob (v := .ref aR) (by rfl) PT.gRULES rfl) (by rfl)))))), ?_⟩
    refine ⟨_, rfl, _, _, _, _, _, rfl, .ty _, h1.ty, h1.kStr, _, rfl, ?_⟩
    cases h1 with
    | str x =>
      refine iteT ?_
      exact ⟨_, rfl, _, _, rfl, .inr (PT.tRULES _), rfl, rfl, q⟩
    | _ => exact iteF q
def spBaseD : Sp := fun vs H Q _ => ∃ v d, vs = [v] ∧ Dt Z0 H v d ∧ Q (.bl (baseD d)) H
abbrev s_is_base : Stmt := top 20
abbrev N_is_base : List Str := ["value"]
theorem sc_is_base : FnScope N_is_base ["value"] (defScope s_is_base) := ⟨rfl, rfl, rfl, by decide +kernel, rfl, by decide +kernel, by decide +kernel⟩
theorem ok_is_base (h : Has K mg "is_base" s_is_base ["value"]) (PT : PTx K mg aR) (O_is_between : Ok P w K mg base 2 "is_between" ["value", "low", "high"] spBetw) : Ok P w K mg base 3 "is_base" ["value"] spBaseD := by
  obtain ⟨f, fd, g, b, F⟩ := h
  have T := PT.T
  refine ⟨f, fd, g, F.kp, b, F.ok sc_is_base (fun vs H Q E h => ?_) (fun cdv A outer s H vs Q E hr h => ?_)⟩
  · obtain ⟨v, d, rfl, _⟩ := h
    rfl
  · obtain ⟨v, d, rfl, h1, q⟩ := h
    refine ⟨_, (pss_one (ps_ret (pe_and (pe_cO O_is_between (hr.mono (by decide)) pass0 rfl (pa_cons (pv 0) (pa_cons (pe_un un_neg pe_int) (pa_cons pe_int pa_nil)))) (pe_one (pe_cmpR op_ge (pe_callB call_abs (by rfl) T.abs bb_abs (pa_cons (pv 0) pa_nil)) pe_int (nomark _)))))), ?_⟩
    refine ⟨_, rfl, _, rfl, v, d, _, _, rfl, h1, _, rfl, ?_⟩
    cases e : betw d (-10) 10 with
    | false =>
      refine iteF ?_
      rw [show baseD d = false by cases d <;> first | rfl | (show (betw _ _ _ && _) = false; rw [e]; rfl)] at q
      exact q
    | true =>
      refine iteT ?_
      cases h1 with
      | int i =>
        refine ⟨_, rfl, _, rfl, _, _, rfl, rfl, ?_⟩
        rw [show baseD (.int i) = decide ((2 : Int) ≤ (if i < 0 then -i else i)) by
          show (betw _ _ _ && decide (2 ≤ i.natAbs)) = _
          rw [e, Bool.true_and]
          exact decide_eq_decide.mpr (by split <;> omega)] at q
        exact q
      | _ => cases e
def spRemD : Sp := fun vs H Q _ => ∃ v d n, vs = [v, .int n] ∧ Dt Z0 H v d ∧ Q (.bl (remD d n)) H
abbrev s_is_remainder : Stmt := top 21
abbrev N_is_remainder : List Str := ["value", "size"]
theorem sc_is_remainder : FnScope N_is_remainder ["value", "size"] (defScope s_is_remainder) := ⟨rfl, rfl, rfl, by decide +kernel, rfl, by decide +kernel, by decide +kernel⟩
theorem ok_is_remainder (h : Has K mg "is_remainder" s_is_remainder ["value", "size"]) (O_is_between : Ok P w K mg base 2 "is_between" ["value", "low", "high"] spBetw) : Ok P w K mg base 3 "is_remainder" ["value", "size"] spRemD := by
  obtain ⟨f, fd, g, b, F⟩ := h
  refine ⟨f, fd, g, F.kp, b, F.ok sc_is_remainder (fun vs H Q E h => ?_) (fun cdv A outer s H vs Q E hr h => ?_)⟩
  · obtain ⟨v, d, n, rfl, _⟩ := h
    rfl
  · obtain ⟨v, d, n, rfl, h1, q⟩ := h
    refine ⟨_, (pss_one (ps_ret (pe_cO O_is_between (hr.mono (by decide)) pass0 rfl (pa_cons (pv 0) (pa_cons (pe_op op_sub pe_int (pv 1)) (pa_cons (pe_op op_sub (pv 1) pe_int) pa_nil)))))), ?_⟩
    exact ⟨_, rfl, _, rfl, _, _, rfl, rfl, _, rfl, _, _, rfl, rfl, v, d, _, _, rfl, h1, q⟩
def spNameD : Sp := fun vs H Q _ => ∃ v d, vs = [v] ∧ Dt Z0 H v d ∧ Sz 0 d ∧ ∀ H', Same H H' → Q (.bl (nameD d)) H'
abbrev s_is_name : Stmt := top 22
abbrev N_is_name : List Str := ["value", "letter"]
theorem sc_is_name : FnScope N_is_name ["value"] (defScope s_is_name) := ⟨rfl, rfl, rfl, by decide +kernel, rfl, by decide +kernel, by decide +kernel⟩
theorem ok_is_name (h : Has K mg "is_name" s_is_name ["value"]) (PT : PTx K mg aR) : Ok P w K mg base 1 "is_name" ["value"] spNameD := by
  obtain ⟨f, fd, g, b, F⟩ := h
  have T := PT.T
  obtain ⟨tL, gL⟩ := PT.letters
  refine ⟨f, fd, g, F.kp, b, F.ok sc_is_name (fun vs H Q E h => ?_) (fun cdv A outer s H vs Q E hr h => ?_)⟩
  · obtain ⟨v, d, rfl, _⟩ := h
    rfl
  · obtain ⟨v, d, rfl, h1, sz, q⟩ := h
    refine ⟨_, (pss_cons (ps_if (pt_not (pt_val (pe_callB call_isi (by rfl) T.isinstance bb_isinstance (pa_cons (pv 0) (pa_cons (pe_bltn (v := .ty "str") (by rfl) T.str bb_str rfl) pa_nil)))))
        (pss_one (ps_ret pe_bl))
        pss_nil)
      (pss_one (ps_ret (pe_and (pe_chain op_le op_le pe_int (pe_callB call_len_str (by rfl) T.len bb_len (pa_cons (pv 0) pa_nil)) pe_int) (pe_one (pe_callB (allT rfl) (by rfl) T.all bb_all (pa_cons (pe_lc (own := [("letter", 1)]) (g := (gName 1)) (tt := tYes) rfl sc_is_name.nd (pi_str (pv 0)) (blkOk_by (N := N_is_name) (sc := defScope s_is_name) (by decide +kernel)) (fun _ _ _ _ _ => (pg_name (i := 1) sc_is_name.nd rfl (by first | exact Or.inl rfl | exact Or.inr rfl))) (fun _ _ _ _ _ => pts_nil) (fun _ _ _ _ _ => (pe_cmpR op_in_str (pv 1) (pe_glob (v := .str abc) (by rfl) gL ⟨tL, rfl⟩) (by rfl)))) pa_nil))))))), ?_⟩
    refine ⟨_, rfl, _, _, _, _, _, rfl, .ty _, h1.ty, h1.kStr, _, rfl, ?_⟩
    cases h1 with
    | str x =>
      have few := sz.2 x rfl
      refine iteN (fun h => nomatch h) ?_
      refine ⟨_, rfl, x, rfl, Nat.le_trans few (by decide), _, _, rfl, rfl, _, rfl, ?_⟩
      have e : nameD (.str x) = (decide (1 ≤ x.length) && (decide (x.length ≤ 8) && x.cps.toList.all inAbc)) := rfl
      rw [e] at q
      by_cases c1 : 1 ≤ x.length
      · rw [decide_eq_true c1, Bool.true_and] at q
        refine iteP (decide_eq_true (by omega)) ?_
        by_cases c2 : x.length ≤ 8
        · rw [decide_eq_true c2, Bool.true_and] at q
          refine ⟨_, _, rfl, rfl, _, rfl, iteP (decide_eq_true (by omega)) ?_⟩
          refine ⟨_, rfl, x, rfl, fun D hD => ?_⟩
          refine lc_vals walk_str Z0 (fun _ => True) (x.cps.toList.map fun c => V.bl (inAbc c)) (by simp) hD id True.intro (fun _ _ _ _ => True.intro) (Nat.lt_of_le_of_lt (show x.cps.size ≤ 8 from c2) (by decide)) (fun _ _ => True.intro) ?_ ?_
          · intro i y k H2 H3 Qk ek f _ _ yl z
            obtain ⟨rfl, c, hc, rfl⟩ := yl
            rw [List.getElem?_map, Array.getElem?_toList, hc] at ek
            cases ek
            exact ⟨rfl, _, rfl, _, _, rfl, rfl, z _ Fm.refl True.intro⟩
          · intro H4 f _ hD4
            refine ⟨D, x.cps.toList.map inAbc, rfl, by rw [hD4, List.map_map]; rfl, ?_⟩
            rw [List.all_map]
            exact q H4 f.same
        · rw [decide_eq_false c2, Bool.false_and] at q
          refine ⟨_, _, rfl, rfl, _, rfl, iteN (by rw [decide_eq_false (show ¬ (x.length : Int) ≤ 8 by omega)]; decide) ?_⟩
          exact q _ (Same.refl _)
      · rw [decide_eq_false c1, Bool.false_and] at q
        refine iteN (by rw [decide_eq_false (show ¬ (1 : Int) ≤ (x.length : Int) by omega)]; decide) ?_
        exact ⟨_, rfl, iteF (q _ (Same.refl _))⟩
    | _ => exact iteP rfl (q _ (Same.refl _))
def spListD : Sp := fun vs H Q _ => ∃ v d lo hi, vs = [v, .int lo, .int hi] ∧ Dt Z0 H v d ∧ ∀ H', Same H H' → Q (.bl (listD d lo hi)) H'
abbrev s_is_listing : Stmt := top 23
abbrev N_is_listing : List Str := ["value", "least", "most"]
theorem sc_is_listing : FnScope N_is_listing ["value", "least", "most"] (defScope s_is_listing) := ⟨rfl, rfl, rfl, by decide +kernel, rfl, by decide +kernel, by decide +kernel⟩
theorem ok_is_listing (h : Has K mg "is_listing" s_is_listing ["value", "least", "most"]) (PT : PTx K mg aR) : Ok P w K mg base 1 "is_listing" ["value", "least", "most"] spListD := by
  obtain ⟨f, fd, g, b, F⟩ := h
  have T := PT.T
  refine ⟨f, fd, g, F.kp, b, F.ok sc_is_listing (fun vs H Q E h => ?_) (fun cdv A outer s H vs Q E hr h => ?_)⟩
  · obtain ⟨v, d, lo, hi, rfl, _⟩ := h
    rfl
  · obtain ⟨v, d, lo, hi, rfl, hd, q⟩ := h
    refine ⟨_, (pss_one (ps_ret (pe_and (pe_callB call_isiT (by rfl) T.isinstance bb_isinstance (pa_cons (pv 0) (pa_cons (pe_tup (pa_cons (pe_bltn (v := .ty "list") (by rfl) T.list bb_list rfl) (pa_cons (pe_bltn (v := .ty "tuple") (by rfl) T.tuple bb_tuple rfl) pa_nil))) pa_nil))) (pe_one (pe_chain op_le op_le (pv 1) (pe_callB lenT (by rfl) T.len bb_len (pa_cons (pv 0) pa_nil)) (pv 2)))))), ?_⟩
    refine ⟨_, rfl, (by show 2 ≤ sizeLine; decide), fun t ht => ?_⟩
    have s1 : Same H (upd H t (.tup [.ty "list", .ty "tuple"])) := Same.new ht
    have d1 := hd.fr (Fm.of s1)
    refine ⟨_, _, _, _, _, _, rfl, upd_same, pairedLT, d1.ty, d1.kSeq, _, rfl, ?_⟩
    generalize upd H t (.tup [.ty "list", .ty "tuple"]) = H1 at s1 d1 ⊢
    have q := q H1 s1
    unfold listD at q
    cases e : isSeq d with
    | false =>
      refine iteF ?_
      rw [e] at q
      exact q
    | true =>
      refine iteT ?_
      obtain ⟨a, xs, rfl, dx, ha, _⟩ := d1.seq e
      have hl := dx.len
      rw [e, Bool.true_and] at q
      refine ⟨_, rfl, _, rfl, a, xs, rfl, ha, _, _, rfl, rfl, _, rfl, ?_⟩
      rw [hl]
      by_cases c1 : lo ≤ ((itemsD d).length : Int)
      · refine iteP (decide_eq_true c1) ?_
        rw [decide_eq_true c1, Bool.true_and] at q
        exact ⟨_, rfl, _, _, rfl, rfl, q⟩
      · refine iteN (by rw [decide_eq_false c1]; decide) ?_
        rw [decide_eq_false c1, Bool.false_and] at q
        exact q
def spFactD : Sp := fun vs H Q _ => ∃ v d n, vs = [v, .int n] ∧ Dt Z0 H v d ∧ (itemsD d).length ≤ 1000 ∧ ∀ H', Same H H' → Q (.bl (factD d n)) H'
abbrev s_is_factors : Stmt := top 24
abbrev N_is_factors : List Str := ["value", "many", "factor"]
theorem sc_is_factors : FnScope N_is_factors ["value", "many"] (defScope s_is_factors) := ⟨rfl, rfl, rfl, by decide +kernel, rfl, by decide +kernel, by decide +kernel⟩
theorem Dt.tupOf {v : V} {d : PyData} {Z : Addr → Prop} {H : Hp} (h : Dt Z H v d) (s : isTup d = true) : ∃ a xs, v = .ref a ∧ DtAll Z H xs (itemsD d) ∧ H a = some (.tup xs) ∧ ¬ Z a ∧ d = .tuple (itemsD d) := by
  cases h <;> first | (simp [isTup, tyD] at s; done) | exact ⟨_, _, rfl, by assumption, by assumption, by assumption, rfl⟩
theorem ok_is_factors (h : Has K mg "is_factors" s_is_factors ["value", "many"]) (PT : PTx K mg aR) (O_is_between : Ok P w K mg base 2 "is_between" ["value", "low", "high"] spBetw) : Ok P w K mg base 3 "is_factors" ["value", "many"] spFactD := by
  obtain ⟨f, fd, g, b, F⟩ := h
  have T := PT.T
  obtain ⟨tL, gL⟩ := PT.large
  refine ⟨f, fd, g, F.kp, b, F.ok sc_is_factors (fun vs H Q E h => ?_) (fun cdv A outer s H vs Q E hr h => ?_)⟩
  · obtain ⟨v, d, n, rfl, _⟩ := h
    rfl
  · obtain ⟨v, d, n, rfl, hd, few, q⟩ := h
    refine ⟨_, (pss_cons (ps_if (pt_not (PW.pt (pw_and (pt_val (pe_callB call_isi (by rfl) T.isinstance bb_isinstance (pa_cons (pv 0) (pa_cons (pe_bltn (v := .ty "tuple") (by rfl) T.tuple bb_tuple rfl) pa_nil)))) (pw_and1 (pt_cmpR op_eq (pe_callB lenT (by rfl) T.len bb_len (pa_cons (pv 0) pa_nil)) (pv 1) (nomark _))))))
        (pss_one (ps_ret pe_bl))
        pss_nil)
      (pss_one (ps_ret (pe_callB (allT rfl) (by rfl) T.all bb_all (pa_cons (pe_lc (own := [("factor", 2)]) (g := (gName 2)) (tt := tYes) rfl sc_is_factors.nd (pi_seq (pv 0)) (blkOk_by (N := N_is_factors) (sc := defScope s_is_factors) (by decide +kernel)) (fun _ _ _ _ _ => (pg_name (i := 2) sc_is_factors.nd rfl (by first | exact Or.inl rfl | exact Or.inr rfl))) (fun _ _ _ _ _ => pts_nil) (fun _ _ _ _ _ => (pe_cO O_is_between (hr.mono (by decide)) pass0 rfl (pa_cons (pv 2) (pa_cons (pe_un un_neg (pe_glob (v := .int 1000000) (by rfl) gL ⟨tL, rfl⟩)) (pa_cons (pe_glob (v := .int 1000000) (by rfl) gL ⟨tL, rfl⟩) pa_nil)))))) pa_nil))))), ?_⟩
    refine ⟨_, rfl, _, _, _, _, _, rfl, .ty _, hd.ty, hd.kTup, _, rfl, ?_⟩
    unfold factD at q
    cases e : isTup d with
    | false =>
      rw [e] at q
      have e2 : (tyD d == "tuple") = false := e
      rw [e2]
      exact iteF (iteP rfl (q _ (Same.refl _)))
    | true =>
      rw [e, Bool.true_and] at q
      have e2 : (tyD d == "tuple") = true := e
      rw [e2]
      refine iteT ?_
      obtain ⟨a, xs, rfl, dx, ha, _, _⟩ := hd.tupOf e
      have hl := dx.len
      refine ⟨_, rfl, a, xs, rfl, .inr ha, _, rfl, rfl, _, rfl, ?_⟩
      rw [hl]
      by_cases hn : ((itemsD d).length : Int) = n
      · rw [decide_eq_true hn, Bool.true_and] at q
        refine iteN (by rw [veq hn]; decide) ?_
        refine ⟨_, rfl, a, xs, .tup xs, rfl, .inr rfl, ha, fun J wk D hD => ?_⟩
        refine lc_vals wk Z0 (fun _ => True) ((itemsD d).map fun d => V.bl (betw d (-1000000) 1000000)) (by simp [hl]) hD id True.intro (fun _ _ _ _ => True.intro) (by rw [hl]; exact Nat.lt_of_le_of_lt few (by decide)) (fun H f => f _ _ ha id) ?_ ?_
        · intro i x k H2 H3 Qk ek f _ _ y z
          obtain ⟨rfl, ex⟩ := y
          rw [List.getElem?_map] at ek
          obtain ⟨di, e1, rfl⟩ := Option.map_eq_some_iff.mp ek
          obtain ⟨d', e2, dt⟩ := dx.get ex
          rw [e1] at e2
          cases e2
          exact ⟨rfl, _, rfl, _, rfl, _, _, _, _, rfl, dt.fr f, z _ Fm.refl True.intro⟩
        · intro H4 f _ hD4
          refine ⟨D, (itemsD d).map fun x => betw x (-1000000) 1000000, rfl, by rw [hD4, List.map_map]; rfl, ?_⟩
          rw [List.all_map]
          exact q H4 f.same
      · rw [decide_eq_false hn, Bool.false_and] at q
        refine iteP ?_ (q _ (Same.refl _))
        rw [Bool.eq_false_iff.mpr (vne hn)]
        rfl
def itD (d : PyData) (i : Nat) : PyData := (itemsD d).getD i .none
def regD (d : PyData) : Bool := isTup d && (decide ((itemsD d).length = 2) && (nameD (itD d 0) && factD (.tuple [itD d 1]) 1))
theorem two_dt {Z : Addr → Prop} {H : Hp} {xs : List V} {ds : List PyData} (h : DtAll Z H xs ds) (l : ds.length = 2) : ∃ x y d e, xs = [x, y] ∧ ds = [d, e] ∧ Dt Z H x d ∧ Dt Z H y e := by
  cases h with
  | nil => cases l
  | cons h1 t =>
    cases t with
    | nil => cases l
    | cons h2 t =>
      cases t with
      | nil => exact ⟨_, _, _, _, rfl, rfl, h1, h2⟩
      | cons h3 t => simp at l
theorem three_dt {Z : Addr → Prop} {H : Hp} {xs : List V} {ds : List PyData} (h : DtAll Z H xs ds) (l : ds.length = 3) : ∃ x y z d e f, xs = [x, y, z] ∧ ds = [d, e, f] ∧ Dt Z H x d ∧ Dt Z H y e ∧ Dt Z H z f := by
  cases h with
  | nil => cases l
  | cons h1 t =>
    obtain ⟨x, y, d, e, rfl, rfl, h2, h3⟩ := two_dt t (by simpa using l)
    exact ⟨_, _, _, _, _, _, rfl, rfl, h1, h2, h3⟩
theorem four_dt {Z : Addr → Prop} {H : Hp} {xs : List V} {ds : List PyData} (h : DtAll Z H xs ds) (l : ds.length = 4) : ∃ x y z u d e f g, xs = [x, y, z, u] ∧ ds = [d, e, f, g] ∧ Dt Z H x d ∧ Dt Z H y e ∧ Dt Z H z f ∧ Dt Z H u g := by
  cases h with
  | nil => cases l
  | cons h1 t =>
    obtain ⟨x, y, z, d, e, f, rfl, rfl, h2, h3, h4⟩ := three_dt t (by simpa using l)
    exact ⟨_, _, _, _, _, _, _, _, rfl, rfl, h1, h2, h3, h4⟩
def spRegD : Sp := fun vs H Q _ => ∃ v d, vs = [v] ∧ Dt Z0 H v d ∧ Sz 1 d ∧ ∀ H', Same H H' → Q (.bl (regD d)) H'
abbrev s_is_register : Stmt := top 25
abbrev N_is_register : List Str := ["value"]
theorem sc_is_register : FnScope N_is_register ["value"] (defScope s_is_register) := ⟨rfl, rfl, rfl, by decide +kernel, rfl, by decide +kernel, by decide +kernel⟩
theorem ok_is_register (h : Has K mg "is_register" s_is_register ["value"]) (PT : PTx K mg aR) (O_is_name : Ok P w K mg base 1 "is_name" ["value"] spNameD) (O_is_factors : Ok P w K mg base 3 "is_factors" ["value", "many"] spFactD) : Ok P w K mg base 4 "is_register" ["value"] spRegD := by
  obtain ⟨f, fd, g, b, F⟩ := h
  have T := PT.T
  refine ⟨f, fd, g, F.kp, b, F.ok sc_is_register (fun vs H Q E h => ?_) (fun cdv A outer s H vs Q E hr h => ?_)⟩
  · obtain ⟨v, d, rfl, _⟩ := h
    rfl
  · obtain ⟨v, d, rfl, hd, sz, q⟩ := h
    refine ⟨_, (pss_one (ps_ret (pe_and (pe_callB call_isi (by rfl) T.isinstance bb_isinstance (pa_cons (pv 0) (pa_cons (pe_bltn (v := .ty "tuple") (by rfl) T.tuple bb_tuple rfl) pa_nil))) (pe_and (pe_cmpR op_eq (pe_callB lenT (by rfl) T.len bb_len (pa_cons (pv 0) pa_nil)) pe_int (nomark _)) (pe_and (pe_cO O_is_name (hr.mono (by decide)) pass0 rfl (pa_cons (pe_ix ixt (pv 0) pe_int (fun _ _ => rfl)) pa_nil)) (pe_one (pe_cO O_is_factors (hr.mono (by decide)) pass0 rfl (pa_cons (pe_slice slt (pv 0) (po_some pe_int) po_none) (pa_cons pe_int pa_nil))))))))), ?_⟩
    refine ⟨_, rfl, _, _, _, _, _, rfl, .ty _, hd.ty, hd.kTup, _, rfl, ?_⟩
    unfold regD at q
    cases e : isTup d with
    | false =>
      rw [e] at q
      rw [show (tyD d == "tuple") = false from e]
      exact iteF (q _ (Same.refl _))
    | true =>
      rw [e, Bool.true_and] at q
      rw [show (tyD d == "tuple") = true from e]
      refine iteT ?_
      obtain ⟨a, xs, rfl, dx, ha, _, ed⟩ := hd.tupOf e
      have hl := dx.len
      refine ⟨_, rfl, a, xs, rfl, .inr ha, rfl, _, rfl, ?_⟩
      rw [hl]
      by_cases hn : (itemsD d).length = 2
      · rw [decide_eq_true hn, Bool.true_and] at q
        refine iteP (veq (by omega)) ?_
        obtain ⟨x, y, d0, d1, rfl, eds, h0, h1⟩ := two_dt dx hn
        have e0 : itD d 0 = d0 := by unfold itD; rw [eds]; rfl
        have e1 : itD d 1 = d1 := by unfold itD; rw [eds]; rfl
        rw [e0, e1] at q
        have z0 : Sz 0 d0 := sz.2.2 d0 (by rw [eds]; simp)
        refine ⟨_, rfl, a, _, 0, x, rfl, rfl, ha, atI0, x, d0, rfl, h0, z0, fun H1 s1 => ⟨_, rfl, ?_⟩⟩
        cases en : nameD d0 with
        | false =>
          rw [en] at q
          exact iteF (q _ s1)
        | true =>
          rw [en, Bool.true_and] at q
          refine iteT ?_
          have ha1 := s1 _ _ ha
          refine ⟨_, rfl, _, rfl, a, _, rfl, ha1, (fun h => absurd (show HT.sIx 2 0 (some 1) = 0 from h.1) (by decide)), fun p np => ?_⟩
          have s2 : Same H1 (upd H1 p (.tup (cutV [x, y] (some 1) none))) := Same.new np
          have dp : Dt Z0 (upd H1 p (.tup (cutV [x, y] (some 1) none))) (.ref p) (.tuple [d1]) := .tup upd_same id (.cons ((h1.fr (Fm.of s1)).fr (Fm.of s2)) .nil)
          exact ⟨_, _, _, rfl, dp, by simp [itemsD], fun H3 s3 => q _ ((s1.trans s2).trans s3)⟩
      · rw [decide_eq_false hn, Bool.false_and] at q
        exact iteN (vne (by omega)) (q _ (Same.refl _))
def modeD (d : PyData) : Bool := isTup d && (decide ((itemsD d).length = 3) && (nameD (itD d 0) && (ruleD (itD d 1) && isSeq (itD d 2))))
def spModeD : Sp := fun vs H Q _ => ∃ v d, vs = [v] ∧ Dt Z0 H v d ∧ Sz 1 d ∧ ∀ H', Same H H' → Q (.bl (modeD d)) H'
abbrev s_is_mode : Stmt := top 26
abbrev N_is_mode : List Str := ["value", "name", "rule", "rows"]
theorem sc_is_mode : FnScope N_is_mode ["value"] (defScope s_is_mode) := ⟨rfl, rfl, rfl, by decide +kernel, rfl, by decide +kernel, by decide +kernel⟩
theorem ok_is_mode (h : Has K mg "is_mode" s_is_mode ["value"]) (PT : PTx K mg aR) (O_is_name : Ok P w K mg base 1 "is_name" ["value"] spNameD) (O_is_rule : Ok P w K mg base 1 "is_rule" ["value"] spRuleD) : Ok P w K mg base 2 "is_mode" ["value"] spModeD := by
  obtain ⟨f, fd, g, b, F⟩ := h
  have T := PT.T
  refine ⟨f, fd, g, F.kp, b, F.ok sc_is_mode (fun vs H Q E h => ?_) (fun cdv A outer s H vs Q E hr h => ?_)⟩
  · obtain ⟨v, d, rfl, _⟩ := h
    rfl
  · obtain ⟨v, d, rfl, hd, sz, q⟩ := h
    refine ⟨_, (pss_cons (ps_if (pt_not (PW.pt (pw_and (pt_val (pe_callB call_isi (by rfl) T.isinstance bb_isinstance (pa_cons (pv 0) (pa_cons (pe_bltn (v := .ty "tuple") (by rfl) T.tuple bb_tuple rfl) pa_nil)))) (pw_and1 (pt_cmpR op_eq (pe_callB lenT (by rfl) T.len bb_len (pa_cons (pv 0) pa_nil)) pe_int (nomark _))))))
        (pss_one (ps_ret pe_bl))
        pss_nil)
      (pss_cons (ps_asg (pv 0) (pgT (n := 3) (by rfl) (pgs_cons (pg_name (i := 1) sc_is_mode.nd rfl (.inl rfl)) (pgs_cons (pg_name (i := 2) sc_is_mode.nd rfl (.inl rfl)) (pgs_cons (pg_name (i := 3) sc_is_mode.nd rfl (.inl rfl)) pgs_nil)))))
      (pss_one (ps_ret (pe_and (pe_cO O_is_name (hr.mono (by decide)) pass0 rfl (pa_cons (pv 1) pa_nil)) (pe_and (pe_cO O_is_rule (hr.mono (by decide)) pass0 rfl (pa_cons (pv 2) pa_nil)) (pe_one (pe_callB call_isiT (by rfl) T.isinstance bb_isinstance (pa_cons (pv 3) (pa_cons (pe_tup (pa_cons (pe_bltn (v := .ty "list") (by rfl) T.list bb_list rfl) (pa_cons (pe_bltn (v := .ty "tuple") (by rfl) T.tuple bb_tuple rfl) pa_nil))) pa_nil)))))))))), ?_⟩
    refine ⟨_, rfl, _, _, _, _, _, rfl, .ty _, hd.ty, hd.kTup, _, rfl, ?_⟩
    unfold modeD at q
    cases e : isTup d with
    | false =>
      rw [e] at q
      rw [show (tyD d == "tuple") = false from e]
      exact iteF (iteP rfl (q _ (Same.refl _)))
    | true =>
      rw [e, Bool.true_and] at q
      rw [show (tyD d == "tuple") = true from e]
      refine iteT ?_
      obtain ⟨a, xs, rfl, dx, ha, _, ed⟩ := hd.tupOf e
      have hl := dx.len
      refine ⟨_, rfl, a, xs, rfl, .inr ha, rfl, _, rfl, ?_⟩
      rw [hl]
      by_cases hn : (itemsD d).length = 3
      · rw [decide_eq_true hn, Bool.true_and] at q
        refine iteN (by rw [veq (show (((itemsD d).length : Nat) : Int) = 3 by omega)]; decide) ?_
        obtain ⟨x, y, z, d0, d1, d2, rfl, eds, h0, h1, h2⟩ := three_dt dx hn
        have e0 : itD d 0 = d0 := by unfold itD; rw [eds]; rfl
        have e1 : itD d 1 = d1 := by unfold itD; rw [eds]; rfl
        have e2 : itD d 2 = d2 := by unfold itD; rw [eds]; rfl
        rw [e0, e1, e2] at q
        have z0 : Sz 0 d0 := sz.2.2 d0 (by rw [eds]; simp)
        refine ⟨_, rfl, a, _, rfl, ha, rfl, _, _, rfl, _, _, rfl, _, _, rfl, rfl, ?_⟩
        refine ⟨_, rfl, x, d0, rfl, h0, z0, fun H1 s1 => ⟨_, rfl, ?_⟩⟩
        cases en : nameD d0 with
        | false =>
          rw [en] at q
          exact iteF (q _ s1)
        | true =>
          rw [en, Bool.true_and] at q
          refine iteT ?_
          refine ⟨_, rfl, y, d1, rfl, h1.fr (Fm.of s1), _, rfl, ?_⟩
          cases er : ruleD d1 with
          | false =>
            rw [er] at q
            exact iteF (q _ s1)
          | true =>
            rw [er, Bool.true_and] at q
            refine iteT ?_
            refine ⟨_, rfl, (by show 2 ≤ sizeLine; decide), fun t ht => ?_⟩
            have s2 : Same H1 (upd H1 t (.tup [.ty "list", .ty "tuple"])) := Same.new ht
            have d3 := (h2.fr (Fm.of s1)).fr (Fm.of s2)
            exact ⟨_, _, _, _, _, _, rfl, upd_same, pairedLT, d3.ty, d3.kSeq, q _ (s1.trans s2)⟩
      · rw [decide_eq_false hn, Bool.false_and] at q
        refine iteP ?_ (q _ (Same.refl _))
        rw [Bool.eq_false_iff.mpr (vne (show (((itemsD d).length : Nat) : Int) ≠ 3 by omega))]
        rfl
def optD (d : PyData) (b : Bool) : Bool := match d with | .none => true | _ => b
def thenD (d : PyData) (zs : List Str) : Bool := match d with | .none => true | .str s => inV (.str s) (zs.map V.str) | _ => false
def upsD (d : PyData) (many : Nat) : Bool := isTup d && (decide ((itemsD d).length = many) && (itemsD d).all fun x => factD x (many + 2))
def rowD (d : PyData) (size : Int) (many : Nat) (zs : List Str) : Bool :=
  isTup d && (decide ((itemsD d).length = 4) && ((optD (itD d 0) (betw (itD d 0) (-1) 1) && optD (itD d 1) (remD (itD d 1) size)) && (upsD (itD d 2) many && thenD (itD d 3) zs)))
def spRowD : Sp := fun vs H Q _ => ∃ v d size many nm zs, vs = [v, .int size, .int ((many : Nat) : Int), .ref nm] ∧ Dt Z0 H v d ∧ Sz 2 d ∧ H nm = some (.lst (zs.map V.str)) ∧ ∀ H', Same H H' → Q (.bl (rowD d size many zs)) H'
abbrev s_is_row : Stmt := top 27
abbrev N_is_row : List Str := ["value", "size", "many", "names", "sign", "remainder", "updates", "then", "update"]
theorem sc_is_row : FnScope N_is_row ["value", "size", "many", "names"] (defScope s_is_row) := ⟨rfl, rfl, rfl, by decide +kernel, rfl, by decide +kernel, by decide +kernel⟩
theorem isN_opt {Z : Addr → Prop} {H : Hp} {v : V} {d : PyData} (h : Dt Z H v d) : decide (v = .non) = (tyD d == "NoneType") := by
  cases h <;> first | rfl | (exact decide_eq_false (fun z => by cases z))
theorem optD_of {d : PyData} {b : Bool} : optD d b = ((tyD d == "NoneType") || b) := by
  cases d <;> rfl
theorem flat_strs (zs : List Str) : (zs.map V.str).all flatV = true := by
  rw [List.all_eq_true]
  intro v hv
  obtain ⟨s, _, rfl⟩ := List.mem_map.mp hv
  rfl
theorem ok_is_row (h : Has K mg "is_row" s_is_row ["value", "size", "many", "names"]) (PT : PTx K mg aR) (O_is_between : Ok P w K mg base 2 "is_between" ["value", "low", "high"] spBetw) (O_is_remainder : Ok P w K mg base 3 "is_remainder" ["value", "size"] spRemD)
    (O_is_factors : Ok P w K mg base 3 "is_factors" ["value", "many"] spFactD) : Ok P w K mg base 4 "is_row" ["value", "size", "many", "names"] spRowD := by
  obtain ⟨f, fd, g, b, F⟩ := h
  have T := PT.T
  refine ⟨f, fd, g, F.kp, b, F.ok sc_is_row (fun vs H Q E h => ?_) (fun cdv A outer s H vs Q E hr h => ?_)⟩
  · obtain ⟨v, d, size, many, nm, zs, rfl, _⟩ := h
    rfl
  · obtain ⟨v, d, size, many, nm, zs, rfl, hd, sz, hn, q⟩ := h
    refine ⟨_, (pss_cons (ps_if (pt_not (PW.pt (pw_and (pt_val (pe_callB call_isi (by rfl) T.isinstance bb_isinstance (pa_cons (pv 0) (pa_cons (pe_bltn (v := .ty "tuple") (by rfl) T.tuple bb_tuple rfl) pa_nil)))) (pw_and1 (pt_cmpR op_eq (pe_callB lenT (by rfl) T.len bb_len (pa_cons (pv 0) pa_nil)) pe_int (nomark _))))))
        (pss_one (ps_ret pe_bl))
        pss_nil)
      (pss_cons (ps_asg (pv 0) (pgT (n := 4) (by rfl) (pgs_cons (pg_name (i := 4) sc_is_row.nd rfl (.inl rfl)) (pgs_cons (pg_name (i := 5) sc_is_row.nd rfl (.inl rfl)) (pgs_cons (pg_name (i := 6) sc_is_row.nd rfl (.inl rfl)) (pgs_cons (pg_name (i := 7) sc_is_row.nd rfl (.inl rfl)) pgs_nil))))))
      (pss_cons (ps_if (pt_not (PW.pt (pw_and (PW.pt (pw_or (pt_cmpR op_isN (pv 4) pe_non (nomark _)) (pw_or1 (pt_val (pe_cO O_is_between (hr.mono (by decide)) pass0 rfl (pa_cons (pv 4) (pa_cons (pe_un un_neg pe_int) (pa_cons pe_int pa_nil)))))))) (pw_and1 (PW.pt (pw_or (pt_cmpR op_isN (pv 5) pe_non (nomark _)) (pw_or1 (pt_val (pe_cO O_is_remainder (hr.mono (by decide)) pass0 rfl (pa_cons (pv 5) (pa_cons (pv 1) pa_nil)))))))))))
        (pss_one (ps_ret pe_bl))
        pss_nil)
      (pss_cons (ps_if (pt_not (PW.pt (pw_and (pt_val (pe_callB call_isi (by rfl) T.isinstance bb_isinstance (pa_cons (pv 6) (pa_cons (pe_bltn (v := .ty "tuple") (by rfl) T.tuple bb_tuple rfl) pa_nil)))) (pw_and1 (pt_cmpR op_eq (pe_callB lenT (by rfl) T.len bb_len (pa_cons (pv 6) pa_nil)) (pv 2) (nomark _))))))
        (pss_one (ps_ret pe_bl))
        pss_nil)
      (pss_cons (ps_if (pt_not (pt_val (pe_callB (allT rfl) (by rfl) T.all bb_all (pa_cons (pe_lc (own := [("update", 8)]) (g := (gName 8)) (tt := tYes) rfl sc_is_row.nd (pi_seq (pv 6)) (blkOk_by (N := N_is_row) (sc := defScope s_is_row) (by decide +kernel)) (fun _ _ _ _ _ => (pg_name (i := 8) sc_is_row.nd rfl (by first | exact Or.inl rfl | exact Or.inr rfl))) (fun _ _ _ _ _ => pts_nil) (fun _ _ _ _ _ => (pe_cO O_is_factors (hr.mono (by decide)) pass0 rfl (pa_cons (pv 8) (pa_cons (pe_op op_add (pv 2) pe_int) pa_nil))))) pa_nil))))
        (pss_one (ps_ret pe_bl))
        pss_nil)
      (pss_one (ps_ret (pe_or (pe_cmpR op_isN (pv 7) pe_non (nomark _)) (pe_one (pe_and (pe_callB call_isi (by rfl) T.isinstance bb_isinstance (pa_cons (pv 7) (pa_cons (pe_bltn (v := .ty "str") (by rfl) T.str bb_str rfl) pa_nil))) (pe_one (pe_cmpR inT (pv 7) (pv 3) (by rfl))))))))))))), ?_⟩
    refine ⟨_, rfl, _, _, _, _, _, rfl, .ty _, hd.ty, hd.kTup, _, rfl, ?_⟩
    unfold rowD at q
    cases e : isTup d with
    | false =>
      rw [e] at q
      rw [show (tyD d == "tuple") = false from e]
      exact iteF (iteP rfl (q _ (Same.refl _)))
    | true =>
      rw [e, Bool.true_and] at q
      rw [show (tyD d == "tuple") = true from e]
      refine iteT ?_
      obtain ⟨a, xs, rfl, dx, ha, _, ed⟩ := hd.tupOf e
      have hl := dx.len
      refine ⟨_, rfl, a, xs, rfl, .inr ha, rfl, _, rfl, ?_⟩
      rw [hl]
      by_cases h4 : (itemsD d).length = 4
      · rw [decide_eq_true h4, Bool.true_and] at q
        refine iteN (by rw [veq (show (((itemsD d).length : Nat) : Int) = 4 by omega)]; decide) ?_
        obtain ⟨x, y, z, u, d0, d1, d2, d3, rfl, eds, h0, h1, h2, h3⟩ := four_dt dx h4
        have e0 : itD d 0 = d0 := by unfold itD; rw [eds]; rfl
        have e1 : itD d 1 = d1 := by unfold itD; rw [eds]; rfl
        have e2 : itD d 2 = d2 := by unfold itD; rw [eds]; rfl
        have e3 : itD d 3 = d3 := by unfold itD; rw [eds]; rfl
        rw [e0, e1, e2, e3] at q
        have z2 : Sz 1 d2 := sz.2.2 d2 (by rw [eds]; simp)
        refine ⟨_, rfl, a, _, rfl, ha, rfl, _, _, rfl, _, _, rfl, _, _, rfl, _, _, rfl, rfl, ?_⟩
        have t1 : ∀ {H' : Hp} {v : V} {d : PyData} {i : Nat} {τ : St}, Dt Z0 H' v d → τ[i]? = some (some v) → PureT (tTest (tOp (fun x y H Q => y = V.non ∧ Q (V.bl (decide (x = V.non))) H) (tVar i) (tC V.non))) τ H' (tyD d == "NoneType") := fun h e Q q =>
          ⟨_, e, rfl, _, rfl, by rw [isN_opt h]; exact q _ (Same.refl _)⟩
        dsimp only
        refine PureT.sqn (x := !(optD d0 (betw d0 (-1) 1) && optD d1 (remD d1 size))) (PureT.no (PureT.and ?c1 fun _ H1 s1 => ?c2)) (fun ff H1 s1 => ?no) (fun tt H1 s1 => ?yes)
        case c1 =>
          refine ((t1 h0 rfl).or fun H1 s1 => ?_).cast optD_of.symm
          exact fun Q q => ⟨_, rfl, _, rfl, x, d0, _, _, rfl, h0.fr (Fm.of s1), _, rfl, q _ (Same.refl _)⟩
        case c2 =>
          refine ((t1 (h1.fr (Fm.of s1)) rfl).or fun H2 s2 => ?_).cast optD_of.symm
          exact fun Q q => ⟨_, rfl, _, rfl, y, d1, _, rfl, (h1.fr (Fm.of s1)).fr (Fm.of s2), _, rfl, q _ (Same.refl _)⟩
        case no =>
          have q := q H1 s1
          rw [no_tt ff, Bool.false_and] at q
          exact q
        case yes =>
          rw [no_ff tt, Bool.true_and] at q
          have g2 := h2.fr (Fm.of s1)
          refine PureT.sqn (x := !(isTup d2 && decide ((itemsD d2).length = many))) (PureT.no (PureT.and (fun Q q => ⟨_, rfl, _, _, _, _, _, rfl, .ty _, g2.ty, g2.kTup, _, rfl, q _ (Same.refl _)⟩) fun it H2 s2 => ?d2)) (fun ff H2 s2 => ?no2) (fun tt H2 s2 => ?yes2)
          case d2 =>
            obtain ⟨a2, xs2, rfl, dx2, ha2, _, _⟩ := (g2.fr (Fm.of s2)).tupOf it
            exact fun Q q => ⟨_, rfl, a2, xs2, rfl, .inr ha2, _, rfl, rfl, _, rfl, by rw [dx2.len, dec_len]; exact q _ (Same.refl _)⟩
          case no2 =>
            have q := q H2 (s1.trans s2)
            unfold upsD at q
            rw [← Bool.and_assoc, no_tt ff, Bool.false_and, Bool.false_and] at q
            exact q
          case yes2 =>
            have both := Bool.and_eq_true_iff.mp (no_ff tt)
            obtain ⟨a2, xs2, rfl, dx2, ha2, _, _⟩ := (g2.fr (Fm.of s2)).tupOf both.1
            have ln : (itemsD d2).length = many := of_decide_eq_true both.2
            unfold upsD at q
            rw [← Bool.and_assoc, no_ff tt, Bool.true_and] at q
            have s12 := s1.trans s2
            refine PureT.sqn (x := !((itemsD d2).all fun x => factD x (many + 2))) (PureT.no ?al) (fun ff H3 s3 => ?no3) (fun tt H3 s3 => ?yes3)
            case al =>
              refine fun Q q => ⟨_, rfl, a2, xs2, .tup xs2, rfl, .inr rfl, ha2, fun J wk D hD => ?_⟩
              refine lc_vals wk Z0 (fun _ => True) ((itemsD d2).map fun d => V.bl (factD d (many + 2))) (by simp [dx2.len]) hD id True.intro (fun _ _ _ _ => True.intro) (by rw [dx2.len]; exact Nat.lt_of_le_of_lt z2.1 (by decide)) (fun H f => f _ _ ha2 id) ?_ ?_
              · intro i x k H4 H5 Qk ek f _ _ y z
                obtain ⟨rfl, ex⟩ := y
                rw [List.getElem?_map] at ek
                obtain ⟨di, e1, rfl⟩ := Option.map_eq_some_iff.mp ek
                obtain ⟨d', e2, dt⟩ := dx2.get ex
                rw [e1] at e2
                cases e2
                exact ⟨rfl, _, rfl, _, rfl, _, _, rfl, rfl, x, di, _, rfl, dt.fr f, (z2.2.2 di (List.mem_of_getElem? e1)).1, fun H6 s6 => z _ (Fm.of s6) True.intro⟩
              · intro H4 f _ hD4
                refine ⟨D, (itemsD d2).map fun x => factD x (many + 2), rfl, by rw [hD4, List.map_map]; rfl, ?_⟩
                refine ⟨_, rfl, ?_⟩
                rw [List.all_map]
                exact q H4 f.same
            case no3 =>
              have q := q H3 (s12.trans s3)
              rw [no_tt ff, Bool.false_and] at q
              exact q
            case yes3 =>
              have q := q H3 (s12.trans s3)
              rw [no_ff tt, Bool.true_and] at q
              have g3 := (h3.fr (Fm.of s12)).fr (Fm.of s3)
              refine ⟨_, rfl, rfl, _, rfl, ?_⟩
              rw [isN_opt g3]
              have hn3 := (s12.trans s3) _ _ hn
              cases g3 with
              | non => exact iteT q
              | str x => exact iteF ⟨_, rfl, _, _, _, _, _, rfl, .ty _, (Dt.str (Z := Z0) (H := H3) x).ty, (Dt.str (Z := Z0) (H := H3) x).kStr, _, rfl, iteT ⟨_, rfl, _, rfl, nm, _, rfl, .inl hn3, rfl, flat_strs zs, q⟩⟩
              | bl b => exact iteF ⟨_, rfl, _, _, _, _, _, rfl, .ty _, (Dt.bl (Z := Z0) (H := H3) b).ty, (Dt.bl (Z := Z0) (H := H3) b).kStr, _, rfl, iteF q⟩
              | int b => exact iteF ⟨_, rfl, _, _, _, _, _, rfl, .ty _, (Dt.int (Z := Z0) (H := H3) b).ty, (Dt.int (Z := Z0) (H := H3) b).kStr, _, rfl, iteF q⟩
              | lst e n t => exact iteF ⟨_, rfl, _, _, _, _, _, rfl, .ty _, (Dt.lst e n t).ty, (Dt.lst e n t).kStr, _, rfl, iteF q⟩
              | tup e n t => exact iteF ⟨_, rfl, _, _, _, _, _, rfl, .ty _, (Dt.tup e n t).ty, (Dt.tup e n t).kStr, _, rfl, iteF q⟩
              | emp e n => exact iteF ⟨_, rfl, _, _, _, _, _, rfl, .ty _, (Dt.emp e n).ty, (Dt.emp e n).kStr, _, rfl, iteF q⟩
      · rw [decide_eq_false h4, Bool.false_and] at q
        refine iteP ?_ (q _ (Same.refl _))
        rw [Bool.eq_false_iff.mpr (vne (show (((itemsD d).length : Nat) : Int) ≠ 4 by omega))]
        rfl
end
/-! ### the first part that does not fit -/
section
variable {P : Program} {w : World} {K : PySem.W.Frag} {mg : Str → Option Value} {base : Heap} {aR : Addr}
def nmOf (d : PyData) : Str := match d with | .tuple (.str s :: _) => s | _ => ""
def wrongAt (part : PyData → Bool) : List PyData → List Str → Nat → Option Nat
  | [], _, _ => none
  | d :: ds, ns, i => if (!part d || inV (.str (nmOf d)) (ns.map V.str)) = true then some i else wrongAt part ds (ns ++ [nmOf d]) (i + 1)
def atV : Option Nat → V
  | none => .non
  | some i => .int (i : Nat)
def spPart (part : PyData → Bool) : Sp := fun vs H Q _ => ∃ v d, vs = [v] ∧ Dt Z0 H v d ∧ Sz 1 d ∧ ∀ H', Same H H' → Q (.bl (part d)) H'
def spFirstD (f0 : Addr) (part : PyData → Bool) : Sp := fun vs H Q _ => ∃ v d, vs = [v, .ref f0] ∧ Dt Z0 H v d ∧ isSeq d = true ∧ (itemsD d).length ≤ 1000 ∧ (∀ x ∈ itemsD d, Sz 1 x) ∧ ∀ H', Same H H' → Q (atV (wrongAt part (itemsD d) [] 0)) H'
abbrev s_first_wrong : Stmt := top 28
abbrev N_first_wrong : List Str := ["parts", "is_part", "names", "at", "part"]
theorem sc_first_wrong : FnScope N_first_wrong ["parts", "is_part"] (defScope s_first_wrong) := ⟨rfl, rfl, rfl, by decide +kernel, rfl, by decide +kernel, by decide +kernel⟩
theorem ok_first_wrong {f0 : Addr} {fd0 : FuncData} {part : PyData → Bool} (h : Has K mg "first_wrong" s_first_wrong ["parts", "is_part"]) (PT : PTx K mg aR) (F0 : FnOk P w K mg base CX0 4 f0 fd0 ["value"] (spPart part)) (k0 : PySem.W.keepIn K (.ref f0) = true) (b0 : Binds K fd0 ["value"] [])
    (named : ∀ d, part d = true → ∃ s rest, d = .tuple (.str s :: rest)) : Ok P w K mg base 5 "first_wrong" ["parts", "is_part"] (spFirstD f0 part) := by
  obtain ⟨f, fd, g, b, F⟩ := h
  have T := PT.T
  refine ⟨f, fd, g, F.kp, b, F.ok sc_first_wrong (fun vs H Q E h => ?_) (fun cdv A outer s H vs Q E hr h => ?_)⟩
  · obtain ⟨v, d, rfl, _⟩ := h
    rfl
  · obtain ⟨v, d, rfl, hd, sq, few, sz, q⟩ := h
    obtain ⟨l, xs, rfl, dx, ha, _⟩ := hd.seq sq
    have hl := dx.len
    refine ⟨_, (pss_cons (ps_set (i := 2) sc_first_wrong.nd rfl (.inl rfl) (pe_lst pa_nil))
      (pss_cons (ps_for PassesOwn.never rfl (pi_enumS (by rfl) T.enumerate (pa_cons (pv 0) pa_nil)) (pgT (n := 2) (by rfl) (pgs_cons (pg_name (i := 3) sc_first_wrong.nd rfl (.inl rfl)) (pgs_cons (pg_name (i := 4) sc_first_wrong.nd rfl (.inl rfl)) pgs_nil)))
        (pss_cons (ps_if (PW.pt (pw_or (pt_not (pt_val (pe_callL (i := 1) (E := E0) F0 (hr.mono (by decide)) rfl (.inl rfl) k0 b0 .nil pass0 (pa_cons (pv 4) pa_nil)))) (pw_or1 (pt_cmpR inT (pe_ix ixt (pv 4) pe_int (fun _ _ => rfl)) (pv 2) (by rfl)))))
          (pss_one (ps_ret (pv 3)))
          pss_nil)
        (pss_one (ps_expr (pe_bm PySem.F.plainAttrs_list PySem.F.slot_list_append PySem.F.type_list_append mt_append (pv 2) (pa_cons (pe_ix ixt (pv 4) pe_int (fun _ _ => rfl)) pa_nil))))))
      (pss_one (ps_ret pe_non)))), ?_⟩
    refine ⟨by show 0 ≤ sizeLine; decide, fun D hD => ?_⟩
    obtain ⟨o, ho, at_l⟩ : ∃ o, (o = .lst xs ∨ o = .tup xs) ∧ H l = some o := ha.elim (fun h => ⟨_, .inl rfl, h⟩) fun h => ⟨_, .inr rfl, h⟩
    refine ⟨_, rfl, l, xs, o, rfl, ho, (Same.new hD) _ _ at_l, fun J wk => for_it wk (fun i σ H' => Same H H' ∧ ∃ ns : List Str, ns.length = i ∧ H' D = some (.lst (ns.map V.str)) ∧ wrongAt part (itemsD d) [] 0 = wrongAt part ((itemsD d).drop i) ns i ∧ ∃ v3 v4 : Option V, σ = [some (.ref l), some (.ref f0), some (.ref D), v3, v4])
      ⟨Same.new hD, [], rfl, upd_same, rfl, none, none, rfl⟩ (fun i σ H' _ z => z.1 _ _ at_l) ?_ ?_⟩
    · rintro i x σ H1 H2 hi ⟨s1, ns, ln, h1, ew, v3, v4, rfl⟩ ⟨T', x', y', rfl, hT, rfl, e1, e2⟩
      have e2 : xs[i]? = some y' := e2
      have e1 : some (V.int (i : Nat)) = some x' := e1
      obtain rfl := Option.some.inj e1
      obtain ⟨di, ei, dt⟩ := dx.get e2
      have s2 : Same H1 (upd H1 T' (.tup [.int (i : Nat), y'])) := Same.new hT
      have d2 : (upd H1 T' (.tup [.int (i : Nat), y'])) T' = some (.tup [.int (i : Nat), y']) := upd_same
      generalize upd H1 T' (.tup [.int (i : Nat), y']) = H2 at s2 d2 ⊢
      refine ⟨T', _, rfl, d2, rfl, _, _, rfl, _, _, rfl, rfl, ?_⟩
      have s12 := s1.trans s2
      have dt2 := dt.fr (Fm.of s12)
      have more : (itemsD d).drop i = di :: (itemsD d).drop (i + 1) := by
        obtain ⟨lt, e⟩ := List.getElem?_eq_some_iff.mp ei
        rw [List.drop_eq_getElem_cons lt, e]
      rw [more] at ew
      have z1 := sz di (List.mem_of_getElem? ei)
      dsimp only
      refine PureT.sqn (x := !part di || inV (.str (nmOf di)) (ns.map V.str)) (PureT.orc (PureT.no ?call) ?isin) (fun tt H3 s3 => ?ret) (fun ff H3 s3 => ?go)
      case call =>
        exact fun Q q => ⟨rfl, _, rfl, y', di, rfl, dt2, z1, fun H3 s3 => ⟨_, rfl, q _ s3⟩⟩
      case isin =>
        intro ok H3 s3
        obtain ⟨s, rest, rfl⟩ := named di (no_ff ok)
        obtain ⟨a2, xs2, rfl, dx2, ha2, _, _⟩ := (dt2.fr (Fm.of s3)).tupOf rfl
        cases dx2 with
        | cons q1 q2 =>
          cases q1
          exact fun Q q => ⟨_, rfl, a2, _, 0, _, rfl, rfl, ha2, atI0, _, rfl, D, _, rfl, .inl (s3 _ _ (s2 _ _ h1)), rfl, flat_strs ns, _, rfl, q _ (Same.refl _)⟩
      case ret =>
        have q := q H3 (s12.trans s3)
        rw [ew, wrongAt, if_pos tt] at q
        exact ⟨_, rfl, q⟩
      case go =>
        obtain ⟨s, rest, rfl⟩ := named di (no_ff (Bool.or_eq_false_iff.mp ff).1)
        obtain ⟨a2, xs2, rfl, dx2, ha2, _, _⟩ := (dt2.fr (Fm.of s3)).tupOf rfl
        have h3 := s3 _ _ (s2 _ _ h1)
        cases dx2 with
        | cons q1 q2 =>
          cases q1
          refine ⟨_, rfl, .inl ⟨rfl, _, SqL.of h3⟩, _, rfl, a2, _, 0, _, rfl, rfl, ha2, atI0, D, _, _, rfl, rfl, h3, ?_, ?_⟩
          · rw [List.length_map, ln]
            exact Nat.lt_of_lt_of_le (by omega : i < 1000) (by decide)
          · refine ⟨fun b o e => ?_, ns ++ [s], by rw [List.length_append, ln]; rfl, ?_, ?_, _, _, rfl⟩
            · rw [upd_ne (ne_of_none e hD)]
              exact s3 _ _ (s12 _ _ e)
            · rw [upd_same, List.map_append]
              rfl
            · rw [ew, wrongAt, if_neg (by rw [ff]; decide)]
              rfl
    · rintro σ H1 ⟨s1, ns, ln, h1, ew, v3, v4, rfl⟩
      have q := q H1 s1
      rw [ew, hl, List.drop_of_length_le (Nat.le_refl _)] at q
      exact q
end
/-! ### registers, modes -/
section
variable {P : Program} {w : World} {K : PySem.W.Frag} {mg : Str → Option Value} {base : Heap} {aR CG : Addr}
def EX1 (C : Addr) (f : Str) (v : V) (E : XK) (H : Hp) : Prop := ∀ H' dx, Same H H' → H' dx = none → E (.ref C) (some dx) (upd H' dx (.xd [(f, v)]))
theorem EX1.same {C : Addr} {f : Str} {v : V} {E : XK} {H H1 : Hp} (x : EX1 C f v E H) (s : Same H H1) : EX1 C f v E H1 := fun H' dx s' n => x H' dx (s.trans s') n
theorem EX1.now {C : Addr} {f : Str} {v : V} {E : XK} {H : Hp} (x : EX1 C f v E H) : ∀ dx, H dx = none → E (.ref C) (some dx) (upd H dx (.xd [(f, v)])) := fun dx n => x H dx (Same.refl _) n
def partsD (part : PyData → Bool) (hi : Int) (d : PyData) : Bool := listD d 1 hi && (wrongAt part (itemsD d) [] 0).isNone
def partsN (part : PyData → Bool) (hi : Int) (d : PyData) : V := if listD d 1 hi = true then atV (wrongAt part (itemsD d) [] 0) else .non
def spChkParts (part : PyData → Bool) (hi : Int) (CG : Addr) : Sp := fun vs H Q E => ∃ v d, vs = [v] ∧ Dt Z0 H v d ∧ Sz 2 d ∧ (partsD part hi d = true → ∀ H', Same H H' → Q .non H') ∧ (partsD part hi d = false → EX1 CG "number" (partsN part hi d) E H)
abbrev s_check_registers : Stmt := top 29
abbrev N_check_registers : List Str := ["registers", "wrong"]
theorem sc_check_registers : FnScope N_check_registers ["registers"] (defScope s_check_registers) := ⟨rfl, rfl, rfl, by decide +kernel, rfl, by decide +kernel, by decide +kernel⟩
theorem atV_none {o : Option Nat} : (!decide (atV o = .non)) = !o.isNone := by
  cases o with
  | none => rfl
  | some i => exact congrArg _ (decide_eq_false (fun z => by cases z))
theorem ok_check_registers {f0 : Addr} (h : Has K mg "check_registers" s_check_registers ["registers"]) (g0 : mg "is_register" = some (.ref f0)) (O_is_listing : Ok P w K mg base 1 "is_listing" ["value", "least", "most"] spListD) (O_first_wrong : Ok P w K mg base 5 "first_wrong" ["parts", "is_part"] (spFirstD f0 regD))
    (XG : XRz P w K mg base "InvalidRegisters" CG 1 (sp1n "number" CG)) : OkX P w K mg base 6 "check_registers" ["registers"] (spChkParts regD 3 CG) := by
  obtain ⟨f, fd, g, b, F⟩ := h
  refine ⟨f, fd, g, F.kp, b, F.okX sc_check_registers (fun vs H Q E h => ?_) (fun cdv A outer s H vs Q E hr h => ?_)⟩
  · obtain ⟨v, d, rfl, _⟩ := h
    rfl
  · obtain ⟨v, d, rfl, hd, sz, q, qe⟩ := h
    refine ⟨_, (pss_cons (ps_if (pt_not (pt_val (pe_cO O_is_listing (hr.mono (by decide)) pass0 rfl (pa_cons (pv 0) (pa_cons pe_int (pa_cons pe_int pa_nil))))))
        (pss_one (ps_raiseN XG (hr.mono (by decide)) rfl (takes_of rfl rfl rfl rfl) rfl (pa_cons pe_non pa_nil)))
        pss_nil)
      (pss_cons (ps_set (i := 1) sc_check_registers.nd rfl (.inl rfl) (pe_cO O_first_wrong (hr.mono (by decide)) pass0 rfl (pa_cons (pv 0) (pa_cons (pe_glob (v := .ref f0) rfl g0 rfl) pa_nil))))
      (pss_one (ps_if (pt_cmpR op_notN (pv 1) pe_non (nomark _))
        (pss_one (ps_raiseN XG (hr.mono (by decide)) rfl (takes_of rfl rfl rfl rfl) rfl (pa_cons (pv 1) pa_nil)))
        pss_nil)))), ?_⟩
    refine PureT.sqn (x := !listD d 1 3) (PureT.no fun Q q => ⟨_, rfl, v, d, _, _, rfl, hd, fun H1 s1 => ⟨_, rfl, q _ s1⟩⟩) (fun tt H1 s1 => ?_) (fun ff H1 s1 => ?_)
    · have no := no_tt tt
      refine ⟨rfl, by show 1 ≤ 1000; decide, flies1 ?_⟩
      have x := qe (by unfold partsD; rw [no]; rfl)
      unfold partsN at x
      rw [no, if_neg (by decide)] at x
      exact (x.same s1).now
    · have yes := no_ff ff
      have sq : isSeq d = true := (Bool.and_eq_true_iff.mp yes).1
      refine ⟨_, rfl, v, d, rfl, hd.fr (Fm.of s1), sq, sz.1, sz.2.2, fun H2 s2 => ?_⟩
      refine ⟨_, rfl, rfl, _, rfl, ?_⟩
      rw [atV_none]
      have s12 := s1.trans s2
      cases e : (wrongAt regD (itemsD d) [] 0).isNone with
      | true => exact iteN (by decide) (q (by unfold partsD; rw [yes, e]; rfl) _ s12)
      | false =>
        refine iteP rfl ⟨_, rfl, rfl, by show 1 ≤ 1000; decide, flies1 ?_⟩
        have x := qe (by unfold partsD; rw [yes, e]; rfl)
        unfold partsN at x
        rw [if_pos yes] at x
        exact (x.same s12).now
abbrev s_check_modes : Stmt := top 30
abbrev N_check_modes : List Str := ["modes", "wrong"]
theorem sc_check_modes : FnScope N_check_modes ["modes"] (defScope s_check_modes) := ⟨rfl, rfl, rfl, by decide +kernel, rfl, by decide +kernel, by decide +kernel⟩
theorem ok_check_modes {f0 : Addr} (h : Has K mg "check_modes" s_check_modes ["modes"]) (g0 : mg "is_mode" = some (.ref f0)) (O_is_listing : Ok P w K mg base 1 "is_listing" ["value", "least", "most"] spListD) (O_first_wrong : Ok P w K mg base 5 "first_wrong" ["parts", "is_part"] (spFirstD f0 modeD))
    (XG : XRz P w K mg base "InvalidModes" CG 1 (sp1n "number" CG)) : OkX P w K mg base 6 "check_modes" ["modes"] (spChkParts modeD 4 CG) := by
  obtain ⟨f, fd, g, b, F⟩ := h
  refine ⟨f, fd, g, F.kp, b, F.okX sc_check_modes (fun vs H Q E h => ?_) (fun cdv A outer s H vs Q E hr h => ?_)⟩
  · obtain ⟨v, d, rfl, _⟩ := h
    rfl
  · obtain ⟨v, d, rfl, hd, sz, q, qe⟩ := h
    refine ⟨_, (pss_cons (ps_if (pt_not (pt_val (pe_cO O_is_listing (hr.mono (by decide)) pass0 rfl (pa_cons (pv 0) (pa_cons pe_int (pa_cons pe_int pa_nil))))))
        (pss_one (ps_raiseN XG (hr.mono (by decide)) rfl (takes_of rfl rfl rfl rfl) rfl (pa_cons pe_non pa_nil)))
        pss_nil)
      (pss_cons (ps_set (i := 1) sc_check_modes.nd rfl (.inl rfl) (pe_cO O_first_wrong (hr.mono (by decide)) pass0 rfl (pa_cons (pv 0) (pa_cons (pe_glob (v := .ref f0) rfl g0 rfl) pa_nil))))
      (pss_one (ps_if (pt_cmpR op_notN (pv 1) pe_non (nomark _))
        (pss_one (ps_raiseN XG (hr.mono (by decide)) rfl (takes_of rfl rfl rfl rfl) rfl (pa_cons (pv 1) pa_nil)))
        pss_nil)))), ?_⟩
    refine PureT.sqn (x := !listD d 1 4) (PureT.no fun Q q => ⟨_, rfl, v, d, _, _, rfl, hd, fun H1 s1 => ⟨_, rfl, q _ s1⟩⟩) (fun tt H1 s1 => ?_) (fun ff H1 s1 => ?_)
    · have no := no_tt tt
      refine ⟨rfl, by show 1 ≤ 1000; decide, flies1 ?_⟩
      have x := qe (by unfold partsD; rw [no]; rfl)
      unfold partsN at x
      rw [no, if_neg (by decide)] at x
      exact (x.same s1).now
    · have yes := no_ff ff
      have sq : isSeq d = true := (Bool.and_eq_true_iff.mp yes).1
      refine ⟨_, rfl, v, d, rfl, hd.fr (Fm.of s1), sq, sz.1, sz.2.2, fun H2 s2 => ?_⟩
      refine ⟨_, rfl, rfl, _, rfl, ?_⟩
      rw [atV_none]
      have s12 := s1.trans s2
      cases e : (wrongAt modeD (itemsD d) [] 0).isNone with
      | true => exact iteN (by decide) (q (by unfold partsD; rw [yes, e]; rfl) _ s12)
      | false =>
        refine iteP rfl ⟨_, rfl, rfl, by show 1 ≤ 1000; decide, flies1 ?_⟩
        have x := qe (by unfold partsD; rw [yes, e]; rfl)
        unfold partsN at x
        rw [if_pos yes] at x
        exact (x.same s12).now
end
/-! ### rows -/
section
variable {P : Program} {w : World} {K : PySem.W.Frag} {mg : Str → Option Value} {base : Heap} {aR CI : Addr}
def EX2 (C : Addr) (f : Str) (v : V) (g : Str) (u : V) (E : XK) (H : Hp) : Prop := ∀ H' dx, Same H H' → H' dx = none → E (.ref C) (some dx) (upd H' dx (.xd [(g, u), (f, v)]))
theorem EX2.same {C : Addr} {f g : Str} {v u : V} {E : XK} {H H1 : Hp} (x : EX2 C f v g u E H) (s : Same H H1) : EX2 C f v g u E H1 := fun H' dx s' n => x H' dx (s.trans s') n
theorem EX2.now {C : Addr} {f g : Str} {v u : V} {E : XK} {H : Hp} (x : EX2 C f v g u E H) : ∀ dx, H dx = none → E (.ref C) (some dx) (upd H dx (.xd [(g, u), (f, v)])) := fun dx n => x H dx (Same.refl _) n
def keyD (d : PyData) : PyData := .tuple [itD d 0, itD d 1]
def keyIn (k : PyData) (ks : List PyData) : Bool := ks.any fun z => PyData.eqv z k
def wrongRow (size : Int) (many : Nat) (zs : List Str) : List PyData → List PyData → Nat → Option Nat
  | [], ks, i => if keyIn (.tuple [.none, .none]) ks = true then none else some i
  | d :: ds, ks, i => if (!rowD d size many zs || keyIn (keyD d) ks) = true then some i else wrongRow size many zs ds (ks ++ [keyD d]) (i + 1)
/-- a key's part -/
def NI (d : PyData) : Prop := d = .none ∨ ∃ i, d = .int i
theorem optD_NI {d : PyData} {lo hi : Int} (h : optD d (betw d lo hi) = true) : NI d := by
  cases d <;> first | exact .inl rfl | exact .inr ⟨_, rfl⟩ | cases h
theorem rowD_NI {d : PyData} {size : Int} {many : Nat} {zs : List Str} (h : rowD d size many zs = true) : isTup d = true ∧ (itemsD d).length = 4 ∧ NI (itD d 0) ∧ NI (itD d 1) := by
  unfold rowD at h
  simp only [Bool.and_eq_true] at h
  obtain ⟨h1, h2, ⟨h3, h4⟩, _⟩ := h
  exact ⟨h1, of_decide_eq_true h2, optD_NI h3, optD_NI h4⟩
theorem NI.dt {d : PyData} (n : NI d) {Z Z' : Addr → Prop} {H H' : Hp} {v : V} (h : Dt Z H v d) : Dt Z' H' v d := by
  rcases n with rfl | ⟨i, rfl⟩
  · cases h
    exact .non
  · cases h
    exact .int i
theorem NI.lay {d : PyData} (n : NI d) : d.canLay0 = true := by
  rcases n with rfl | ⟨i, rfl⟩ <;> rfl
theorem lay_shp {ds : List PyData} (h : SeqAt.shaped (.list ds) = true) : PyData.canLayAll0 ds = true := by
  have c := PySem.SeqAt.canLay_of_shaped h
  simpa [PyData.canLay0] using c
theorem NI.shp {d : PyData} (n : NI d) : Shp 0 d := by
  rcases n with rfl | ⟨i, rfl⟩
  · exact shp_none
  · exact shp_int
theorem DtAll.snoc {Z : Addr → Prop} {H : Hp} {x : V} {e : PyData} (h : Dt Z H x e) : ∀ {xs : List V} {ds : List PyData}, DtAll Z H xs ds → DtAll Z H (xs ++ [x]) (ds ++ [e])
  | [], _, .nil => .cons h .nil
  | _ :: _, _, .cons a t => .cons a (DtAll.snoc h t)
def spChkRows (CI : Addr) : Sp := fun vs H Q E => ∃ md v d size many nm zs, vs = [md, v, .int size, .int ((many : Nat) : Int), .ref nm] ∧ Dt Z0 H v d ∧ isSeq d = true ∧ (itemsD d).length ≤ 1000 ∧ (∀ x ∈ itemsD d, Sz 2 x) ∧ H nm = some (.lst (zs.map V.str)) ∧
  (wrongRow size many zs (itemsD d) [] 0 = none → ∀ H', Same H H' → Q .non H') ∧ ∀ i, wrongRow size many zs (itemsD d) [] 0 = some i → EX2 CI "mode" md "number" (.int (i : Nat)) E H
abbrev s_check_rows : Stmt := top 31
abbrev N_check_rows : List Str := ["mode", "rows", "size", "many", "names", "keys", "at", "row"]
theorem sc_check_rows : FnScope N_check_rows ["mode", "rows", "size", "many", "names"] (defScope s_check_rows) := ⟨rfl, rfl, rfl, by decide +kernel, rfl, by decide +kernel, by decide +kernel⟩
theorem ok_check_rows (h : Has K mg "check_rows" s_check_rows ["mode", "rows", "size", "many", "names"]) (PT : PTx K mg aR) (O_is_row : Ok P w K mg base 4 "is_row" ["value", "size", "many", "names"] spRowD) (XI : XRz P w K mg base "InvalidRow" CI 2 (sp2n "mode" "number" CI)) :
    OkX P w K mg base 5 "check_rows" ["mode", "rows", "size", "many", "names"] (spChkRows CI) := by
  obtain ⟨f, fd, g, b, F⟩ := h
  have T := PT.T
  refine ⟨f, fd, g, F.kp, b, F.okX sc_check_rows (fun vs H Q E h => ?_) (fun cdv A outer s H vs Q E hr h => ?_)⟩
  · obtain ⟨md, v, d, size, many, nm, zs, rfl, _⟩ := h
    rfl
  · obtain ⟨md, v, d, size, many, nm, zs, rfl, hd, sq, few, sz, hn, q, qe⟩ := h
    obtain ⟨l, xs, rfl, dx, ha, _⟩ := hd.seq sq
    have hl := dx.len
    have hu : (cxOf (L2.CX P w) P w K mg base N_check_rows "check_rows" (defScope s_check_rows) f cdv A outer s H E).A.units + 65 < cLine := by
      have h1 := (hr.mono (show 1 ≤ 4 by decide)).in1.units
      exact Nat.lt_of_le_of_lt (Nat.le_of_eq (Nat.add_assoc _ 1 64).symm) h1
    refine ⟨_, (pss_cons (ps_set (i := 5) sc_check_rows.nd rfl (.inl rfl) (pe_lst pa_nil))
      (pss_cons (ps_for (passes_of rfl) rfl (pi_enumS (by rfl) T.enumerate (pa_cons (pv 1) pa_nil)) (pgT (n := 2) (by rfl) (pgs_cons (pg_name (i := 6) sc_check_rows.nd rfl (.inl rfl)) (pgs_cons (pg_name (i := 7) sc_check_rows.nd rfl (.inl rfl)) pgs_nil)))
        (pss_cons (ps_if (PW.pt (pw_or (pt_not (pt_val (pe_cO O_is_row (hr.mono (by decide)) pass0 rfl (pa_cons (pv 7) (pa_cons (pv 2) (pa_cons (pv 3) (pa_cons (pv 4) pa_nil))))))) (pw_or1 (pt_cmpR (op_inD hu) (pe_slice slt (pv 7) po_none (po_some pe_int)) (pv 5) (by rfl)))))
          (pss_one (ps_raiseN XI (hr.mono (by decide)) rfl (takes_of rfl rfl rfl rfl) rfl (pa_cons (pv 0) (pa_cons (pv 6) pa_nil))))
          pss_nil)
        (pss_one (ps_expr (pe_bm PySem.F.plainAttrs_list PySem.F.slot_list_append PySem.F.type_list_append mt_append (pv 5) (pa_cons (pe_slice slt (pv 7) po_none (po_some pe_int)) pa_nil))))))
      (pss_one (ps_if (pt_cmpR (op_notInD hu) (pe_tup (pa_cons pe_non (pa_cons pe_non pa_nil))) (pv 5) (by rfl))
        (pss_one (ps_raiseN XI (hr.mono (by decide)) rfl (takes_of rfl rfl rfl rfl) rfl (pa_cons (pv 0) (pa_cons (pe_callB lenT (by rfl) T.len bb_len (pa_cons (pv 1) pa_nil)) pa_nil))))
        pss_nil)))), ?_⟩
    refine ⟨by show 0 ≤ sizeLine; decide, fun D hD => ?_⟩
    obtain ⟨o, ho, at_l⟩ : ∃ o, (o = .lst xs ∨ o = .tup xs) ∧ H l = some o := ha.elim (fun h => ⟨_, .inl rfl, h⟩) fun h => ⟨_, .inr rfl, h⟩
    refine ⟨_, rfl, l, xs, o, rfl, ho, (Same.new hD) _ _ at_l, fun J wk => for_it wk (fun i σ H' => Same H H' ∧ ∃ (ks : List V) (kd : List PyData), ks.length = i ∧ H' D = some (.lst ks) ∧ DtAll (Zp D) H' ks kd ∧ (∀ k ∈ kd, Shp 1 k) ∧ wrongRow size many zs (itemsD d) [] 0 = wrongRow size many zs ((itemsD d).drop i) kd i ∧ ∃ v6 v7 : Option V, σ = [some md, some (.ref l), some (.int size), some (.int ((many : Nat) : Int)), some (.ref nm), some (.ref D), v6, v7])
      ⟨Same.new hD, [], [], rfl, upd_same, .nil, (fun k hk => by cases hk), rfl, none, none, rfl⟩ (fun i σ H' _ z => z.1 _ _ at_l) ?_ ?_⟩
    · rintro i x σ H1 H2 hi ⟨s1, ks, kd, ln, h1, dk, shp, ew, v6, v7, rfl⟩ ⟨T', x', y', rfl, hT, rfl, e1, e2⟩
      have e2 : xs[i]? = some y' := e2
      have e1 : some (V.int (i : Nat)) = some x' := e1
      obtain rfl := Option.some.inj e1
      obtain ⟨di, ei, dt⟩ := dx.get e2
      have s2 : Same H1 (upd H1 T' (.tup [.int (i : Nat), y'])) := Same.new hT
      have d2 : (upd H1 T' (.tup [.int (i : Nat), y'])) T' = some (.tup [.int (i : Nat), y']) := upd_same
      generalize upd H1 T' (.tup [.int (i : Nat), y']) = H2 at s2 d2 ⊢
      refine ⟨T', _, rfl, d2, rfl, _, _, rfl, _, _, rfl, rfl, ?_⟩
      have s12 := s1.trans s2
      have dt2 := dt.fr (Fm.of s12)
      have more : (itemsD d).drop i = di :: (itemsD d).drop (i + 1) := by
        obtain ⟨lt, e⟩ := List.getElem?_eq_some_iff.mp ei
        rw [List.drop_eq_getElem_cons lt, e]
      rw [more] at ew
      have z1 := sz di (List.mem_of_getElem? ei)
      dsimp only
      refine PureT.sqn (x := !rowD di size many zs || keyIn (keyD di) kd) (PureT.orc (PureT.no ?call) ?isin) (fun tt H3 s3 => ?ret) (fun ff H3 s3 => ?go)
      case call =>
        exact fun Q q => ⟨_, rfl, _, rfl, _, rfl, _, rfl, y', di, size, many, nm, zs, rfl, dt2, z1, s12 _ _ hn, fun H3 s3 => ⟨_, rfl, q _ s3⟩⟩
      case isin =>
        intro ok H3 s3
        obtain ⟨tu, l4, n0, n1⟩ := rowD_NI (no_ff ok)
        obtain ⟨a2, xs2, rfl, dx2, ha2, _, _⟩ := (dt2.fr (Fm.of s3)).tupOf tu
        obtain ⟨x0, x1, x2, x3, d0, d1, d2', d3, rfl, eds, h0, h1', h2, h3⟩ := four_dt dx2 l4
        have e0 : itD di 0 = d0 := by unfold itD; rw [eds]; rfl
        have e1 : itD di 1 = d1 := by unfold itD; rw [eds]; rfl
        rw [e0] at n0
        rw [e1] at n1
        have ek : keyD di = .tuple [d0, d1] := by unfold keyD; rw [e0, e1]
        intro Q q
        refine ⟨_, rfl, 2, rfl, a2, _, rfl, ha2, (fun h => absurd (show HT.sIx 4 4 (some 2) = 4 from h.2) (by decide)), fun p hp => ?_⟩
        have s4 : Same H3 (upd H3 p (.tup [x0, x1])) := Same.new hp
        have d4 : (upd H3 p (.tup [x0, x1])) p = some (.tup [x0, x1]) := upd_same
        show tVar 5 _ (upd H3 p (.tup [x0, x1])) _
        generalize upd H3 p (.tup [x0, x1]) = H4 at s4 d4 ⊢
        have s24 := (s2.trans s3).trans s4
        have dk4 : DtAll (Zp D) H4 ks kd := dk.fr (Fm.of s24)
        refine ⟨_, rfl, .tuple [d0, d1], kd, .tup (SqT.of d4) (.cons ((n0.dt (Z' := Z0) (H' := H4) h0).dp n0.lay) (.cons ((n1.dt (Z' := Z0) (H' := H4) h1').dp n1.lay) .nil)), .lst (SqL.of (s24 _ _ h1)) (dk4.dp' (lay_shp (shp_list shp).ok)), (shp_tup (n := 0) ?_).ok, (shp_list shp).ok, _, rfl, ?_⟩
        · intro z hz
          simp only [List.mem_cons, List.not_mem_nil, or_false] at hz
          rcases hz with rfl | rfl
          · exact n0.shp
          · exact n1.shp
        · rw [← ek]
          exact q _ s4
      case ret =>
        have x := qe i (by rw [ew, wrongRow, if_pos tt])
        exact ⟨_, rfl, _, rfl, rfl, by show 2 ≤ 1000; decide, flies2 (x.same (s12.trans s3)).now⟩
      case go =>
        obtain ⟨tu, l4, n0, n1⟩ := rowD_NI (no_ff (Bool.or_eq_false_iff.mp ff).1)
        obtain ⟨a2, xs2, rfl, dx2, ha2, _, _⟩ := (dt2.fr (Fm.of s3)).tupOf tu
        obtain ⟨x0, x1, x2, x3, d0, d1, d2', d3, rfl, eds, h0, h1', h2, h3⟩ := four_dt dx2 l4
        have e0 : itD di 0 = d0 := by unfold itD; rw [eds]; rfl
        have e1 : itD di 1 = d1 := by unfold itD; rw [eds]; rfl
        rw [e0] at n0
        rw [e1] at n1
        have ek : keyD di = .tuple [d0, d1] := by unfold keyD; rw [e0, e1]
        have hD3 := s3 _ _ (s2 _ _ h1)
        refine ⟨_, rfl, .inl ⟨rfl, _, SqL.of hD3⟩, _, rfl, 2, rfl, a2, _, rfl, ha2, (fun h => absurd (show HT.sIx 4 4 (some 2) = 4 from h.2) (by decide)), fun p hp => ?_⟩
        have s4 : Same H3 (upd H3 p (.tup [x0, x1])) := Same.new hp
        have d4 : (upd H3 p (.tup [x0, x1])) p = some (.tup [x0, x1]) := upd_same
        have s4 : Same H3 (upd H3 p (.tup (cutV [x0, x1, x2, x3] none (some 2)))) := s4
        have d4 : (upd H3 p (.tup (cutV [x0, x1, x2, x3] none (some 2)))) p = some (.tup [x0, x1]) := d4
        generalize upd H3 p (.tup (cutV [x0, x1, x2, x3] none (some 2))) = H4 at s4 d4 ⊢
        have s24 := (s2.trans s3).trans s4
        have hD4 := s24 _ _ h1
        have pD : p ≠ D := (ne_of_none hD3 hp).symm
        refine ⟨D, _, _, rfl, rfl, hD4, by rw [ln]; exact Nat.lt_of_lt_of_le (by omega : i < 1000) (by decide), ?_⟩
        have fr : Fm (Zp D) H4 (upd H4 D (.lst (ks ++ [.ref p]))) := fun b o e nb => by rw [upd_ne nb]; exact e
        refine ⟨fun b o e => ?_, ks ++ [.ref p], kd ++ [keyD di], by rw [List.length_append, ln]; rfl, upd_same, ?_, ?_, ?_, _, _, rfl⟩
        · rw [upd_ne (ne_of_none e hD)]
          exact s24 _ _ (s1 _ _ e)
        · rw [ek]
          exact DtAll.snoc (.tup (fr _ _ d4 pD) pD (.cons (n0.dt h0) (.cons (n1.dt h1') .nil))) ((dk.fr (Fm.of s24)).fr fr)
        · intro k hk
          rcases List.mem_append.mp hk with hk | hk
          · exact shp k hk
          · rw [List.mem_singleton.mp hk, ek]
            refine shp_tup (n := 0) fun z hz => ?_
            simp only [List.mem_cons, List.not_mem_nil, or_false] at hz
            rcases hz with rfl | rfl
            · exact n0.shp
            · exact n1.shp
        · rw [ew, wrongRow, if_neg (by rw [ff]; decide)]
    · rintro σ H1 ⟨s1, ks, kd, ln, h1, dk, shp, ew, v6, v7, rfl⟩
      rw [hl, List.drop_of_length_le (Nat.le_refl _), wrongRow] at ew
      refine ⟨by show 2 ≤ sizeLine; decide, fun p hp => ?_⟩
      have s2 : Same H1 (upd H1 p (.tup [.non, .non])) := Same.new hp
      have d2 : (upd H1 p (.tup [.non, .non])) p = some (.tup [.non, .non]) := upd_same
      generalize upd H1 p (.tup [.non, .non]) = H2 at s2 d2 ⊢
      have s12 := s1.trans s2
      refine ⟨_, rfl, .tuple [.none, .none], kd, .tup (SqT.of d2) (.cons .non (.cons .non .nil)), .lst (SqL.of (s2 _ _ h1)) ((dk.fr (Fm.of s2)).dp' (lay_shp (shp_list shp).ok)), by decide +kernel, (shp_list shp).ok, _, rfl, ?_⟩
      show if (!keyIn (.tuple [.none, .none]) kd) = true then _ else _
      cases e : keyIn (.tuple [.none, .none]) kd with
      | true =>
        rw [e, if_pos rfl] at ew
        exact iteN (by decide) (q ew _ s12)
      | false =>
        rw [e, if_neg (by decide)] at ew
        have x := qe _ ew
        refine iteP rfl ⟨_, rfl, _, rfl, l, xs, rfl, ha.elim (fun h => .inl (s12 _ _ h)) (fun h => .inr (s12 _ _ h)), rfl, by show 2 ≤ 1000; decide, flies2 ?_⟩
        rw [hl]
        exact (x.same s12).now
end
/-! ### ends -/
section
variable {P : Program} {w : World} {K : PySem.W.Frag} {mg : Str → Option Value} {base : Heap} {aR CE : Addr}
def iOf (d : PyData) : Int := match d with | .int i => i | _ => 0
/-- from the i-th on, each more than the one before -/
def incAt (ds : List PyData) (i : Nat) : Bool := (List.range (ds.length - 1 - i)).all fun j => decide (iOf (ds.getD (i + j) .none) < iOf (ds.getD (i + j + 1) .none))
def endsD (d : PyData) (n : Int) : Bool := isSeq d && ((itemsD d).all (fun x => remD x n) && incAt (itemsD d) 0)
theorem rem_int {d : PyData} {n : Int} (h : remD d n = true) : d = .int (iOf d) := by
  cases d <;> first | rfl | cases h
def spChkEnds (CE : Addr) : Sp := fun vs H Q E => ∃ v d n, vs = [v, .int n] ∧ Dt Z0 H v d ∧ (itemsD d).length ≤ 1000 ∧ (endsD d n = true → ∀ H', Same H H' → Q .non H') ∧ (endsD d n = false → EX1 CE "value" v E H)
theorem ixs {X : Cx} : IxR X (fun x y H Q => rIxl x y H Q ∨ rIxt x y H Q) := ixl.or ixt
theorem ix_any {H : Hp} {a : Addr} {xs : List V} {i : Int} {v : V} {Q : VK} (h : H a = some (.lst xs) ∨ H a = some (.tup xs)) (g : atI xs i = some v) (q : Q v H) : rIxl (.ref a) (.int i) H Q ∨ rIxt (.ref a) (.int i) H Q :=
  h.imp (fun h => ⟨a, xs, _, _, rfl, rfl, h, g, q⟩) fun h => ⟨a, xs, _, _, rfl, rfl, h, g, q⟩
theorem incAt_step {ds : List PyData} {i : Nat} (h : i < ds.length - 1) : incAt ds i = (decide (iOf (ds.getD i .none) < iOf (ds.getD (i + 1) .none)) && incAt ds (i + 1)) := by
  unfold incAt
  rw [show ds.length - 1 - i = (ds.length - 1 - (i + 1)) + 1 by omega, List.range_succ_eq_map, List.all_cons, List.all_map]
  congr 1
  refine congrArg _ (funext fun j => ?_)
  show decide _ = decide _
  rw [show i + (j + 1) = i + 1 + j by omega]
abbrev s_check_ends : Stmt := top 32
abbrev N_check_ends : List Str := ["ends", "size", "end", "at"]
theorem sc_check_ends : FnScope N_check_ends ["ends", "size"] (defScope s_check_ends) := ⟨rfl, rfl, rfl, by decide +kernel, rfl, by decide +kernel, by decide +kernel⟩
theorem ok_check_ends (h : Has K mg "check_ends" s_check_ends ["ends", "size"]) (PT : PTx K mg aR) (O_is_remainder : Ok P w K mg base 3 "is_remainder" ["value", "size"] spRemD) (XE : XRz P w K mg base "InvalidEnds" CE 1 (sp1n "value" CE)) :
    OkX P w K mg base 4 "check_ends" ["ends", "size"] (spChkEnds CE) := by
  obtain ⟨f, fd, g, b, F⟩ := h
  have T := PT.T
  refine ⟨f, fd, g, F.kp, b, F.okX sc_check_ends (fun vs H Q E h => ?_) (fun cdv A outer s H vs Q E hr h => ?_)⟩
  · obtain ⟨v, d, n, rfl, _⟩ := h
    rfl
  · obtain ⟨v, d, n, rfl, hd, few, q, qe⟩ := h
    refine ⟨_, (pss_cons (ps_if (PW.pt (pw_or (pt_not (pt_val (pe_callB call_isiT (by rfl) T.isinstance bb_isinstance (pa_cons (pv 0) (pa_cons (pe_tup (pa_cons (pe_bltn (v := .ty "list") (by rfl) T.list bb_list rfl) (pa_cons (pe_bltn (v := .ty "tuple") (by rfl) T.tuple bb_tuple rfl) pa_nil))) pa_nil))))) (pw_or1 (pt_not (pt_val (pe_callB (allT rfl) (by rfl) T.all bb_all (pa_cons (pe_lc (own := [("end", 2)]) (g := (gName 2)) (tt := tYes) rfl sc_check_ends.nd (pi_seq (pv 0)) (blkOk_by (N := N_check_ends) (sc := defScope s_check_ends) (by decide +kernel)) (fun _ _ _ _ _ => (pg_name (i := 2) sc_check_ends.nd rfl (by first | exact Or.inl rfl | exact Or.inr rfl))) (fun _ _ _ _ _ => pts_nil) (fun _ _ _ _ _ => (pe_cO O_is_remainder (hr.mono (by decide)) pass0 rfl (pa_cons (pv 2) (pa_cons (pv 1) pa_nil))))) pa_nil)))))))
        (pss_one (ps_raiseN XE (hr.mono (by decide)) rfl (takes_of rfl rfl rfl rfl) rfl (pa_cons (pv 0) pa_nil)))
        pss_nil)
      (pss_one (ps_for (passes_of rfl) rfl (pi_range2 (by rfl) T.range (pa_cons pe_int (pa_cons (pe_callB lenT (by rfl) T.len bb_len (pa_cons (pv 0) pa_nil)) pa_nil))) (pg_name (i := 3) sc_check_ends.nd rfl (.inl rfl))
        (pss_one (ps_if (pt_cmpR op_ge (pe_ix ixs (pv 0) (pe_op op_sub (pv 3) pe_int) (fun _ _ => rfl)) (pe_ix ixs (pv 0) (pv 3) (fun _ _ => rfl)) (nomark _))
          (pss_one (ps_raiseN XE (hr.mono (by decide)) rfl (takes_of rfl rfl rfl rfl) rfl (pa_cons (pv 0) pa_nil)))
          pss_nil))))), ?_⟩
    refine PureT.sqn (x := !isSeq d || !(itemsD d).all (fun x => remD x n)) (PureT.orc (PureT.no ?sq) ?al) (fun tt H1 s1 => ?no) (fun ff H1 s1 => ?go)
    case sq =>
      intro Q q
      refine ⟨_, rfl, (by show 2 ≤ sizeLine; decide), fun t ht => ?_⟩
      have s1 : Same H (upd H t (.tup [.ty "list", .ty "tuple"])) := Same.new ht
      have d1 := hd.fr (Fm.of s1)
      exact ⟨_, _, _, _, _, _, rfl, upd_same, pairedLT, d1.ty, d1.kSeq, _, rfl, q _ s1⟩
    case al =>
      intro sq H1 s1
      have d1 := hd.fr (Fm.of s1)
      obtain ⟨a, xs, rfl, dx, ha, _⟩ := d1.seq (no_ff sq)
      have hl := dx.len
      obtain ⟨o, ho, at_a⟩ : ∃ o, (o = .lst xs ∨ o = .tup xs) ∧ H1 a = some o := ha.elim (fun h => ⟨_, .inl rfl, h⟩) fun h => ⟨_, .inr rfl, h⟩
      refine PureT.no fun Q q => ⟨_, rfl, a, xs, o, rfl, ho, at_a, fun J wk D hD => ?_⟩
      refine lc_vals wk Z0 (fun _ => True) ((itemsD d).map fun d => V.bl (remD d n)) (by simp [hl]) hD id True.intro (fun _ _ _ _ => True.intro) (by rw [hl]; exact Nat.lt_of_le_of_lt few (by decide)) (fun H f => f _ _ at_a id) ?_ ?_
      · intro i x k H4 H5 Qk ek f _ _ y z
        obtain ⟨rfl, ex⟩ := y
        rw [List.getElem?_map] at ek
        obtain ⟨di, e1, rfl⟩ := Option.map_eq_some_iff.mp ek
        obtain ⟨d', e2, dt⟩ := dx.get ex
        rw [e1] at e2
        cases e2
        exact ⟨rfl, _, rfl, _, rfl, x, di, n, rfl, dt.fr f, z _ Fm.refl True.intro⟩
      · intro H4 f _ hD4
        refine ⟨D, (itemsD d).map fun x => remD x n, rfl, by rw [hD4, List.map_map]; rfl, ?_⟩
        refine ⟨_, rfl, ?_⟩
        rw [List.all_map]
        exact q H4 f.same
    case no =>
      refine ⟨_, rfl, rfl, by show 1 ≤ 1000; decide, flies1 ?_⟩
      have x := qe (by
        unfold endsD
        rcases Bool.or_eq_true_iff.mp tt with z | z
        · rw [no_tt z]; rfl
        · rw [no_tt z, Bool.false_and, Bool.and_false])
      exact (x.same s1).now
    case go =>
      obtain ⟨z1, z2⟩ := Bool.or_eq_false_iff.mp ff
      have sq := no_ff z1
      have al := no_ff z2
      have ed : endsD d n = incAt (itemsD d) 0 := by unfold endsD; rw [sq, al]; rfl
      rw [ed] at q qe
      have d1 := hd.fr (Fm.of s1)
      obtain ⟨a, xs, rfl, dx, ha, _⟩ := d1.seq sq
      have hl := dx.len
      have at_i : ∀ i, i < (itemsD d).length → xs[i]? = some (.int (iOf ((itemsD d).getD i .none))) := fun i hi => by
        have e : (itemsD d)[i]? = some ((itemsD d).getD i .none) := by rw [List.getD_eq_getElem?_getD, List.getElem?_eq_getElem hi]; rfl
        have r := rem_int (List.all_eq_true.mp al _ (List.mem_of_getElem? e))
        have hx : i < xs.length := by omega
        obtain ⟨d', e2, dt⟩ := dx.get (List.getElem?_eq_getElem hx)
        rw [e] at e2
        cases e2
        rw [r] at dt
        rw [List.getElem?_eq_getElem hx]
        generalize xs[i] = y at dt
        cases dt
        rfl
      refine ⟨_, rfl, a, xs, rfl, ha, 1, _, rfl, ⟨by decide, by decide, by omega, by omega⟩, for_range (n := ((xs.length : Int) - 1).toNat) (fun i σ H' => Same H1 H' ∧ (incAt (itemsD d) 0 = incAt (itemsD d) i) ∧ ∃ v2 v3 : Option V, σ = [some (.ref a), some (.int n), v2, v3]) ⟨Same.refl _, rfl, _, _, rfl⟩ ?_ ?_⟩
      · rintro i σ H2 hi ⟨s2, ei, v2, v3, rfl⟩
        have hi : i < (itemsD d).length - 1 := by omega
        rw [incAt_step hi] at ei
        have ha2 := ha.imp (s2 _ _) (s2 _ _)
        have g0 : atI xs ((1 + (i : Nat) : Int) - 1) = some (.int (iOf ((itemsD d).getD i .none))) := by
          rw [show (1 + (i : Nat) : Int) - 1 = ((i : Nat) : Int) by omega]
          exact atI_nat (at_i i (by omega))
        have g1 : atI xs (1 + (i : Nat) : Int) = some (.int (iOf ((itemsD d).getD (i + 1) .none))) := by
          rw [show (1 + (i : Nat) : Int) = ((i + 1 : Nat) : Int) by omega]
          exact atI_nat (at_i (i + 1) (by omega))
        refine ⟨_, rfl, _, rfl, _, _, rfl, rfl, ix_any ha2 g0 ⟨_, rfl, _, rfl, ix_any ha2 g1 ⟨_, _, rfl, rfl, _, rfl, ?_⟩⟩⟩
        by_cases c : iOf ((itemsD d).getD (i + 1) .none) ≤ iOf ((itemsD d).getD i .none)
        · refine iteP (decide_eq_true c) ⟨_, rfl, rfl, by show 1 ≤ 1000; decide, flies1 ?_⟩
          have x := qe (by rw [ei, decide_eq_false (show ¬ iOf ((itemsD d).getD i .none) < iOf ((itemsD d).getD (i + 1) .none) by omega)]; rfl)
          exact (x.same (s1.trans s2)).now
        · refine iteN (by rw [decide_eq_false c]; decide) ⟨s2, ?_, _, _, rfl⟩
          rw [ei, decide_eq_true (show iOf ((itemsD d).getD i .none) < iOf ((itemsD d).getD (i + 1) .none) by omega), Bool.true_and]
      · rintro σ H2 ⟨s2, ei, v2, v3, rfl⟩
        refine q ?_ _ (s1.trans s2)
        rw [ei]
        unfold incAt
        rw [show (itemsD d).length - 1 - ((xs.length : Int) - 1).toNat = 0 by omega]
        rfl
end
/-! ### the whole of a program's parts -/
section
variable {P : Program} {w : World} {K : PySem.W.Frag} {mg : Str → Option Value} {base : Heap} {aR CB CG CM CI CE CR : Addr}
theorem Sz.less : ∀ {n : Nat} {d : PyData}, Sz (n + 1) d → Sz n d
  | 0, _, h => ⟨h.1, h.2.1⟩
  | _ + 1, _, h => ⟨h.1, h.2.1, fun x hx => Sz.less (h.2.2 x hx)⟩
theorem Sz.mono {n m : Nat} {d : PyData} (h : Sz n d) (l : m ≤ n) : Sz m d := by
  induction n with
  | zero => rw [Nat.le_zero.mp l]; exact h
  | succ n ih =>
    rcases Nat.lt_or_ge m (n + 1) with z | z
    · exact ih h.less (by omega)
    · rw [Nat.le_antisymm l z]; exact h
theorem Sz.item {n : Nat} {d : PyData} (h : Sz (n + 1) d) (i : Nat) : Sz n (itD d i) := by
  unfold itD
  rw [List.getD_eq_getElem?_getD]
  cases e : (itemsD d)[i]? with
  | some x => exact h.2.2 x (List.mem_of_getElem? e)
  | none =>
    have z : ∀ n, Sz n .none := fun n => by
      induction n with
      | zero => exact ⟨by decide, fun s h => by cases h⟩
      | succ n ih => exact ⟨by decide, fun s h => (by cases h), fun x hx => by cases hx⟩
    exact z n
inductive PErr where
  | base | regs (n : V) | modes (n : V) | row (md : V) (i : Nat) | ends | result
def rowsErr (size : Int) (many : Nat) (zs : List Str) : List PyData → Option PErr
  | [] => none
  | d :: ds => match wrongRow size many zs (itemsD (itD d 2)) [] 0 with
    | some i => some (.row (.str (nmOf d)) i)
    | none => rowsErr size many zs ds
def sizeD (d : PyData) : Int := if iOf d < 0 then -iOf d else iOf d
def progErr (d0 d1 d2 d3 d4 : PyData) : Option PErr :=
  if baseD d0 = false then some .base else if partsD regD 3 d1 = false then some (.regs (partsN regD 3 d1)) else if partsD modeD 4 d2 = false then some (.modes (partsN modeD 4 d2)) else
  match rowsErr (sizeD d0) (itemsD d1).length ((itemsD d2).map nmOf) (itemsD d2) with
  | some e => some e
  | none => if endsD d3 (sizeD d0) = false then some .ends else if factD d4 ((itemsD d1).length + 1) = false then some .result else none
/-- what is raised of it -/
def PErr.flies (CB CG CM CI CE CR : Addr) (v0 v3 v4 : V) (E : XK) (H : Hp) : PErr → Prop
  | .base => EX1 CB "value" v0 E H
  | .regs n => EX1 CG "number" n E H
  | .modes n => EX1 CM "number" n E H
  | .row md i => EX2 CI "mode" md "number" (.int (i : Nat)) E H
  | .ends => EX1 CE "value" v3 E H
  | .result => EX1 CR "value" v4 E H
def spChkProg (CB CG CM CI CE CR : Addr) : Sp := fun vs H Q E => ∃ v0 v1 v2 v3 v4 d0 d1 d2 d3 d4, vs = [v0, v1, v2, v3, v4] ∧ Dt Z0 H v0 d0 ∧ Dt Z0 H v1 d1 ∧ Dt Z0 H v2 d2 ∧ Dt Z0 H v3 d3 ∧ Dt Z0 H v4 d4 ∧ Sz 2 d1 ∧ Sz 5 d2 ∧ (itemsD d3).length ≤ 1000 ∧ (itemsD d4).length ≤ 1000 ∧
  (progErr d0 d1 d2 d3 d4 = none → ∀ H', Same H H' → Q .non H') ∧ ∀ e, progErr d0 d1 d2 d3 d4 = some e → PErr.flies CB CG CM CI CE CR v0 v3 v4 E H e
theorem wrongAt_none {part : PyData → Bool} : ∀ {ds : List PyData} {ns : List Str} {i : Nat}, wrongAt part ds ns i = none → ∀ d ∈ ds, part d = true
  | [], _, _, _, _, h => by cases h
  | d :: ds, ns, i, e, x, h => by
    rw [wrongAt] at e
    split at e
    · cases e
    · rename_i c
      have c := Bool.or_eq_false_iff.mp (Bool.eq_false_iff.mpr c)
      rcases List.mem_cons.mp h with rfl | h
      · exact no_ff c.1
      · exact wrongAt_none e x h
theorem partsD_all {part : PyData → Bool} {hi : Int} {d : PyData} (h : partsD part hi d = true) : isSeq d = true ∧ ((itemsD d).length : Int) ≤ hi ∧ ∀ x ∈ itemsD d, part x = true := by
  unfold partsD listD at h
  simp only [Bool.and_eq_true] at h
  obtain ⟨⟨h1, h2, h3⟩, h4⟩ := h
  exact ⟨h1, of_decide_eq_true h3, wrongAt_none (Option.isNone_iff_eq_none.mp h4)⟩
theorem modeD_parts {d : PyData} (h : modeD d = true) : isTup d = true ∧ (itemsD d).length = 3 ∧ (∃ s, itD d 0 = .str s ∧ nmOf d = s) ∧ isSeq (itD d 2) = true := by
  unfold modeD at h
  simp only [Bool.and_eq_true] at h
  obtain ⟨h1, h2, h3, h4, h5⟩ := h
  refine ⟨h1, of_decide_eq_true h2, ?_, h5⟩
  cases d <;> first | cases h1 | skip
  rename_i ds
  have l : ds.length = 3 := of_decide_eq_true h2
  match ds, l with
  | [a, b, c], _ =>
    cases a <;> first | cases h3 | exact ⟨_, rfl, rfl⟩
abbrev s_check_program : Stmt := top 33
abbrev N_check_program : List Str := ["base", "registers", "modes", "ends", "result", "size", "names", "mode", "name", "_", "rows"]
theorem sc_check_program : FnScope N_check_program ["base", "registers", "modes", "ends", "result"] (defScope s_check_program) := ⟨rfl, rfl, rfl, by decide +kernel, rfl, by decide +kernel, by decide +kernel⟩
theorem ok_check_program (h : Has K mg "check_program" s_check_program ["base", "registers", "modes", "ends", "result"]) (PT : PTx K mg aR) (O_is_base : Ok P w K mg base 3 "is_base" ["value"] spBaseD)
    (O_check_registers : OkX P w K mg base 6 "check_registers" ["registers"] (spChkParts regD 3 CG)) (O_check_modes : OkX P w K mg base 6 "check_modes" ["modes"] (spChkParts modeD 4 CM)) (O_check_rows : OkX P w K mg base 5 "check_rows" ["mode", "rows", "size", "many", "names"] (spChkRows CI))
    (O_check_ends : OkX P w K mg base 4 "check_ends" ["ends", "size"] (spChkEnds CE)) (O_is_factors : Ok P w K mg base 3 "is_factors" ["value", "many"] spFactD) (XB : XRz P w K mg base "InvalidBase" CB 1 (sp1n "value" CB)) (XR : XRz P w K mg base "InvalidResult" CR 1 (sp1n "value" CR)) :
    OkX P w K mg base 7 "check_program" ["base", "registers", "modes", "ends", "result"] (spChkProg CB CG CM CI CE CR) := by
  obtain ⟨f, fd, g, b, F⟩ := h
  have T := PT.T
  refine ⟨f, fd, g, F.kp, b, F.okX sc_check_program (fun vs H Q E h => ?_) (fun cdv A outer s H vs Q E hr h => ?_)⟩
  · obtain ⟨v0, v1, v2, v3, v4, d0, d1, d2, d3, d4, rfl, _⟩ := h
    rfl
  · obtain ⟨v0, v1, v2, v3, v4, d0, d1, d2, d3, d4, rfl, h0, h1, h2, h3, h4, z1, z2, z3, z4, q, qe⟩ := h
    have pE : Passes (L2.CX P w) (cxOf (L2.CX P w) P w K mg base N_check_program "check_program" (defScope s_check_program) f cdv A outer s H E) E := passes_call (takes_of rfl rfl rfl rfl) (fun _ _ _ _ z => z)
    refine ⟨_, (pss_cons (ps_if (pt_not (pt_val (pe_cO O_is_base (hr.mono (by decide)) pass0 rfl (pa_cons (pv 0) pa_nil))))
        (pss_one (ps_raiseN XB (hr.mono (by decide)) rfl (takes_of rfl rfl rfl rfl) rfl (pa_cons (pv 0) pa_nil)))
        pss_nil)
      (pss_cons (ps_set (i := 5) sc_check_program.nd rfl (.inl rfl) (pe_callB call_abs (by rfl) T.abs bb_abs (pa_cons (pv 0) pa_nil)))
      (pss_cons (ps_expr (pe_cX O_check_registers (hr.mono (by decide)) pE rfl (pa_cons (pv 1) pa_nil)))
      (pss_cons (ps_expr (pe_cX O_check_modes (hr.mono (by decide)) pE rfl (pa_cons (pv 2) pa_nil)))
      (pss_cons (ps_setLc (i := 6) (own := [("mode", 7)]) (g := (gName 7)) (tt := tYes) rfl sc_check_program.nd rfl rfl (sw_true rfl rfl rfl (by decide +kernel)) (pi_seq (pv 2)) (blkOk_by (N := N_check_program) (sc := defScope s_check_program) (by decide +kernel)) (fun _ _ _ _ _ => (pg_name (i := 7) sc_check_program.nd rfl (by first | exact Or.inl rfl | exact Or.inr rfl))) (fun _ _ _ _ _ => pts_nil) (fun _ _ _ _ _ => (pe_ix ixt (pv 7) pe_int (fun _ _ => rfl))))
      (pss_cons (ps_for (passes_of rfl) rfl (pi_seq (pv 2)) (pgT (n := 3) (by rfl) (pgs_cons (pg_name (i := 8) sc_check_program.nd rfl (.inl rfl)) (pgs_cons (pg_name (i := 9) sc_check_program.nd rfl (.inl rfl)) (pgs_cons (pg_name (i := 10) sc_check_program.nd rfl (.inl rfl)) pgs_nil))))
        (pss_one (ps_expr (pe_cX O_check_rows (hr.mono (by decide)) pE rfl (pa_cons (pv 8) (pa_cons (pv 10) (pa_cons (pv 5) (pa_cons (pe_callB lenT (by rfl) T.len bb_len (pa_cons (pv 1) pa_nil)) (pa_cons (pv 6) pa_nil)))))))))
      (pss_cons (ps_expr (pe_cX O_check_ends (hr.mono (by decide)) pE rfl (pa_cons (pv 3) (pa_cons (pv 5) pa_nil))))
      (pss_one (ps_if (pt_not (pt_val (pe_cO O_is_factors (hr.mono (by decide)) pass0 rfl (pa_cons (pv 4) (pa_cons (pe_op op_add (pe_callB lenT (by rfl) T.len bb_len (pa_cons (pv 1) pa_nil)) pe_int) pa_nil)))))
        (pss_one (ps_raiseN XR (hr.mono (by decide)) rfl (takes_of rfl rfl rfl rfl) rfl (pa_cons (pv 4) pa_nil)))
        pss_nil))))))))), ?_⟩
    unfold progErr at q qe
    refine PureT.sqn (x := !baseD d0) (PureT.no fun Q q => ⟨_, rfl, v0, d0, rfl, h0, _, rfl, q _ (Same.refl _)⟩) (fun tt H1 s1 => ?_) (fun ff H1 s1 => ?_)
    · have x := qe .base (by rw [if_pos (no_tt tt)])
      exact ⟨_, rfl, rfl, by show 1 ≤ 1000; decide, flies1 (EX1.same x s1).now⟩
    · have bs := no_ff ff
      rw [if_neg (by rw [bs]; decide)] at q qe
      obtain ⟨bi, rfl⟩ : ∃ bi, d0 = .int bi := by
        cases d0 <;> first | exact ⟨_, rfl⟩ | cases bs
      cases h0
      refine ⟨_, rfl, bi, rfl, ?_⟩
      cases e1 : partsD regD 3 d1 with
      | false =>
        have x := qe (.regs (partsN regD 3 d1)) (by rw [if_pos e1])
        exact ⟨_, rfl, v1, d1, rfl, h1.fr (Fm.of s1), z1, (fun h => by rw [e1] at h; cases h), fun _ => EX1.same x s1⟩
      | true =>
      rw [if_neg (by rw [e1]; decide)] at q qe
      refine ⟨_, rfl, v1, d1, rfl, h1.fr (Fm.of s1), z1, (fun _ H2 s2 => ?_), fun h => by rw [e1] at h; cases h⟩
      have s12 := s1.trans s2
      cases e2 : partsD modeD 4 d2 with
      | false =>
        have x := qe (.modes (partsN modeD 4 d2)) (by rw [if_pos e2])
        exact ⟨_, rfl, v2, d2, rfl, h2.fr (Fm.of s12), z2.mono (by decide), (fun h => by rw [e2] at h; cases h), fun _ => EX1.same x s12⟩
      | true =>
      rw [if_neg (by rw [e2]; decide)] at q qe
      refine ⟨_, rfl, v2, d2, rfl, h2.fr (Fm.of s12), z2.mono (by decide), (fun _ H3 s3 => ?_), fun h => by rw [e2] at h; cases h⟩
      have s13 := s12.trans s3
      obtain ⟨sq2, m4, all2⟩ := partsD_all e2
      obtain ⟨sq1, _, _⟩ := partsD_all e1
      obtain ⟨l2, xs2, rfl, dx2, ha2, _⟩ := (h2.fr (Fm.of s13)).seq sq2
      have hl2 := dx2.len
      obtain ⟨o2, ho2, at2⟩ : ∃ o, (o = .lst xs2 ∨ o = .tup xs2) ∧ H3 l2 = some o := ha2.elim (fun h => ⟨_, .inl rfl, h⟩) fun h => ⟨_, .inr rfl, h⟩
      refine ⟨_, rfl, l2, xs2, o2, rfl, ho2, at2, fun J wk D hD => ?_⟩
      refine lc_vals wk Z0 (fun _ => True) (((itemsD d2).map nmOf).map V.str) (by simp [hl2]) hD id True.intro (fun _ _ _ _ => True.intro) (by rw [hl2]; exact Nat.lt_of_le_of_lt z2.1 (by decide)) (fun H f => f _ _ at2 id) ?_ ?_
      · intro i x k H4 H5 Qk ek f _ _ y z
        obtain ⟨rfl, ex⟩ := y
        rw [List.map_map, List.getElem?_map] at ek
        obtain ⟨di, e3, rfl⟩ := Option.map_eq_some_iff.mp ek
        obtain ⟨d', e4, dt⟩ := dx2.get ex
        rw [e3] at e4
        cases e4
        obtain ⟨t1, t2, ⟨nm, t3, t4⟩, t5⟩ := modeD_parts (all2 di (List.mem_of_getElem? e3))
        obtain ⟨a, ys, rfl, dy, ha, _, _⟩ := (dt.fr f).tupOf t1
        obtain ⟨y0, y1, y2, g0, g1, g2, rfl, eds, k0, k1, k2⟩ := three_dt dy t2
        have eg : g0 = .str nm := by rw [← t3]; unfold itD; rw [eds]; rfl
        subst eg
        cases k0
        refine ⟨rfl, _, rfl, a, _, 0, _, rfl, rfl, ha, atI0, ?_⟩
        rw [show (V.str ∘ nmOf) di = V.str nm from congrArg V.str t4] at z
        exact z _ Fm.refl True.intro
      · intro H4 f _ hD4
        have s14 := s13.trans f.same
        obtain ⟨l1, xs1, rfl, dx1, ha1, _⟩ := (h1.fr (Fm.of s14)).seq sq1
        have hl1 := dx1.len
        have at4 := f _ _ at2 id
        have sz0 : sizeD (.int bi) = (if bi < 0 then -bi else bi) := rfl
        refine ⟨_, rfl, l2, xs2, o2, rfl, ho2, at4, fun J wk => for_it wk (fun i σ H' => Same H4 H' ∧ rowsErr (sizeD (.int bi)) (itemsD d1).length ((itemsD d2).map nmOf) (itemsD d2) = rowsErr (sizeD (.int bi)) (itemsD d1).length ((itemsD d2).map nmOf) ((itemsD d2).drop i) ∧
          ∃ w7 w8 w9 w10 : Option V, σ = [some (.int bi), some (.ref l1), some (.ref l2), some v3, some v4, some (.int (if bi < 0 then -bi else bi)), some (.ref D), w7, w8, w9, w10]) ⟨Same.refl _, rfl, none, none, none, none, rfl⟩ (fun i σ H' _ z => z.1 _ _ at4) ?_ ?_⟩
        · rintro i x σ H5 H6 hi ⟨s5, er, w7, w8, w9, w10, rfl⟩ ⟨rfl, ex⟩
          obtain ⟨di, ei, dt⟩ := (dx2.fr (f.trans (Fm.of s5))).get ex
          obtain ⟨t1, t2, ⟨nm, t3, t4⟩, t5⟩ := modeD_parts (all2 di (List.mem_of_getElem? ei))
          obtain ⟨a, ys, rfl, dy, ha, _, _⟩ := dt.tupOf t1
          obtain ⟨y0, y1, y2, g0, g1, g2, rfl, eds, k0, k1, k2⟩ := three_dt dy t2
          have eg : g0 = .str nm := by rw [← t3]; unfold itD; rw [eds]; rfl
          have eg2 : itD di 2 = g2 := by unfold itD; rw [eds]; rfl
          subst eg
          cases k0
          have zi : Sz 4 di := z2.2.2 di (List.mem_of_getElem? ei)
          have zr : Sz 3 g2 := eg2 ▸ zi.item 2
          have more : (itemsD d2).drop i = di :: (itemsD d2).drop (i + 1) := by
            obtain ⟨lt, e⟩ := List.getElem?_eq_some_iff.mp ei
            rw [List.drop_eq_getElem_cons lt, e]
          rw [more, rowsErr, eg2, t4] at er
          refine ⟨a, _, rfl, ha, rfl, _, _, rfl, _, _, rfl, _, _, rfl, rfl, ?_⟩
          refine ⟨_, rfl, _, rfl, _, rfl, _, rfl, l1, xs1, rfl, ha1.imp (s5 _ _) (s5 _ _), _, rfl, .str nm, y2, g2, (if bi < 0 then -bi else bi), (itemsD d1).length, D, (itemsD d2).map nmOf, (by rw [hl1]; rfl), k2, by rw [← eg2]; exact t5, zr.1, zr.2.2, s5 _ _ hD4, fun ok H7 s7 => ?_, fun j ej => ?_⟩
          · refine ⟨s5.trans s7, ?_, _, _, _, _, rfl⟩
            rw [er, sz0, ok]
          · have x := qe (.row (.str nm) j) (by rw [er, sz0, ej])
            exact EX2.same x (s14.trans s5)
        · rintro σ H5 ⟨s5, er, w7, w8, w9, w10, rfl⟩
          rw [hl2, List.drop_of_length_le (Nat.le_refl _), rowsErr] at er
          rw [er] at q qe
          have s15 := s14.trans s5
          dsimp only at q qe
          cases e3 : endsD d3 (sizeD (.int bi)) with
          | false =>
            have x := qe .ends (by rw [if_pos e3])
            exact ⟨_, rfl, _, rfl, v3, d3, _, rfl, h3.fr (Fm.of s15), z3, (fun h => by rw [← sz0, e3] at h; cases h), fun _ => EX1.same x s15⟩
          | true =>
            rw [if_neg (by rw [e3]; decide)] at q qe
            refine ⟨_, rfl, _, rfl, v3, d3, _, rfl, h3.fr (Fm.of s15), z3, (fun _ H6 s6 => ?_), fun h => by rw [← sz0, e3] at h; cases h⟩
            have s16 := s15.trans s6
            dsimp only
            refine PureT.ifs (x := !factD d4 ((itemsD d1).length + 1)) (PureT.no fun Q q => ⟨_, rfl, _, rfl, l1, xs1, rfl, ha1.imp ((s5.trans s6) _ _) ((s5.trans s6) _ _), _, _, rfl, rfl, v4, d4, _, rfl, h4.fr (Fm.of s16), z4, fun H7 s7 => ⟨_, rfl, by rw [hl1]; exact q _ s7⟩⟩) (fun tt H7 s7 => ?_) (fun ff H7 s7 => ?_)
            · have x := qe .result (by rw [if_pos (no_tt tt)])
              exact ⟨_, rfl, rfl, by show 1 ≤ 1000; decide, flies1 (EX1.same x (s16.trans s7)).now⟩
            · exact q (by rw [if_neg (by rw [no_ff ff]; decide)]) _ (s16.trans s7)
end
/-! ### tables -/
section
variable {P : Program} {w : World} {K : PySem.W.Frag} {mg : Str → Option Value} {base : Heap} {aR : Addr}
def leafD : PyData → Leaf
  | .int i => .num i
  | .str s => .text s
  | _ => .none
def keyL (d : PyData) : List Leaf := [leafD (itD d 0), leafD (itD d 1)]
def valD (d : PyData) : PyData := .tuple [itD d 2, itD d 3]
/-- a row that can be told -/
def RowS (d : PyData) : Prop := isTup d = true ∧ (itemsD d).length = 4 ∧ NI (itD d 0) ∧ NI (itD d 1)
def entOk (Z : Addr → Prop) (H : Hp) (r : PyData) (x : List Leaf × Addr × V) : Prop := x.1 = keyL r ∧ Dt Z H x.2.2 (valD r)
/-- the table of the rows rs stands at D -/
def TabR (P : Program) (w : World) (H : Hp) (D : Addr) (rs : List PyData) : Prop := ∃ kbs : Ents, Tab P w H D kbs ∧ Paired (entOk Z0 H) rs kbs
theorem paired_snoc {α β : Type} {F : α → β → Prop} {x : α} {y : β} (z : F x y) : ∀ {l : List α} {m : List β}, Paired F l m → Paired F (l ++ [x]) (m ++ [y])
  | _, _, .nil => .cons z .nil
  | _, _, .cons h t => .cons h (paired_snoc z t)
theorem paired_len {α β : Type} {F : α → β → Prop} : ∀ {l : List α} {m : List β}, Paired F l m → l.length = m.length
  | _, _, .nil => rfl
  | _, _, .cons _ t => congrArg (· + 1) (paired_len t)
theorem paired_keys {Z : Addr → Prop} {H : Hp} : ∀ {rs : List PyData} {kbs : Ents}, Paired (entOk Z H) rs kbs → kbs.map (·.1) = rs.map keyL
  | _, _, .nil => rfl
  | _, _, .cons h t => by rw [List.map_cons, List.map_cons, h.1, paired_keys t]
theorem TabR.same {H H' : Hp} {D : Addr} {rs : List PyData} (t : TabR P w H D rs) (s : Same H H') : TabR P w H' D rs := by
  obtain ⟨kbs, a, b⟩ := t
  exact ⟨kbs, a.same s, L2.Paired.mapP b fun p q z => ⟨z.1, z.2.fr (Fm.of s)⟩⟩
theorem NI.lV {d : PyData} (n : NI d) {Z : Addr → Prop} {H : Hp} {v : V} (h : Dt Z H v d) : v = lV (leafD d) := by
  rcases n with rfl | ⟨i, rfl⟩ <;> (cases h; rfl)
def spTable (P : Program) (w : World) : Sp := fun vs H Q _ => ∃ v d, vs = [v] ∧ Dt Z0 H v d ∧ isSeq d = true ∧ (itemsD d).length ≤ 1000 ∧ (∀ x ∈ itemsD d, RowS x) ∧ ((itemsD d).map keyL).Nodup ∧ ∀ H' D, Same H H' → H D = none → TabR P w H' D (itemsD d) → Q (.ref D) H'
abbrev s_table_of : Stmt := top 38
abbrev N_table_of : List Str := ["rows", "sign", "remainder", "updates", "then"]
theorem sc_table_of : FnScope N_table_of ["rows"] (defScope s_table_of) := ⟨rfl, rfl, rfl, by decide +kernel, rfl, by decide +kernel, by decide +kernel⟩
theorem ok_table_of (h : Has K mg "table_of" s_table_of ["rows"]) : Ok P w K mg base 1 "table_of" ["rows"] (spTable P w) := by
  obtain ⟨f, fd, g, b, F⟩ := h
  refine ⟨f, fd, g, F.kp, b, F.ok sc_table_of (fun vs H Q E h => ?_) (fun cdv A outer s H vs Q E hr h => ?_)⟩
  · obtain ⟨v, d, rfl, _⟩ := h
    rfl
  · obtain ⟨v, d, rfl, hd, sq, few, rows, nod, q⟩ := h
    have un : (cxOf CX0 P w K mg base N_table_of "table_of" (defScope s_table_of) f cdv A outer s H E).nox.A.units < cLine := Nat.lt_of_le_of_lt (Nat.le_add_right _ _) hr.units
    obtain ⟨l, xs, rfl, dx, ha, _⟩ := hd.seq sq
    have hl := dx.len
    obtain ⟨o, ho, at_l⟩ : ∃ o, (o = .lst xs ∨ o = .tup xs) ∧ H l = some o := ha.elim (fun h => ⟨_, .inl rfl, h⟩) fun h => ⟨_, .inr rfl, h⟩
    refine ⟨_, pss_one (ps_ret (pe_dcT (own := [("sign", 1), ("remainder", 2), ("updates", 3), ("then", 4)]) (g := gTupT 4 (gCons (gName 1) (gCons (gName 2) (gCons (gName 3) (gCons (gName 4) gNil))))) un rfl sc_table_of.nd (pi_seq (pv 0)) (blkOk_by (N := N_table_of) (sc := defScope s_table_of) (by decide +kernel))
      (fun _ _ _ _ _ => pgT (n := 4) (by rfl) (pgs_cons (pg_name (i := 1) sc_table_of.nd rfl (by first | exact Or.inl rfl | exact Or.inr rfl)) (pgs_cons (pg_name (i := 2) sc_table_of.nd rfl (by first | exact Or.inl rfl | exact Or.inr rfl)) (pgs_cons (pg_name (i := 3) sc_table_of.nd rfl (by first | exact Or.inl rfl | exact Or.inr rfl)) (pgs_cons (pg_name (i := 4) sc_table_of.nd rfl (by first | exact Or.inl rfl | exact Or.inr rfl)) pgs_nil)))))
      (fun _ _ _ _ _ => pe_tup (pa_cons (pv 1) (pa_cons (pv 2) pa_nil))) (fun _ _ _ _ _ => pe_tup (pa_cons (pv 3) (pa_cons (pv 4) pa_nil))))), ?_⟩
    refine ⟨_, rfl, l, xs, o, rfl, ho, at_l, fun J wk D hD => ?_⟩
    refine dc_it wk (fun i H' => Fm (Zp D) H H' ∧ ∃ kbs : Ents, Tab P w H' D kbs ∧ Paired (entOk (Zu Z0 D) H') ((itemsD d).take i) kbs) ⟨fun b o e n => by rw [upd_ne n]; exact e, [], ⟨upd_same, fun x hx => by cases hx⟩, .nil⟩ (fun i H' z => z.1 _ _ at_l (ne_of_none at_l hD)) ?_ ?_
    · rintro i x H1 H2 hi ⟨f1, kbs, tb, pr⟩ ⟨rfl, ex⟩
      have s1 : Same H H2 := fun b o e => f1 b o e (ne_of_none e hD)
      obtain ⟨di, ei, dt⟩ := dx.get ex
      have li : i < (itemsD d).length := (List.getElem?_eq_some_iff.mp ei).1
      obtain ⟨tu, l4, n0, n1⟩ := rows di (List.mem_of_getElem? ei)
      obtain ⟨a, ys, rfl, dy, hay, _, _⟩ := dt.tupOf tu
      obtain ⟨x0, x1, x2, x3, d0, d1, d2, d3, rfl, eds, h0, h1, h2, h3⟩ := four_dt dy l4
      have e0 : itD di 0 = d0 := by unfold itD; rw [eds]; rfl
      have e1 : itD di 1 = d1 := by unfold itD; rw [eds]; rfl
      have e2 : itD di 2 = d2 := by unfold itD; rw [eds]; rfl
      have e3 : itD di 3 = d3 := by unfold itD; rw [eds]; rfl
      rw [e0] at n0
      rw [e1] at n1
      have kl : keyL di = [leafD d0, leafD d1] := by unfold keyL; rw [e0, e1]
      have vl : valD di = .tuple [d2, d3] := by unfold valD; rw [e2, e3]
      refine ⟨a, _, rfl, s1 _ _ hay, rfl, _, _, rfl, _, _, rfl, _, _, rfl, _, _, rfl, rfl, rfl, ?_⟩
      refine ⟨_, rfl, _, rfl, by show 2 ≤ sizeLine; decide, fun kt nk => ?_⟩
      have s2 : Same H2 (upd H2 kt (.tup [x0, x1])) := Same.new nk
      have k2 : (upd H2 kt (.tup [x0, x1])) kt = some (.tup [x0, x1]) := upd_same
      show tCons _ _ _ (upd H2 kt (.tup [x0, x1])) _
      generalize upd H2 kt (.tup [x0, x1]) = H3 at s2 k2 ⊢
      refine ⟨_, rfl, _, rfl, by show 2 ≤ sizeLine; decide, fun vt nv => ?_⟩
      have s3 : Same H3 (upd H3 vt (.tup [x2, x3])) := Same.new nv
      have v3 : (upd H3 vt (.tup [x2, x3])) vt = some (.tup [x2, x3]) := upd_same
      generalize upd H3 vt (.tup [x2, x3]) = H4 at s3 v3 ⊢
      have s24 := s2.trans s3
      have tb4 := tb.same s24
      have dD : H4 D = some (dObj P w D kbs) := tb4.1
      have fr : Fm (Zu Z0 D) H4 (upd H4 D (dObj P w D (kbs ++ [([leafD d0, leafD d1], kt, .ref vt)]))) := Fm.at_zu
      have apart : ∀ {b : Addr} {ws : List V}, H4 b = some (.tup ws) → b ≠ D := fun {b ws} e m => by
        rw [m, dD] at e
        cases e
      refine ⟨_, ⟨kbs, [leafD d0, leafD d1], kt, rfl, ?_, tb4, ?_, ?_, rfl⟩, fun b o e nb => ?_, kbs ++ [([leafD d0, leafD d1], kt, .ref vt)], ⟨upd_same, fun x hx => ?_⟩, ?_⟩
      · show H4 kt = some (.tup [lV (leafD d0), lV (leafD d1)])
        rw [s3 _ _ k2, n0.lV h0, n1.lV h1]
      · rw [paired_keys pr, ← kl]
        have sp : itemsD d = (itemsD d).take i ++ di :: (itemsD d).drop (i + 1) := by
          obtain ⟨lt, e⟩ := List.getElem?_eq_some_iff.mp ei
          rw [← e, ← List.drop_eq_getElem_cons lt, List.take_append_drop]
        rw [sp, List.map_append, List.nodup_append] at nod
        exact fun m => nod.2.2 _ m _ List.mem_cons_self rfl
      · rw [← paired_len pr, List.length_take]
        exact Nat.lt_of_le_of_lt (by omega : min i (itemsD d).length ≤ 1000) (by decide)
      · rw [upd_ne nb]
        exact s24 _ _ (f1 _ _ e nb)
      · rcases List.mem_append.mp hx with hx | hx
        · have e := tb4.2 x hx
          rw [upd_ne (apart e)]
          exact e
        · rw [List.mem_singleton.mp hx]
          have e : H4 kt = some (.tup [lV (leafD d0), lV (leafD d1)]) := by rw [s3 _ _ k2, n0.lV h0, n1.lV h1]
          show upd H4 D _ kt = _
          rw [upd_ne (apart e)]
          exact e
      · rw [List.take_succ, ei]
        have g2 := ((h2.fr (Fm.of (s1.trans s24))))
        have g3 := ((h3.fr (Fm.of (s1.trans s24))))
        have vv : Dt (Zu Z0 D) H4 (.ref vt) (valD di) := by
          rw [vl]
          exact .tup v3 (zu_ne id (apart v3)) (.cons ((h2.off hD).fr (Fm.zu (Fm.of (s1.trans s24)))) (.cons ((h3.off hD).fr (Fm.zu (Fm.of (s1.trans s24)))) .nil))
        exact paired_snoc ⟨kl.symm, vv.fr fr⟩ (L2.Paired.mapP pr fun p q z => ⟨z.1, (z.2.fr (Fm.zu (Fm.of s24))).fr fr⟩)
    · rintro H1 ⟨f1, kbs, tb, pr⟩
      have s1 : Same H H1 := fun b o e => f1 b o e (ne_of_none e hD)
      rw [hl, List.take_length] at pr
      exact q H1 D s1 hD ⟨kbs, tb, L2.Paired.mapP pr fun p q z => ⟨z.1, z.2.un⟩⟩
end
/-! ### programs -/
section
variable {P : Program} {w : World} {K : PySem.W.Frag} {mg : Str → Option Value} {base : Heap} {aR CB CG CM CI CE CR CP : Addr}
theorem inV_strs {s : Str} : ∀ {ns : List Str}, inV (.str s) (ns.map V.str) = false → s ∉ ns
  | [], _ => fun h => by cases h
  | n :: ns, e => by
    intro h
    unfold inV at e
    rw [List.map_cons, List.any_cons] at e
    obtain ⟨e1, e2⟩ := Bool.or_eq_false_iff.mp e
    rcases List.mem_cons.mp h with rfl | h
    · exact absurd e1 (by unfold eqV; simp)
    · exact inV_strs (s := s) (ns := ns) (by unfold inV; exact e2) h
theorem wrongAt_nodup {part : PyData → Bool} : ∀ {ds : List PyData} {ns : List Str} {i : Nat}, wrongAt part ds ns i = none → ns.Nodup → (ns ++ ds.map nmOf).Nodup
  | [], ns, _, _, n => by simpa using n
  | d :: ds, ns, i, e, n => by
    rw [wrongAt] at e
    split at e
    · cases e
    · rename_i c
      have c := (Bool.or_eq_false_iff.mp (Bool.eq_false_iff.mpr c)).2
      have z := wrongAt_nodup e (List.nodup_append.mpr ⟨n, by simp, fun a ha b hb => by
        rw [List.mem_singleton.mp hb]
        exact fun m => inV_strs c (m ▸ ha)⟩)
      simpa using z
theorem keyIn_false {k : PyData} {ks : List PyData} (h : keyIn k ks = false) (s : k.canLay0 = true) : k ∉ ks := fun m => by
  have z := List.any_eq_false.mp h k m
  exact z (PySem.SeqAt.eqv_refl _ s)
theorem leafD_inj {d e : PyData} (a : NI d) (b : NI e) (h : leafD d = leafD e) : d = e := by
  rcases a with rfl | ⟨i, rfl⟩ <;> rcases b with rfl | ⟨j, rfl⟩ <;> first | rfl | (cases h; done) | (cases h; rfl)
theorem wrongRow_rows {size : Int} {many : Nat} {zs : List Str} : ∀ {ds ks : List PyData} {i : Nat}, wrongRow size many zs ds ks i = none → (∀ x ∈ ds, rowD x size many zs = true) ∧ (ks.Nodup → (ks ++ ds.map keyD).Nodup)
  | [], ks, _, _ => ⟨fun x h => (by cases h), fun n => by simpa using n⟩
  | d :: ds, ks, i, e => by
    rw [wrongRow] at e
    split at e
    · cases e
    · rename_i c
      obtain ⟨c1, c2⟩ := Bool.or_eq_false_iff.mp (Bool.eq_false_iff.mpr c)
      obtain ⟨r1, r2⟩ := wrongRow_rows e
      obtain ⟨_, _, n0, n1⟩ := rowD_NI (no_ff c1)
      have lay : (keyD d).canLay0 = true := (shp_tup (n := 0) (ds := [itD d 0, itD d 1]) fun z hz => by
        simp only [List.mem_cons, List.not_mem_nil, or_false] at hz
        rcases hz with rfl | rfl
        · exact n0.shp
        · exact n1.shp).1
      refine ⟨fun x h => ?_, fun n => ?_⟩
      · rcases List.mem_cons.mp h with rfl | h
        · exact no_ff c1
        · exact r1 x h
      · have z := r2 (List.nodup_append.mpr ⟨n, by simp, fun a ha b hb => by
          rw [List.mem_singleton.mp hb]
          exact fun m => keyIn_false c2 lay (m ▸ ha)⟩)
        simpa using z
theorem keyL_nodup : ∀ {ds : List PyData}, (∀ x ∈ ds, RowS x) → (ds.map keyD).Nodup → (ds.map keyL).Nodup
  | [], _, _ => by simp
  | d :: ds, r, n => by
    rw [List.map_cons, List.nodup_cons] at n ⊢
    refine ⟨fun m => n.1 ?_, keyL_nodup (fun x h => r x (List.mem_cons_of_mem _ h)) n.2⟩
    obtain ⟨e, he, k⟩ := List.mem_map.mp m
    refine List.mem_map.mpr ⟨e, he, ?_⟩
    obtain ⟨_, _, a0, a1⟩ := r d List.mem_cons_self
    obtain ⟨_, _, b0, b1⟩ := r e (List.mem_cons_of_mem _ he)
    unfold keyL at k
    injection k with k1 k
    injection k with k2 _
    unfold keyD
    rw [leafD_inj b0 a0 k1, leafD_inj b1 a1 k2]
theorem rowsErr_none {size : Int} {many : Nat} {zs : List Str} : ∀ {ds : List PyData}, rowsErr size many zs ds = none → ∀ d ∈ ds, wrongRow size many zs (itemsD (itD d 2)) [] 0 = none
  | [], _, d, h => by cases h
  | x :: xs, e, d, h => by
    rw [rowsErr] at e
    cases c : wrongRow size many zs (itemsD (itD x 2)) [] 0 with
    | some i => rw [c] at e; cases e
    | none =>
      rw [c] at e
      rcases List.mem_cons.mp h with rfl | h
      · exact c
      · exact rowsErr_none e d h
/-- what is known of parts that are a program's -/
structure PartsOk (d0 d1 d2 d3 d4 : PyData) : Prop where
  base : baseD d0 = true
  regs : partsD regD 3 d1 = true
  modes : partsD modeD 4 d2 = true
  rows : rowsErr (sizeD d0) (itemsD d1).length ((itemsD d2).map nmOf) (itemsD d2) = none
  ends : endsD d3 (sizeD d0) = true
  result : factD d4 ((itemsD d1).length + 1) = true
theorem partsOk_iff {d0 d1 d2 d3 d4 : PyData} : progErr d0 d1 d2 d3 d4 = none ↔ PartsOk d0 d1 d2 d3 d4 := by
  unfold progErr
  constructor
  · intro h
    split at h
    · cases h
    · split at h
      · cases h
      · split at h
        · cases h
        · split at h
          · cases h
          · split at h
            · cases h
            · split at h
              · cases h
              · rename_i h0 h1 h2 _ h3 h4 h5
                simp only [Bool.not_eq_false] at h0 h1 h2 h4 h5
                exact ⟨h0, h1, h2, h3, h4, h5⟩
  · rintro ⟨h0, h1, h2, h3, h4, h5⟩
    rw [h0, h1, h2, h3, h4, h5]
    rfl
theorem PartsOk.names {d0 d1 d2 d3 d4 : PyData} (h : PartsOk d0 d1 d2 d3 d4) : ((itemsD d2).map nmOf).Nodup := by
  have m := h.modes
  unfold partsD at m
  have z := wrongAt_nodup (Option.isNone_iff_eq_none.mp (Bool.and_eq_true_iff.mp m).2) List.nodup_nil
  simpa using z
theorem PartsOk.row {d0 d1 d2 d3 d4 : PyData} (h : PartsOk d0 d1 d2 d3 d4) {md : PyData} (m : md ∈ itemsD d2) : (∀ x ∈ itemsD (itD md 2), RowS x) ∧ ((itemsD (itD md 2)).map keyL).Nodup := by
  obtain ⟨r1, r2⟩ := wrongRow_rows (rowsErr_none h.rows md m)
  have rs : ∀ x ∈ itemsD (itD md 2), RowS x := fun x hx => rowD_NI (r1 x hx)
  exact ⟨rs, keyL_nodup rs (by simpa using r2 List.nodup_nil)⟩
end
/-! ### Program.__init__ -/
section
mutual
theorem Dt.offC {Z : Addr → Prop} {D : Addr} {H : Hp} (n : ∀ xs, H D ≠ some (.lst xs) ∧ H D ≠ some (.tup xs)) (n0 : H D ≠ some (.dK [])) {v : V} {d : PyData} (h : Dt Z H v d) : Dt (Zu Z D) H v d :=
  match h with
  | .non => .non
  | .bl b => .bl b
  | .int i => .int i
  | .str x => .str x
  | .lst e m t => .lst e (zu_ne m fun z => (n _).1 (z ▸ e)) (DtAll.offC n n0 t)
  | .tup e m t => .tup e (zu_ne m fun z => (n _).2 (z ▸ e)) (DtAll.offC n n0 t)
  | .emp e m => .emp e (zu_ne m fun z => n0 (z ▸ e))
theorem DtAll.offC {Z : Addr → Prop} {D : Addr} {H : Hp} (n : ∀ xs, H D ≠ some (.lst xs) ∧ H D ≠ some (.tup xs)) (n0 : H D ≠ some (.dK [])) {vs : List V} {ds : List PyData} (h : DtAll Z H vs ds) : DtAll (Zu Z D) H vs ds :=
  match h with
  | .nil => .nil
  | .cons a b => .cons (Dt.offC n n0 a) (DtAll.offC n n0 b)
end
mutual
theorem Dt.offN {Z : Addr → Prop} {D : Addr} {H : Hp} (n : ∀ xs, H D ≠ some (.lst xs) ∧ H D ≠ some (.tup xs)) {v : V} {d : PyData} (c : d.hasDict = false) (h : Dt Z H v d) : Dt (Zu Z D) H v d :=
  match h with
  | .non => .non
  | .bl b => .bl b
  | .int i => .int i
  | .str x => .str x
  | .lst e m t => .lst e (zu_ne m fun z => (n _).1 (z ▸ e)) (DtAll.offN n (by simpa [PyData.hasDict] using c) t)
  | .tup e m t => .tup e (zu_ne m fun z => (n _).2 (z ▸ e)) (DtAll.offN n (by simpa [PyData.hasDict] using c) t)
  | .emp e m => by simp [PyData.hasDict] at c
theorem DtAll.offN {Z : Addr → Prop} {D : Addr} {H : Hp} (n : ∀ xs, H D ≠ some (.lst xs) ∧ H D ≠ some (.tup xs)) {vs : List V} {ds : List PyData} (c : PyData.hasDictAll ds = false) (h : DtAll Z H vs ds) : DtAll (Zu Z D) H vs ds :=
  match h with
  | .nil => .nil
  | .cons a b => by
    have c' := c
    unfold PyData.hasDictAll at c'
    obtain ⟨c1, c2⟩ := Bool.or_eq_false_iff.mp c'
    exact .cons (Dt.offN n c1 a) (DtAll.offN n c2 b)
end
/-- an object that is no data, no table's own -/
def Odd (o : HO) : Prop := (∀ xs, o ≠ .lst xs) ∧ (∀ xs, o ≠ .tup xs) ∧ (∀ φ, o ≠ .ext φ)
def Odd0 (o : HO) : Prop := Odd o ∧ o ≠ .dK []
theorem odd_ins {C dx : Addr} {fs : List (Str × V)} : Odd0 (.ins C dx fs) := ⟨⟨fun _ z => (by cases z), fun _ z => (by cases z), fun _ z => (by cases z)⟩, fun z => (by cases z)⟩
theorem odd_dK {kvs : List (L2.Key × V)} : Odd (.dK kvs) := ⟨fun _ z => (by cases z), fun _ z => (by cases z), fun _ z => (by cases z)⟩
theorem Dt.keepO {p : Addr} {H H' : Hp} {o : HO} {v : V} {d : PyData} (h : Dt Z0 H v d) (e : H p = some o) (od : Odd0 o) (k : Keep p H H') : Dt Z0 H' v d :=
  ((h.offC (D := p) (fun xs => ⟨fun z => od.1.1 xs (Option.some.inj (e.symm.trans z)), fun z => od.1.2.1 xs (Option.some.inj (e.symm.trans z))⟩) fun z => od.2 (Option.some.inj (e.symm.trans z))).fr (fun b o g n => k b o g fun m => n (.inr m))).un
variable {P : Program} {w : World} {K : PySem.W.Frag} {mg : Str → Option Value} {base : Heap} {aR CB CG CM CI CE CR CP : Addr}
theorem Dt.keepL {p : Addr} {H H' : Hp} {o : HO} {v : V} {d : PyData} (lay : d.hasDict = false) (h : Dt Z0 H v d) (e : H p = some o) (od : Odd o) (k : Keep p H H') : Dt Z0 H' v d :=
  ((h.offN (D := p) (fun xs => ⟨fun z => od.1 xs (Option.some.inj (e.symm.trans z)), fun z => od.2.1 xs (Option.some.inj (e.symm.trans z))⟩) lay).fr (fun b o g n => k b o g fun m => n (.inr m))).un
theorem paired_mem {α β : Type} {F G : α → β → Prop} : ∀ {l : List α} {m : List β}, Paired F l m → (∀ x y, x ∈ l → F x y → G x y) → Paired G l m
  | _, _, .nil, _ => .nil
  | _, _, .cons h t, f => .cons (f _ _ List.mem_cons_self h) (paired_mem t fun x y m => f x y (List.mem_cons_of_mem _ m))
theorem layAll_betw {lo hi : Int} : ∀ {xs : List PyData}, (xs.all fun x => betw x lo hi) = true → PyData.hasDictAll xs = false
  | [], _ => rfl
  | x :: xs, h => by
    simp only [List.all_cons, Bool.and_eq_true] at h
    unfold PyData.hasDictAll
    rw [layAll_betw h.2, Bool.or_false]
    cases x <;> first | rfl | cases h.1
theorem isTup_ex {d : PyData} (h : isTup d = true) : ∃ ds, d = .tuple ds := by
  cases d <;> first | exact ⟨_, rfl⟩ | exact absurd h (by simp [isTup, tyD])
theorem fact_lay {d : PyData} {n : Int} (h : factD d n = true) : d.hasDict = false := by
  unfold factD at h
  simp only [Bool.and_eq_true] at h
  obtain ⟨ds, rfl⟩ := isTup_ex h.1
  unfold PyData.hasDict
  exact layAll_betw h.2.2
theorem layAll_of {xs : List PyData} (h : ∀ x ∈ xs, x.hasDict = false) : PyData.hasDictAll xs = false := by
  induction xs with
  | nil => rfl
  | cons x xs ih =>
    unfold PyData.hasDictAll
    rw [h x List.mem_cons_self, ih fun y m => h y (List.mem_cons_of_mem _ m)]
    rfl
theorem row_lay {d : PyData} {size : Int} {many : Nat} {zs : List Str} (h : rowD d size many zs = true) : (valD d).hasDict = false := by
  unfold rowD at h
  simp only [Bool.and_eq_true] at h
  obtain ⟨_, _, _, u, t⟩ := h
  refine layAll_of fun x m => ?_
  rcases List.mem_cons.mp m with rfl | m
  · unfold upsD at u
    simp only [Bool.and_eq_true] at u
    generalize itD d 2 = y at u ⊢
    obtain ⟨ds, rfl⟩ := isTup_ex u.1
    unfold PyData.hasDict
    exact layAll_of fun z mz => fact_lay (List.all_eq_true.mp u.2.2 z mz)
  · rcases List.mem_cons.mp m with rfl | m
    · generalize itD d 3 = y at t ⊢
      cases y with
    | none => rfl
    | str s => rfl
    | _ => cases t
    · cases m
theorem PartsOk.lay {d0 d1 d2 d3 d4 : PyData} (h : PartsOk d0 d1 d2 d3 d4) {md : PyData} (m : md ∈ itemsD d2) : ∀ r ∈ itemsD (itD md 2), (valD r).hasDict = false := fun r hr =>
  row_lay ((wrongRow_rows (rowsErr_none h.rows md m)).1 r hr)
theorem TabR.keepO {p : Addr} {H H' : Hp} {o : HO} {D : Addr} {rs : List PyData} (t : TabR P w H D rs) (e : H p = some o) (od : Odd0 o) (k : Keep p H H') : TabR P w H' D rs := by
  obtain ⟨kbs, ⟨a, b⟩, c⟩ := t
  have ne : ∀ {x : Addr} {u : HO}, H x = some u → o ≠ u → x ≠ p := fun {x u} g n m => by
    rw [m, e] at g
    exact n (Option.some.inj g)
  exact ⟨kbs, ⟨k _ _ a (ne a (od.1.2.2 _)), fun x hx => k _ _ (b x hx) (ne (b x hx) (od.1.2.1 _))⟩, L2.Paired.mapP c fun r x z => ⟨z.1, z.2.keepO e od k⟩⟩
theorem TabR.keepL {p : Addr} {H H' : Hp} {o : HO} {D : Addr} {rs : List PyData} (lay : ∀ r ∈ rs, (valD r).hasDict = false) (t : TabR P w H D rs) (e : H p = some o) (od : Odd o) (k : Keep p H H') : TabR P w H' D rs := by
  obtain ⟨kbs, ⟨a, b⟩, c⟩ := t
  have ne : ∀ {x : Addr} {u : HO}, H x = some u → o ≠ u → x ≠ p := fun {x u} g n m => by
    rw [m, e] at g
    exact n (Option.some.inj g)
  exact ⟨kbs, ⟨k _ _ a (ne a (od.2.2 _)), fun x hx => k _ _ (b x hx) (ne (b x hx) (od.2.1 _))⟩, paired_mem c fun r x m z => ⟨z.1, z.2.keepL (lay r m) e od k⟩⟩
/-- a mode as a program keeps it -/
def normM (md : PyData) : PyData := .tuple [itD md 0, itD md 1, .tuple (itemsD (itD md 2))]
def ProgF (b : Int) (vr vm ve va : V) (vt : Addr) : List (Str × V) := [("_base", .int b), ("_registers", vr), ("_modes", vm), ("_ends", ve), ("_result", va), ("_tables", .ref vt)]
def TabsAt (P : Program) (w : World) (H : Hp) (vt : Addr) (ms : List PyData) : Prop := ∃ kvs : List (L2.Key × V), H vt = some (.dK kvs) ∧ Paired (fun md (kv : L2.Key × V) => kv.1 = .inr (nmOf md) ∧ ∃ D, kv.2 = .ref D ∧ TabR P w H D (itemsD (itD md 2))) ms kvs
/-- the program of such parts stands at p -/
def ProgAt (P : Program) (w : World) (CP : Addr) (H : Hp) (p : Addr) (b : Int) (d1 d2 d3 d4 : PyData) : Prop := ∃ dx vr vm ve va vt, H p = some (.ins CP dx (ProgF b vr vm ve va vt)) ∧ Dt Z0 H vr (.tuple (itemsD d1)) ∧ Dt Z0 H vm (.tuple ((itemsD d2).map normM)) ∧ Dt Z0 H ve (.tuple (itemsD d3)) ∧ Dt Z0 H va d4 ∧ TabsAt P w H vt (itemsD d2)
theorem tupS {X : Cx} : CallR X (.type "tuple") (fun xs H Q => ∃ (Z : Addr → Prop) (v : V) (d : PyData), xs = [v] ∧ Dt Z H v d ∧ isSeq d = true ∧ (∀ l', H l' = none → ¬ Z l') ∧ ∀ u H', Same H H' → Dt Z H' u (.tuple (itemsD d)) → Q u H') := by
  intro pins s σ H xs us Q I r w
  obtain ⟨Z, v, d, rfl, hd, sq, fz, q⟩ := w
  obtain ⟨l, ys, rfl, dy, ha, nz⟩ := hd.seq sq
  exact tupT pins s σ H _ us Q I r ⟨l, ys, rfl, ha.imp (fun h => ⟨h, fun l' n => q _ _ (Same.new n) (.tup upd_same (fz l' n) (dy.fr (Fm.of (Same.new n))))⟩) fun h => ⟨h, q _ H (Same.refl _) (.tup h nz dy)⟩⟩
def spPInit (P : Program) (w : World) (CP CB CG CM CI CE CR : Addr) : Sp := fun vs H Q E => ∃ p dx v0 v1 v2 v3 v4 d0 d1 d2 d3 d4, vs = [.ref p, v0, v1, v2, v3, v4] ∧ H p = some (.ins CP dx []) ∧ Dt Z0 H v0 d0 ∧ Dt Z0 H v1 d1 ∧ Dt Z0 H v2 d2 ∧ Dt Z0 H v3 d3 ∧ Dt Z0 H v4 d4 ∧ Sz 2 d1 ∧ Sz 5 d2 ∧ (itemsD d3).length ≤ 1000 ∧ (itemsD d4).length ≤ 1000 ∧
  (PartsOk d0 d1 d2 d3 d4 → ∀ H', Keep p H H' → ProgAt P w CP H' p (iOf d0) d1 d2 d3 d4 → Q .non H') ∧ ∀ e, progErr d0 d1 d2 d3 d4 = some e → PErr.flies CB CG CM CI CE CR v0 v3 v4 E H e
abbrev s_Program___init__ : Stmt := inClass (top 41) 0
abbrev N_Program___init__ : List Str := ["self", "base", "registers", "modes", "ends", "result", "name", "rule", "rows", "_"]
theorem sc_Program___init__ : FnScope N_Program___init__ ["self", "base", "registers", "modes", "ends", "result"] (defScope s_Program___init__) := ⟨rfl, rfl, rfl, by decide +kernel, rfl, by decide +kernel, by decide +kernel⟩
/-- what is asked of the class -/
structure PCls (K : PySem.W.Frag) (mg : Str → Option Value) (CP : Addr) : Prop where
  cl : Cls K CP
  at_ : mg "Program" = some (.ref CP)
  n1 : NoAttr K CP "_base"
  n2 : NoAttr K CP "_registers"
  n3 : NoAttr K CP "_modes"
  n4 : NoAttr K CP "_ends"
  n5 : NoAttr K CP "_result"
  n6 : NoAttr K CP "_tables"
theorem ok_Program_init {fI : Addr} {fd : FuncData} (F : Fun K "__init__" "Program.__init__" s_Program___init__ fI fd) (C : PCls K mg CP) (PT : PTx K mg aR) (O_check_program : OkX P w K mg base 7 "check_program" ["base", "registers", "modes", "ends", "result"] (spChkProg CB CG CM CI CE CR))
    (O_table_of : Ok P w K mg base 1 "table_of" ["rows"] (spTable P w)) : FnOk P w K mg base (L2.CX P w) 8 fI fd ["self", "base", "registers", "modes", "ends", "result"] (spPInit P w CP CB CG CM CI CE CR) := by
  have T := PT.T
  refine F.okX sc_Program___init__ (fun vs H Q E h => ?_) (fun cdv A outer s H vs Q E hr h => ?_)
  · obtain ⟨p, dx, v0, v1, v2, v3, v4, d0, d1, d2, d3, d4, rfl, _⟩ := h
    rfl
  · obtain ⟨p, dx, v0, v1, v2, v3, v4, d0, d1, d2, d3, d4, rfl, ep, h0, h1, h2, h3, h4, z1, z2, z3, z4, q, qe⟩ := h
    refine ⟨_, (pss_cons (ps_expr (pe_cX O_check_program (hr.mono (by decide)) (passes_call (takes_of rfl rfl rfl rfl) (fun _ _ _ _ z => z)) rfl (pa_cons (pv 1) (pa_cons (pv 2) (pa_cons (pv 3) (pa_cons (pv 4) (pa_cons (pv 5) pa_nil)))))))
      (pss_cons (ps_fld (pv 0) (pv 1) rfl)
      (pss_cons (ps_fld (pv 0) (pe_callTy tupS (by rfl) T.tuple bb_tuple (pa_cons (pv 2) pa_nil)) rfl)
      (pss_cons (ps_fld (pv 0) (pe_callTy tupS (by rfl) T.tuple bb_tuple (pa_cons (by exact pe_lc (own := [("name", 6), ("rule", 7), ("rows", 8)]) (g := gTupT 3 (gCons (gName 6) (gCons (gName 7) (gCons (gName 8) gNil)))) (tt := tYes) rfl sc_Program___init__.nd (pi_seq (pv 3)) (blkOk_by (N := N_Program___init__) (sc := defScope s_Program___init__) (by rfl)) (fun _ _ _ _ _ => (pgT (n := 3) (by rfl) (pgs_cons (pg_name (i := 6) sc_Program___init__.nd rfl (by first | exact Or.inl rfl | exact Or.inr rfl)) (pgs_cons (pg_name (i := 7) sc_Program___init__.nd rfl (by first | exact Or.inl rfl | exact Or.inr rfl)) (pgs_cons (pg_name (i := 8) sc_Program___init__.nd rfl (by first | exact Or.inl rfl | exact Or.inr rfl)) pgs_nil))))) (fun _ _ _ _ _ => pts_nil) (fun _ _ _ _ _ => (pe_tup (pa_cons (pv 6) (pa_cons (pv 7) (pa_cons (pe_callTy tupS (by rfl) T.tuple bb_tuple (pa_cons (pv 8) pa_nil)) pa_nil)))))) pa_nil)) rfl)
      (pss_cons (ps_fld (pv 0) (pe_callTy tupS (by rfl) T.tuple bb_tuple (pa_cons (pv 4) pa_nil)) rfl)
      (pss_cons (ps_fld (pv 0) (pv 5) rfl)
      (pss_one (ps_fld (pv 0) (pe_dc (own := [("name", 6), ("_", 9), ("rows", 8)]) (g := gTupT 3 (gCons (gName 6) (gCons (gName 9) (gCons (gName 8) gNil)))) (tt := tYes) rfl sc_Program___init__.nd (pi_seq (pv 3)) (blkOk_by (N := N_Program___init__) (sc := defScope s_Program___init__) (by rfl)) (fun _ _ _ _ _ => (pgT (n := 3) (by rfl) (pgs_cons (pg_name (i := 6) sc_Program___init__.nd rfl (by first | exact Or.inl rfl | exact Or.inr rfl)) (pgs_cons (pg_name (i := 9) sc_Program___init__.nd rfl (by first | exact Or.inl rfl | exact Or.inr rfl)) (pgs_cons (pg_name (i := 8) sc_Program___init__.nd rfl (by first | exact Or.inl rfl | exact Or.inr rfl)) pgs_nil))))) (fun _ _ _ _ _ => pts_nil) (fun _ _ _ _ _ => (pv 6)) (fun _ _ _ _ _ => (pe_cO O_table_of (hr.mono (by decide)) pass0 rfl (pa_cons (pv 8) pa_nil)))) rfl)))))))), ?_⟩
    refine ⟨_, rfl, _, rfl, _, rfl, _, rfl, _, rfl, v0, v1, v2, v3, v4, d0, d1, d2, d3, d4, rfl, h0, h1, h2, h3, h4, z1, z2, z3, z4, fun ok H1 s1 => ?_, qe⟩
    have PO := partsOk_iff.mp ok
    have q := q PO
    obtain ⟨b, rfl⟩ : ∃ b, d0 = .int b := by
      have := PO.base
      cases d0 <;> first | exact ⟨_, rfl⟩ | cases this
    cases h0
    have ep1 := s1 _ _ ep
    have off : ∀ {v : V} {d : PyData}, Dt Z0 H v d → Dt (Zu Z0 p) H1 v d := fun h => (h.fr (Fm.of s1)).offC (fun xs => ⟨fun z => (by rw [ep1] at z; cases z), fun z => (by rw [ep1] at z; cases z)⟩) fun z => (by rw [ep1] at z; cases z)
    have g1 := off h1
    have g2 := off h2
    have g3 := off h3
    have g4 := off h4
    have k1 : Keep p H H1 := fun c o e _ => s1 _ _ e
    -- the base
    refine ⟨_, rfl, _, rfl, p, CP, dx, [], rfl, ep1, C.cl, C.n1, by show 0 < 1000; decide, ?_⟩
    have f2 : Fm (Zu Z0 p) H1 (upd H1 p (.ins CP dx [("_base", .int b)])) := Fm.at_zu
    have ep2 : (upd H1 p (.ins CP dx [("_base", .int b)])) p = some (.ins CP dx [("_base", .int b)]) := upd_same
    have k2 : Keep p H (upd H1 p (.ins CP dx [("_base", .int b)])) := fun c o e n => by rw [upd_ne n]; exact k1 c o e n
    show tSeq _ _ _ _ (upd H1 p (.ins CP dx [("_base", .int b)]))
    generalize upd H1 p (.ins CP dx [("_base", .int b)]) = H2 at f2 ep2 k2 ⊢
    -- the registers
    obtain ⟨sq1, _, _⟩ := partsD_all PO.regs
    have fz : ∀ {G : Hp} {fs : List (Str × V)}, G p = some (.ins CP dx fs) → ∀ l', G l' = none → ¬ Zu Z0 p l' := fun e l' n m => m.elim id fun m => by rw [m, e] at n; cases n
    refine ⟨_, rfl, Zu Z0 p, v1, d1, rfl, g1.fr f2, sq1, fz ep2, fun vr H3 s3 dr => ?_⟩
    have ep3 := s3 _ _ ep2
    refine ⟨_, rfl, p, CP, dx, _, rfl, ep3, C.cl, C.n2, by show 1 < 1000; decide, ?_⟩
    have f4 : Fm (Zu Z0 p) H3 (upd H3 p (.ins CP dx [("_base", .int b), ("_registers", vr)])) := Fm.at_zu
    have ep4 : (upd H3 p (.ins CP dx [("_base", .int b), ("_registers", vr)])) p = some (.ins CP dx [("_base", .int b), ("_registers", vr)]) := upd_same
    have k4 : Keep p H (upd H3 p (.ins CP dx [("_base", .int b), ("_registers", vr)])) := fun c o e n => by rw [upd_ne n]; exact s3 _ _ (k2 c o e n)
    show tSeq _ _ _ _ (upd H3 p (.ins CP dx [("_base", .int b), ("_registers", vr)]))
    generalize upd H3 p (.ins CP dx [("_base", .int b), ("_registers", vr)]) = H4 at f4 ep4 k4 ⊢
    have f14 : Fm (Zu Z0 p) H1 H4 := (f2.trans (Fm.of s3)).trans f4
    have dr4 := dr.fr f4
    -- the modes
    obtain ⟨sq2, m4, all2⟩ := partsD_all PO.modes
    obtain ⟨l2, xs2, rfl, dx2, ha2, nz2⟩ := (g2.fr f14).seq sq2
    have hl2 := dx2.len
    obtain ⟨o2, ho2, at2⟩ : ∃ o, (o = .lst xs2 ∨ o = .tup xs2) ∧ H4 l2 = some o := ha2.elim (fun h => ⟨_, .inl rfl, h⟩) fun h => ⟨_, .inr rfl, h⟩
    refine ⟨_, rfl, l2, xs2, o2, rfl, ho2, at2, fun J wk D hD => ?_⟩
    refine lc_dat wk (Zu Z0 p) (fun G => G p = some (.ins CP dx [("_base", .int b), ("_registers", vr)])) ((itemsD d2).map normM) (by simp [hl2]) hD (fz ep4 D hD) ep4 (fun G l e n => by rw [upd_ne (fun m => n (.inr m.symm))]; exact e) (by rw [hl2]; exact Nat.lt_of_le_of_lt z2.1 (by decide)) (fun G f => f _ _ at2 nz2) ?_ ?_
    · intro i x dm G0 G Qk ed f iG ne y z
      obtain ⟨rfl, ex⟩ := y
      rw [List.getElem?_map] at ed
      obtain ⟨di, e3, rfl⟩ := Option.map_eq_some_iff.mp ed
      obtain ⟨d', e4, dt⟩ := ((DtAll.off' hD dx2).fr (Fm.zu f)).get ex
      rw [e3] at e4
      cases e4
      obtain ⟨t1, t2, ⟨nm, t3, t4⟩, t5⟩ := modeD_parts (all2 di (List.mem_of_getElem? e3))
      obtain ⟨a, ys, rfl, dy, ha, nza, _⟩ := dt.tupOf t1
      obtain ⟨y0, y1, y2, c0, c1, c2, rfl, eds, w0, w1, w2⟩ := three_dt dy t2
      have q0 : itD di 0 = c0 := by unfold itD; rw [eds]; rfl
      have q1 : itD di 1 = c1 := by unfold itD; rw [eds]; rfl
      have q2 : itD di 2 = c2 := by unfold itD; rw [eds]; rfl
      refine ⟨a, _, rfl, ha, rfl, _, _, rfl, _, _, rfl, _, _, rfl, rfl, rfl, ?_⟩
      have fD : ∀ {G' : Hp}, Same G G' → ∀ l', G' l' = none → ¬ Zu (Zu Z0 p) D l' := fun {G'} s l' n => by
        have nG : G l' = none := by
          cases e : G l' with
          | none => rfl
          | some o => rw [s _ _ e] at n; cases n
        exact zu_ne (fz iG l' nG) (ne l' nG)
      refine ⟨_, rfl, _, rfl, _, rfl, Zu (Zu Z0 p) D, y2, c2, rfl, w2, q2 ▸ t5, fD (Same.refl _), fun u G2 s2 du => ?_⟩
      refine ⟨by show 3 ≤ sizeLine; decide, fun t nt => ?_⟩
      have s3 : Same G2 (upd G2 t (.tup [y0, y1, u])) := Same.new nt
      have s23 := Fm.of (Z := Zu (Zu Z0 p) D) (s2.trans s3)
      refine z _ _ (Fm.of (s2.trans s3)) (s3 _ _ (s2 _ _ iG)) ?_
      unfold normM
      rw [q0, q1, q2]
      exact .tup upd_same (fD s2 t nt) (.cons (w0.fr s23) (.cons (w1.fr s23) (.cons (du.fr (Fm.of s3)) .nil)))
    · intro G5 xs5 f5 iG eD dD
      have kD : ¬ Zu Z0 p D := fz ep4 D hD
      refine ⟨Zu Z0 p, .ref D, .list ((itemsD d2).map normM), rfl, .lst eD kD (dD.mono' fun _ m => .inl m), rfl, fz iG, fun vm H6 s6 dm => ?_⟩
      have ep6 := s6 _ _ iG
      have f46 : Fm (Zu Z0 p) H4 H6 := f5.trans (Fm.of s6)
      have k6 : Keep p H H6 := fun c o e n => f46 c o (k4 c o e n) (fun m => m.elim id n)
      refine ⟨_, rfl, p, CP, dx, _, rfl, ep6, C.cl, C.n3, by show 2 < 1000; decide, ?_⟩
      have ep7 : (upd H6 p (.ins CP dx [("_base", .int b), ("_registers", vr), ("_modes", vm)])) p = some (.ins CP dx [("_base", .int b), ("_registers", vr), ("_modes", vm)]) := upd_same
      have f7 : Fm (Zu Z0 p) H6 (upd H6 p (.ins CP dx [("_base", .int b), ("_registers", vr), ("_modes", vm)])) := Fm.at_zu
      have k7 : Keep p H (upd H6 p (.ins CP dx [("_base", .int b), ("_registers", vr), ("_modes", vm)])) := fun c o e n => by rw [upd_ne n]; exact k6 c o e n
      show tSeq _ _ _ _ (upd H6 p (.ins CP dx [("_base", .int b), ("_registers", vr), ("_modes", vm)]))
      generalize upd H6 p (.ins CP dx [("_base", .int b), ("_registers", vr), ("_modes", vm)]) = H7 at ep7 f7 k7 ⊢
      have f47 := f46.trans f7
      have f17 : Fm (Zu Z0 p) H1 H7 := f14.trans f47
      have dm7 := dm.fr f7
      have sq3 : isSeq d3 = true := by
        have := PO.ends
        unfold endsD at this
        exact (Bool.and_eq_true_iff.mp this).1
      -- the ends, the result
      refine ⟨_, rfl, Zu Z0 p, v3, d3, rfl, g3.fr f17, sq3, fz ep7, fun ve H8 s8 de => ?_⟩
      have ep8 := s8 _ _ ep7
      refine ⟨_, rfl, p, CP, dx, _, rfl, ep8, C.cl, C.n4, by show 3 < 1000; decide, ?_⟩
      refine ⟨_, rfl, _, rfl, p, CP, dx, _, rfl, upd_same, C.cl, C.n5, by show 4 < 1000; decide, ?_⟩
      rw [upd_upd, show putF "_result" v4 (putF "_ends" ve [("_base", .int b), ("_registers", vr), ("_modes", vm)]) = ([("_base", .int b), ("_registers", vr), ("_modes", vm), ("_ends", ve), ("_result", v4)] : List (Str × V)) from rfl]
      have ep9 : (upd H8 p (.ins CP dx [("_base", .int b), ("_registers", vr), ("_modes", vm), ("_ends", ve), ("_result", v4)])) p = some (.ins CP dx [("_base", .int b), ("_registers", vr), ("_modes", vm), ("_ends", ve), ("_result", v4)]) := upd_same
      have f9 : Fm (Zu Z0 p) H8 (upd H8 p (.ins CP dx [("_base", .int b), ("_registers", vr), ("_modes", vm), ("_ends", ve), ("_result", v4)])) := Fm.at_zu
      have k9 : Keep p H (upd H8 p (.ins CP dx [("_base", .int b), ("_registers", vr), ("_modes", vm), ("_ends", ve), ("_result", v4)])) := fun c o e n => by rw [upd_ne n]; exact s8 _ _ (k7 c o e n)
      have k89 : Fm (Zu Z0 p) H7 (upd H8 p (.ins CP dx [("_base", .int b), ("_registers", vr), ("_modes", vm), ("_ends", ve), ("_result", v4)])) := (Fm.of s8).trans f9
      generalize upd H8 p (.ins CP dx [("_base", .int b), ("_registers", vr), ("_modes", vm), ("_ends", ve), ("_result", v4)]) = H9 at ep9 f9 k9 k89 ⊢
      have f49 := f47.trans k89
      have at9 := f49 _ _ at2 nz2
      have dx9 := DtAll.fr' f49 dx2
      refine ⟨_, rfl, l2, xs2, o2, rfl, ho2, at9, fun J2 wk2 D2 hD2 => ?_⟩
      have pD2 : p ≠ D2 := ne_of_none ep9 hD2
      refine dcK_it wk2 (fun i G => Keep D2 H9 G ∧ ∃ kvs : List (L2.Key × V), G D2 = some (.dK kvs) ∧ Paired (fun md (kv : L2.Key × V) => kv.1 = .inr (nmOf md) ∧ ∃ T, kv.2 = .ref T ∧ TabR P w G T (itemsD (itD md 2))) ((itemsD d2).take i) kvs) ⟨fun c o e n => by rw [upd_ne n]; exact e, [], upd_same, .nil⟩ (fun i G z => z.1 _ _ at9 (ne_of_none at9 hD2)) ?_ ?_
      · rintro i x G0 G hi ⟨kG, kvs, eD2, pr⟩ ⟨rfl, ex⟩
        have f9G : Fm (Zu (Zu Z0 p) D2) H9 G := fun c o e n => kG c o e fun m => n (.inr m)
        obtain ⟨di, ei, dt⟩ := ((DtAll.off' hD2 dx9).fr f9G).get ex
        obtain ⟨t1, t2, ⟨nm, t3, t4⟩, t5⟩ := modeD_parts (all2 di (List.mem_of_getElem? ei))
        obtain ⟨a, ys, rfl, dy, ha, nza, _⟩ := dt.tupOf t1
        obtain ⟨y0, y1, y2, c0, c1, c2, rfl, eds, w0, w1, w2⟩ := three_dt dy t2
        have q0 : itD di 0 = c0 := by unfold itD; rw [eds]; rfl
        have q2 : itD di 2 = c2 := by unfold itD; rw [eds]; rfl
        rw [q0] at t3
        subst t3
        cases w0
        obtain ⟨rs, nod⟩ := PO.row (List.mem_of_getElem? ei)
        rw [q2] at rs nod t5
        have zr : Sz 3 c2 := q2 ▸ (z2.2.2 di (List.mem_of_getElem? ei)).item 2
        refine ⟨a, _, rfl, ha, rfl, _, _, rfl, _, _, rfl, _, _, rfl, rfl, rfl, ?_⟩
        unfold tYes
        refine iteT ?_
        refine ⟨_, rfl, _, rfl, y2, c2, rfl, w2.un.un, t5, zr.1, rs, nod, fun G' T sG nT tr => ⟨kvs, (Sum.inr nm : L2.Key), rfl, sG _ _ eD2, ?_, ?_⟩⟩
        · rw [← paired_len pr, List.length_take]
          exact Nat.lt_of_le_of_lt (Nat.le_trans (Nat.min_le_right _ _) z2.1) (by decide)
        · have keys : kvs.map (·.1) = ((itemsD d2).take i).map fun md => (Sum.inr (nmOf md) : L2.Key) := by
            clear sG eD2 tr kG ex hi
            generalize (itemsD d2).take i = ms at pr
            induction pr with
            | nil => rfl
            | cons h _ ih => rw [List.map_cons, List.map_cons, h.1, ih]
          have sp : itemsD d2 = (itemsD d2).take i ++ di :: (itemsD d2).drop (i + 1) := by
            obtain ⟨lt, e⟩ := List.getElem?_eq_some_iff.mp ei
            rw [← e, ← List.drop_eq_getElem_cons lt, List.take_append_drop]
          have nn := PO.names
          rw [sp, List.map_append, List.nodup_append] at nn
          rw [putK_new (by
            rw [keys]
            intro m
            obtain ⟨md, hm, e⟩ := List.mem_map.mp m
            injection e with e
            exact nn.2.2 _ (List.mem_map.mpr ⟨md, hm, e⟩) _ List.mem_cons_self t4.symm)]
          have eD2' := sG _ _ eD2
          have kk : ∀ {o : HO}, Keep D2 G' (upd G' D2 o) := fun {o} c u e n => by rw [upd_ne n]; exact e
          refine ⟨fun c o e n => by rw [upd_ne n]; exact sG _ _ (kG c o e n), _, upd_same, ?_⟩
          rw [List.take_succ, ei]
          exact paired_snoc ⟨by rw [t4], T, rfl, by rw [q2]; exact TabR.keepL (by rw [← q2]; exact PO.lay (List.mem_of_getElem? ei)) tr eD2' odd_dK kk⟩ (paired_mem pr fun md kv hmd z => ⟨z.1, by
            obtain ⟨T', e, t⟩ := z.2
            exact ⟨T', e, TabR.keepL (PO.lay (List.mem_of_mem_take hmd)) (t.same sG) eD2' odd_dK kk⟩⟩)
      · rintro G ⟨kG, kvs, eD2, pr⟩
        rw [hl2, List.take_length] at pr
        have epG := kG _ _ ep9 pD2
        refine ⟨_, rfl, p, CP, dx, _, rfl, epG, C.cl, C.n6, by show 5 < 1000; decide, ?_⟩
        have kp : ∀ {o : HO}, Keep p G (upd G p o) := fun {o} c u e n => by rw [upd_ne n]; exact e
        have f9G : Fm (Zu (Zu Z0 p) D2) H9 G := fun c o e n => kG c o e fun m => n (.inr m)
        have up : ∀ {v : V} {d : PyData}, Dt (Zu Z0 p) H9 v d → Dt Z0 (upd G p (.ins CP dx (ProgF b vr vm ve v4 D2))) v d := fun {v d} h => (((h.off hD2).fr f9G).un.un).keepO epG odd_ins kp
        refine q _ (fun c o e n => ?_) ⟨dx, vr, vm, ve, v4, D2, upd_same, up ((dr4.fr f49)), up (dm7.fr k89), up (de.fr f9), up (g4.fr (f17.trans k89)), kvs, kp _ _ eD2 (Ne.symm pD2), L2.Paired.mapP pr fun md kv z => ⟨z.1, by
          obtain ⟨T', e, t⟩ := z.2
          exact ⟨T', e, t.keepO epG odd_ins kp⟩⟩⟩
        rw [upd_ne n]
        exact kG c o (k9 c o e n) (ne_of_none (k9 c o e n) hD2)
end
/-! ### what a program tells of itself -/
section
variable {P : Program} {w : World} {K : PySem.W.Frag} {mg : Str → Option Value} {base : Heap} {aR CP CU : Addr}
/-- a program stands at p, its parts being a program's -/
def ProgOk (P : Program) (w : World) (CP : Addr) (H : Hp) (p : Addr) (b : Int) (d1 d2 d3 d4 : PyData) : Prop := ProgAt P w CP H p b d1 d2 d3 d4 ∧ PartsOk (.int b) d1 d2 d3 d4 ∧ Sz 2 d1 ∧ Sz 5 d2
abbrev s_Program_size : Stmt := inClass (top 41) 2
theorem sc_Program_size : FnScope ["self"] ["self"] (defScope s_Program_size) := ⟨rfl, rfl, rfl, by decide +kernel, rfl, by decide +kernel, by decide +kernel⟩
def spPSize (P : Program) (w : World) (CP : Addr) : Sp := fun vs H Q _ => ∃ p b d1 d2 d3 d4, vs = [.ref p] ∧ ProgAt P w CP H p b d1 d2 d3 d4 ∧ Q (.int (if b < 0 then -b else b)) H
theorem ok_Program_size (h : PFun K CP "size" "Program.size" s_Program_size) (C : PCls K mg CP) (PT : PTx K mg aR) : OwnP P w K mg base CP 1 "size" (spPSize P w CP) := by
  obtain ⟨pa, g, fd, hp, F, b⟩ := h
  have T := PT.T
  refine ⟨pa, g, fd, hp, b, F.okX sc_Program_size (fun vs H Q E h => ?_) (fun cdv A outer s H vs Q E hr h => ?_)⟩
  · obtain ⟨p, b1, d1, d2, d3, d4, rfl, _⟩ := h
    rfl
  · obtain ⟨p, b1, d1, d2, d3, d4, rfl, ⟨dx, vr, vm, ve, va, vt, e, a1, a2, a3, a4, a5⟩, q⟩ := h
    exact ⟨_, pss_one (ps_ret (pe_callB call_abs (by rfl) T.abs bb_abs (pa_cons (pe_fld (pv 0) rfl) pa_nil))), _, rfl, p, CP, dx, _, _, rfl, e, C.cl, C.n1, rfl, _, rfl, q⟩
/-- list of a tracked sequence: a new list of its items -/
theorem listS {X : Cx} : CallR X (.type "list") (fun xs H Q => ∃ (v : V) (d : PyData), xs = [v] ∧ Dt Z0 H v d ∧ isSeq d = true ∧ ∀ u H', Same H H' → H u = none → Dt Z0 H' (.ref u) (.list (itemsD d)) → Q (.ref u) H') := by
  intro pins s σ H xs us Q I r z
  obtain ⟨v, d, rfl, hd, sq, q⟩ := z
  obtain ⟨l, ys, rfl, dy, ha, nz⟩ := hd.seq sq
  exact listT pins s σ H _ us Q I r ⟨l, ys, rfl, ha, fun l' n => q _ _ (Same.new n) n (.lst upd_same id (dy.fr (Fm.of (Same.new n))))⟩
abbrev s_Program__mode : Stmt := inClass (top 41) 9
abbrev N_Program__mode : List Str := ["self", "mode", "told"]
theorem sc_Program__mode : FnScope N_Program__mode ["self", "mode"] (defScope s_Program__mode) := ⟨rfl, rfl, rfl, by decide +kernel, rfl, by decide +kernel, by decide +kernel⟩
def modeOf (ms : List PyData) (s : Str) : Option PyData := ms.find? fun md => decide (nmOf md = s)
def spPMode (P : Program) (w : World) (CP CU : Addr) : Sp := fun vs H Q E => ∃ p v dv b d1 d2 d3 d4, vs = [.ref p, v] ∧ Dt Z0 H v dv ∧ ProgOk P w CP H p b d1 d2 d3 d4 ∧ (∀ s md, dv = .str s → modeOf (itemsD d2) s = some md → ∀ u, Dt Z0 H u (normM md) → Q u H) ∧
  ((∀ s, dv = .str s → modeOf (itemsD d2) s = none) → EX1 CU "value" v E H)
theorem ok_Program__mode {f : Addr} {fd : FuncData} (F : Fun K "_mode" "Program._mode" s_Program__mode f fd) (C : PCls K mg CP) (PT : PTx K mg aR) (XU : XRz P w K mg base "UnknownName" CU 1 (sp1n "value" CU)) : FnOk P w K mg base (L2.CX P w) 3 f fd ["self", "mode"] (spPMode P w CP CU) := by
  have T := PT.T
  refine F.okX sc_Program__mode (fun vs H Q E h => ?_) (fun cdv A outer s H vs Q E hr h => ?_)
  · obtain ⟨p, v, dv, b1, d1, d2, d3, d4, rfl, _⟩ := h
    rfl
  · obtain ⟨p, v, dv, b1, d1, d2, d3, d4, rfl, hv, ⟨⟨dx, vr, vm, ve, va, vt, e, a1, a2, a3, a4, a5⟩, PO, z1, z2⟩, q, qe⟩ := h
    refine ⟨_, (pss_cons (ps_if (pt_val (pe_callB call_isi (by rfl) T.isinstance bb_isinstance (pa_cons (pv 1) (pa_cons (pe_bltn (v := .ty "str") (by rfl) T.str bb_str rfl) pa_nil))))
        (pss_one (ps_for (passes_of rfl) rfl (pi_seq (pe_fld (pv 0) rfl)) (pg_name (i := 2) sc_Program__mode.nd rfl (.inl rfl))
          (pss_one (ps_if (pt_cmpR op_eq (pe_ix ixt (pv 2) pe_int (fun _ _ => rfl)) (pv 1) (nomark _))
            (pss_one (ps_ret (pv 2)))
            pss_nil))))
        pss_nil)
      (pss_one (ps_raiseN XU (hr.mono (by decide)) rfl (takes_of rfl rfl rfl rfl) rfl (pa_cons (pv 1) pa_nil)))), ?_⟩
    refine ⟨_, rfl, _, _, _, _, _, rfl, .ty _, hv.ty, hv.kStr, _, rfl, ?_⟩
    cases hv with
    | str x =>
      refine iteT ?_
      obtain ⟨sq2, m4, all2⟩ := partsD_all PO.modes
      cases a2 with
      | tup em nm dm =>
        refine ⟨_, rfl, p, CP, dx, _, _, rfl, e, C.cl, C.n3, rfl, _, _, _, rfl, .inr rfl, em, fun J wk => for_it wk (fun i σ H' => H' = H ∧ modeOf (itemsD d2) x = modeOf ((itemsD d2).drop i) x ∧ ∃ w2 : Option V, σ = [some (.ref p), some (.str x), w2]) ⟨rfl, rfl, none, rfl⟩ (fun i σ H' _ z => by rw [z.1]; exact em) ?_ ?_⟩
        · rintro i y σ H1 H2 hi ⟨rfl, eq1, w2, rfl⟩ ⟨rfl, ex⟩
          obtain ⟨di, ei, dt⟩ := dm.get ex
          have ei : ((itemsD d2).map normM)[i]? = some di := ei
          rw [List.getElem?_map] at ei
          obtain ⟨md, e3, rfl⟩ := Option.map_eq_some_iff.mp ei
          obtain ⟨t1, t2, ⟨nm1, t3, t4⟩, t5⟩ := modeD_parts (all2 md (List.mem_of_getElem? e3))
          obtain ⟨a, ys, rfl, dy, ha, nza, _⟩ := dt.tupOf rfl
          obtain ⟨y0, y1, y2, c0, c1, c2, rfl, eds, w0, w1, w2'⟩ := three_dt dy rfl
          have eds : [itD md 0, itD md 1, PyData.tuple (itemsD (itD md 2))] = [c0, c1, c2] := eds
          injection eds with q0 eds
          rw [t3] at q0
          subst q0
          cases w0
          have more : (itemsD d2).drop i = md :: (itemsD d2).drop (i + 1) := by
            obtain ⟨lt, e⟩ := List.getElem?_eq_some_iff.mp e3
            rw [List.drop_eq_getElem_cons lt, e]
          rw [more] at eq1
          have st : modeOf (md :: (itemsD d2).drop (i + 1)) x = if nm1 = x then some md else modeOf ((itemsD d2).drop (i + 1)) x := by
            unfold modeOf
            rw [List.find?_cons, t4]
            by_cases c : nm1 = x
            · rw [decide_eq_true c, if_pos c]
            · rw [decide_eq_false c, if_neg c]
          rw [st] at eq1
          refine ⟨_, rfl, a, _, 0, _, rfl, rfl, ha, atI0, _, rfl, rfl, _, rfl, ?_⟩
          by_cases c : nm1 = x
          · rw [if_pos c] at eq1
            exact iteP (decide_eq_true (by rw [c])) ⟨_, rfl, q x md rfl eq1 _ dt⟩
          · rw [if_neg c] at eq1
            exact iteN (sne c) ⟨rfl, eq1, _, rfl⟩
        · rintro σ H1 ⟨rfl, eq1, w2, rfl⟩
          have ln := dm.len
          rw [ln, List.length_map, List.drop_of_length_le (Nat.le_refl _)] at eq1
          refine ⟨_, rfl, rfl, by show 1 ≤ 1000; decide, flies1 (EX1.now (qe fun s z => ?_))⟩
          cases z
          exact eq1
    | _ => exact iteF ⟨_, rfl, rfl, by show 1 ≤ 1000; decide, flies1 (EX1.now (qe fun s z => by cases z))⟩
end
/-! ### rule_of, rows_of, modes -/
section
variable {P : Program} {w : World} {K : PySem.W.Frag} {mg : Str → Option Value} {base : Heap} {aR CP CU : Addr}
abbrev s_Program_rule_of : Stmt := inClass (top 41) 7
theorem sc_Program_rule_of : FnScope ["self", "mode"] ["self", "mode"] (defScope s_Program_rule_of) := ⟨rfl, rfl, rfl, by decide +kernel, rfl, by decide +kernel, by decide +kernel⟩
abbrev s_Program_rows_of : Stmt := inClass (top 41) 8
theorem sc_Program_rows_of : FnScope ["self", "mode"] ["self", "mode"] (defScope s_Program_rows_of) := ⟨rfl, rfl, rfl, by decide +kernel, rfl, by decide +kernel, by decide +kernel⟩
def spPRuleOf (P : Program) (w : World) (CP CU : Addr) : Sp := fun vs H Q E => ∃ p v dv b d1 d2 d3 d4, vs = [.ref p, v] ∧ Dt Z0 H v dv ∧ ProgOk P w CP H p b d1 d2 d3 d4 ∧ (∀ s md, dv = .str s → modeOf (itemsD d2) s = some md → ∀ u, Dt Z0 H u (itD md 1) → Q u H) ∧
  ((∀ s, dv = .str s → modeOf (itemsD d2) s = none) → EX1 CU "value" v E H)
def spPRowsOf (P : Program) (w : World) (CP CU : Addr) : Sp := fun vs H Q E => ∃ p v dv b d1 d2 d3 d4, vs = [.ref p, v] ∧ Dt Z0 H v dv ∧ ProgOk P w CP H p b d1 d2 d3 d4 ∧ (∀ s md, dv = .str s → modeOf (itemsD d2) s = some md → ∀ u H', Same H H' → H u = none → Dt Z0 H' (.ref u) (.list (itemsD (itD md 2))) → Q (.ref u) H') ∧
  ((∀ s, dv = .str s → modeOf (itemsD d2) s = none) → EX1 CU "value" v E H)
theorem Dt.three {H : Hp} {u : V} {a b c : PyData} (h : Dt Z0 H u (.tuple [a, b, c])) : ∃ p x y z, u = .ref p ∧ H p = some (.tup [x, y, z]) ∧ Dt Z0 H x a ∧ Dt Z0 H y b ∧ Dt Z0 H z c := by
  obtain ⟨p, xs, rfl, dx, hp, _, _⟩ := h.tupOf rfl
  obtain ⟨x, y, z, d, e, f, rfl, eds, h1, h2, h3⟩ := three_dt dx rfl
  cases eds
  exact ⟨p, x, y, z, rfl, hp, h1, h2, h3⟩
theorem atI2 {α : Type} {x y z : α} {xs : List α} : atI (x :: y :: z :: xs) 2 = some z := atI_nat (j := 2) rfl
theorem ok_Program_rule_of {f : Addr} {fd : FuncData} (F : Fun K "rule_of" "Program.rule_of" s_Program_rule_of f fd) (C : PCls K mg CP) (mM : OwnMeth P w K mg base CP 3 "_mode" ["self", "mode"] (spPMode P w CP CU)) : FnOk P w K mg base (L2.CX P w) 4 f fd ["self", "mode"] (spPRuleOf P w CP CU) := by
  refine F.okX sc_Program_rule_of (fun vs H Q E h => ?_) (fun cdv A outer s H vs Q E hr h => ?_)
  · obtain ⟨p, v, dv, b1, d1, d2, d3, d4, rfl, _⟩ := h
    rfl
  · obtain ⟨p, v, dv, b1, d1, d2, d3, d4, rfl, hv, PO, q, qe⟩ := h
    obtain ⟨dx, vr, vm, ve, va, vt, e, _⟩ := id PO.1
    refine ⟨_, pss_one (ps_ret (pe_ix ixt (pe_methO (pv 0) C.cl mM (hr.mono (by decide)) (passes_call (takes_of rfl rfl rfl rfl) (fun _ _ _ _ z => z)) (pa_cons (pv 1) pa_nil)) pe_int (fun _ _ => rfl))), ?_⟩
    refine ⟨_, rfl, p, dx, _, rfl, e, rfl, _, rfl, p, v, dv, b1, d1, d2, d3, d4, rfl, hv, PO, fun s md es em u hu => ?_, qe⟩
    obtain ⟨a, x, y, z, rfl, ha, g0, g1, g2⟩ := hu.three
    exact ⟨a, _, 1, _, rfl, rfl, ha, atI1, q s md es em _ g1⟩
theorem ok_Program_rows_of {f : Addr} {fd : FuncData} (F : Fun K "rows_of" "Program.rows_of" s_Program_rows_of f fd) (C : PCls K mg CP) (PT : PTx K mg aR) (mM : OwnMeth P w K mg base CP 3 "_mode" ["self", "mode"] (spPMode P w CP CU)) : FnOk P w K mg base (L2.CX P w) 4 f fd ["self", "mode"] (spPRowsOf P w CP CU) := by
  have T := PT.T
  refine F.okX sc_Program_rows_of (fun vs H Q E h => ?_) (fun cdv A outer s H vs Q E hr h => ?_)
  · obtain ⟨p, v, dv, b1, d1, d2, d3, d4, rfl, _⟩ := h
    rfl
  · obtain ⟨p, v, dv, b1, d1, d2, d3, d4, rfl, hv, PO, q, qe⟩ := h
    obtain ⟨dx, vr, vm, ve, va, vt, e, _⟩ := id PO.1
    refine ⟨_, pss_one (ps_ret (pe_callTy listS (by rfl) T.list bb_list (pa_cons (pe_ix ixt (pe_methO (pv 0) C.cl mM (hr.mono (by decide)) (passes_call (takes_of rfl rfl rfl rfl) (fun _ _ _ _ z => z)) (pa_cons (pv 1) pa_nil)) pe_int (fun _ _ => rfl)) pa_nil))), ?_⟩
    refine ⟨_, rfl, p, dx, _, rfl, e, rfl, _, rfl, p, v, dv, b1, d1, d2, d3, d4, rfl, hv, PO, fun s md es em u hu => ?_, qe⟩
    obtain ⟨a, x, y, z, rfl, ha, g0, g1, g2⟩ := hu.three
    exact ⟨a, _, 2, _, rfl, rfl, ha, atI2, z, _, rfl, g2, rfl, q s md es em⟩
end
/-! ### a program's row -/
section
theorem ixDK {X : Cx} (un : X.A.units + 64 < cLine) : IxR X (fun x y H Q => ∃ a kvs z v, x = .ref a ∧ y = .str z ∧ H a = some (.dK kvs) ∧ valV kvs (Sum.inr z : L2.Key) = some v ∧ Q v H) := by
  intro value slice pins s σ H x y v u Q I rx ry h hs
  obtain ⟨a, kvs, z, r, rfl, rfl, e, ev, q⟩ := h
  cases rx
  have g : DGet H a (.str z) (some r) := by
    have := DGet.k (k := (Sum.inr z : L2.Key)) e
    rw [ev] at this
    exact this
  exact PyProof.Rows.tail_any (dict_typeIs I g) PySem.F.slot_dict_getitem.lookup (d_getItem (by omega) I g ry fun w' s' I' r' => ⟨r, H, I', r', q⟩) hs
def rowAt (rs : List PyData) (k : List Leaf) : Option PyData := rs.find? fun r => decide (keyL r = k)
def rowFor (rs : List PyData) (i j : Int) : Option PyData := (rowAt rs [.num i, .num j]).or ((rowAt rs [.none, .num j]).or ((rowAt rs [.num i, .none]).or (rowAt rs [.none, .none])))
theorem val_row {H : Hp} {Z : Addr → Prop} {k : List Leaf} : ∀ {rs : List PyData} {kbs : Ents}, Paired (entOk Z H) rs kbs → match rowAt rs k with
    | some r => ∃ v, valT kbs k = some v ∧ Dt Z H v (valD r)
    | none => valT kbs k = none
  | _, _, .nil => rfl
  | r :: rs, x :: kbs, .cons h t => by
    have ih := val_row (k := k) t
    unfold rowAt valT at ih ⊢
    rw [List.find?_cons, List.find?_cons, h.1]
    by_cases c : keyL r = k
    · rw [decide_eq_true c]
      exact ⟨_, rfl, h.2⟩
    · rw [decide_eq_false c]
      exact ih
theorem wrongRow_none {size : Int} {many : Nat} {zs : List Str} : ∀ {ds ks : List PyData} {i : Nat}, wrongRow size many zs ds ks i = none → keyIn (.tuple [.none, .none]) (ks ++ ds.map keyD) = true
  | [], ks, _, e => by
    rw [wrongRow] at e
    split at e
    · simpa using ‹keyIn _ ks = true›
    · cases e
  | d :: ds, ks, i, e => by
    rw [wrongRow] at e
    split at e
    · cases e
    · have z := wrongRow_none e
      simpa using z
theorem eqv_non {d : PyData} (n : NI d) (h : PyData.eqv d .none = true) : leafD d = .none := by
  rcases n with rfl | ⟨i, rfl⟩
  · rfl
  · simp [PyData.eqv] at h
theorem row_last {size : Int} {many : Nat} {zs : List Str} {ds : List PyData} (e : wrongRow size many zs ds [] 0 = none) : ∃ r, rowAt ds [.none, .none] = some r := by
  have z := wrongRow_none e
  rw [List.nil_append] at z
  obtain ⟨k, hk, ek⟩ := List.any_eq_true.mp z
  obtain ⟨d, hd, rfl⟩ := List.mem_map.mp hk
  obtain ⟨_, _, n0, n1⟩ := rowD_NI ((wrongRow_rows e).1 d hd)
  have both : PyData.eqv (itD d 0) .none = true ∧ PyData.eqv (itD d 1) .none = true := by
    unfold keyD at ek
    simpa [PyData.eqv, PyData.eqvAll] using ek
  cases c : rowAt ds [.none, .none] with
  | some r => exact ⟨r, rfl⟩
  | none =>
    refine absurd (List.find?_eq_none.mp c d hd) ?_
    rw [Classical.not_not]
    refine decide_eq_true ?_
    unfold keyL
    rw [eqv_non n0 both.1, eqv_non n1 both.2]
end
/-! ### Program.__getitem__ -/
section
variable {P : Program} {w : World} {K : PySem.W.Frag} {mg : Str → Option Value} {base : Heap} {aR CP CU CS CN : Addr}
abbrev s_Program___getitem__ : Stmt := inClass (top 41) 10
abbrev N_Program___getitem__ : List Str := ["self", "at", "mode", "sign", "remainder", "name", "table", "key"]
theorem sc_Program___getitem__ : FnScope N_Program___getitem__ ["self", "at"] (defScope s_Program___getitem__) := ⟨rfl, rfl, rfl, by decide +kernel, rfl, by decide +kernel, by decide +kernel⟩
def spPGet (P : Program) (w : World) (CP CU CS CN : Addr) : Sp := fun vs H Q E => ∃ p t v0 v1 v2 e0 e1 e2 b d1 d2 d3 d4, vs = [.ref p, .ref t] ∧ H t = some (.tup [v0, v1, v2]) ∧ Dt Z0 H v0 e0 ∧ Dt Z0 H v1 e1 ∧ Dt Z0 H v2 e2 ∧ ProgOk P w CP H p b d1 d2 d3 d4 ∧
  (∀ s md i j row, e0 = .str s → modeOf (itemsD d2) s = some md → e1 = .int i → e2 = .int j → betw e1 (-1) 1 = true → remD e2 (if b < 0 then -b else b) = true → rowFor (itemsD (itD md 2)) i j = some row → ∀ u H', Same H H' → Dt Z0 H' u (valD row) → Q u H') ∧
  ((∀ s, e0 = .str s → modeOf (itemsD d2) s = none) → EX1 CU "value" v0 E H) ∧ ((∃ s md, e0 = .str s ∧ modeOf (itemsD d2) s = some md) → betw e1 (-1) 1 = false → EX1 CS "value" v1 E H) ∧ ((∃ s md, e0 = .str s ∧ modeOf (itemsD d2) s = some md) → betw e1 (-1) 1 = true → remD e2 (if b < 0 then -b else b) = false → EX1 CN "value" v2 E H)
theorem ProgAt.same {H H' : Hp} {p : Addr} {b : Int} {d1 d2 d3 d4 : PyData} (h : ProgAt P w CP H p b d1 d2 d3 d4) (s : Same H H') : ProgAt P w CP H' p b d1 d2 d3 d4 := by
  obtain ⟨dx, vr, vm, ve, va, vt, e, a1, a2, a3, a4, kvs, k1, k2⟩ := h
  exact ⟨dx, vr, vm, ve, va, vt, s _ _ e, a1.fr (Fm.of s), a2.fr (Fm.of s), a3.fr (Fm.of s), a4.fr (Fm.of s), kvs, s _ _ k1, L2.Paired.mapP k2 fun md kv z => ⟨z.1, by
    obtain ⟨D, e, t⟩ := z.2
    exact ⟨D, e, t.same s⟩⟩⟩
theorem tabs_of {H : Hp} {x : Str} {md : PyData} : ∀ {ms : List PyData} {kvs : List (L2.Key × V)}, Paired (fun md (kv : L2.Key × V) => kv.1 = .inr (nmOf md) ∧ ∃ D, kv.2 = .ref D ∧ TabR P w H D (itemsD (itD md 2))) ms kvs → modeOf ms x = some md → ∃ D, valV kvs (Sum.inr x : L2.Key) = some (.ref D) ∧ TabR P w H D (itemsD (itD md 2))
  | _, _, .nil, e => by cases e
  | m :: ms, kv :: kvs, .cons h t, e => by
    unfold modeOf at e
    rw [List.find?_cons] at e
    by_cases c : nmOf m = x
    · rw [decide_eq_true c] at e
      cases e
      obtain ⟨h1, D, h2, h3⟩ := h
      exact ⟨D, by rw [valV_pos (by rw [h1, c]), h2], h3⟩
    · rw [decide_eq_false c] at e
      obtain ⟨D, a, b⟩ := tabs_of t e
      refine ⟨D, ?_, b⟩
      rw [valV_neg (by rw [h.1]; exact fun m => c (by injection m))]
      exact a
theorem ok_Program_getitem {f : Addr} {fd : FuncData} (F : Fun K "__getitem__" "Program.__getitem__" s_Program___getitem__ f fd) (C : PCls K mg CP) (mM : OwnMeth P w K mg base CP 3 "_mode" ["self", "mode"] (spPMode P w CP CU)) (pS : OwnP P w K mg base CP 1 "size" (spPSize P w CP))
    (O_is_between : Ok P w K mg base 2 "is_between" ["value", "low", "high"] spBetw) (O_is_remainder : Ok P w K mg base 3 "is_remainder" ["value", "size"] spRemD) (XS : XRz P w K mg base "InvalidSign" CS 1 (sp1n "value" CS)) (XN : XRz P w K mg base "InvalidNumber" CN 1 (sp1n "value" CN)) :
    FnOk P w K mg base (L2.CX P w) 4 f fd ["self", "at"] (spPGet P w CP CU CS CN) := by
  refine F.okX sc_Program___getitem__ (fun vs H Q E h => ?_) (fun cdv A outer s H vs Q E hr h => ?_)
  · obtain ⟨p, t, v0, v1, v2, e0, e1, e2, b, d1, d2, d3, d4, rfl, _⟩ := h
    rfl
  · obtain ⟨p, t, v0, v1, v2, e0, e1, e2, b, d1, d2, d3, d4, rfl, ht, h0, h1, h2, PO, q, qu, qs, qn⟩ := h
    obtain ⟨dx, vr, vm, ve, va, vt, e, a1, a2, a3, a4, kvs, at_k, pr⟩ := id PO.1
    have pE : Passes (L2.CX P w) (cxOf (L2.CX P w) P w K mg base N_Program___getitem__ "Program.__getitem__" (defScope s_Program___getitem__) f cdv A outer s H E) E := passes_call (takes_of rfl rfl rfl rfl) (fun _ _ _ _ z => z)
    refine ⟨_, (pss_cons (ps_asg (pv 1) (pgT (n := 3) (by rfl) (pgs_cons (pg_name (i := 2) sc_Program___getitem__.nd rfl (.inl rfl)) (pgs_cons (pg_name (i := 3) sc_Program___getitem__.nd rfl (.inl rfl)) (pgs_cons (pg_name (i := 4) sc_Program___getitem__.nd rfl (.inl rfl)) pgs_nil)))))
      (pss_cons (ps_set (i := 5) sc_Program___getitem__.nd rfl (.inl rfl) (pe_ix ixt (pe_methO (pv 0) C.cl mM (hr.mono (by decide)) pE (pa_cons (pv 2) pa_nil)) pe_int (fun _ _ => rfl)))
      (pss_cons (ps_if (pt_not (pt_val (pe_cO O_is_between (hr.mono (by decide)) pass0 rfl (pa_cons (pv 3) (pa_cons (pe_un un_neg pe_int) (pa_cons pe_int pa_nil))))))
        (pss_one (ps_raiseN XS (hr.mono (by decide)) rfl (takes_of rfl rfl rfl rfl) rfl (pa_cons (pv 3) pa_nil)))
        pss_nil)
      (pss_cons (ps_if (pt_not (pt_val (pe_cO O_is_remainder (hr.mono (by decide)) pass0 rfl (pa_cons (pv 4) (pa_cons (pe_propO (pv 0) C.cl pS (hr.mono (by decide)) passL) pa_nil)))))
        (pss_one (ps_raiseN XN (hr.mono (by decide)) rfl (takes_of rfl rfl rfl rfl) rfl (pa_cons (pv 4) pa_nil)))
        pss_nil)
      (pss_cons (ps_set (i := 6) sc_Program___getitem__.nd rfl (.inl rfl) (pe_ix (ixDK hr.units) (pe_fld (pv 0) rfl) (pv 5) (fun _ _ => rfl)))
      (pss_cons (ps_for (passes_of rfl) rfl (pi_seq (pe_tup (pa_cons (pe_tup (pa_cons (pv 3) (pa_cons (pv 4) pa_nil))) (pa_cons (pe_tup (pa_cons pe_non (pa_cons (pv 4) pa_nil))) (pa_cons (pe_tup (pa_cons (pv 3) (pa_cons pe_non pa_nil))) pa_nil))))) (pg_name (i := 7) sc_Program___getitem__.nd rfl (.inl rfl))
        (pss_one (ps_if (pt_cmpR (op_inTab hr.units) (pv 7) (pv 6) (by rfl))
          (pss_one (ps_ret (pe_ix (ixTab hr.units) (pv 6) (pv 7) (fun _ _ => rfl))))
          pss_nil)))
      (pss_one (ps_ret (pe_ix (ixTab hr.units) (pv 6) (pe_tup (pa_cons pe_non (pa_cons pe_non pa_nil))) (fun _ _ => rfl)))))))))), ?_⟩
    refine ⟨_, rfl, t, _, rfl, ht, rfl, _, _, rfl, _, _, rfl, _, _, rfl, rfl, ?_⟩
    refine ⟨_, rfl, p, dx, _, rfl, e, rfl, _, rfl, p, v0, e0, b, d1, d2, d3, d4, rfl, h0, PO, fun s md es em u hu => ?_, qu⟩
    subst es
    obtain ⟨a, x, y, z, rfl, ha, g0, g1, g2⟩ := hu.three
    obtain ⟨sq2, m4, all2⟩ := partsD_all PO.2.1.modes
    have mem : md ∈ itemsD d2 := List.mem_of_find?_eq_some em
    have nme : nmOf md = s := by
      have em2 : (itemsD d2).find? (fun md => decide (nmOf md = s)) = some md := em
      exact of_decide_eq_true (List.find?_some (p := fun md => decide (nmOf md = s)) em2)
    obtain ⟨t1, t2, ⟨nm1, t3, t4⟩, t5⟩ := modeD_parts (all2 md mem)
    rw [t3] at g0
    cases g0
    obtain rfl : nm1 = s := t4.symm.trans nme
    refine ⟨a, _, 0, _, rfl, rfl, ha, atI0, ?_⟩
    dsimp only
    refine PureT.sqn (x := !betw e1 (-1) 1) (PureT.no fun Q q => ⟨_, rfl, _, rfl, v1, e1, _, _, rfl, h1, _, rfl, q _ (Same.refl _)⟩) (fun tt H1 s1 => ?_) (fun ff H1 s1 => ?_)
    · exact ⟨_, rfl, rfl, by show 1 ≤ 1000; decide, flies1 (EX1.same (qs ⟨_, md, rfl, em⟩ (no_tt tt)) s1).now⟩
    refine PureT.sqn (x := !remD e2 (if b < 0 then -b else b)) (PureT.no fun Q q => ⟨_, rfl, _, rfl, p, dx, _, rfl, s1 _ _ e, p, b, d1, d2, d3, d4, rfl, ?pat, v2, e2, _, rfl, h2.fr (Fm.of s1), _, rfl, q _ (Same.refl _)⟩) (fun tt H2 s2 => ?_) (fun ff2 H2 s2 => ?_)
    case pat => exact PO.1.same s1
    · exact ⟨_, rfl, rfl, by show 1 ≤ 1000; decide, flies1 (EX1.same (qn ⟨_, md, rfl, em⟩ (no_ff ff) (no_tt tt)) (s1.trans s2)).now⟩
    have s12 := s1.trans s2
    have bt := no_ff ff
    have rm := no_ff ff2
    obtain ⟨i, rfl⟩ : ∃ i, e1 = .int i := by
      cases e1 <;> first | exact ⟨_, rfl⟩ | cases bt
    obtain ⟨j, rfl⟩ : ∃ j, e2 = .int j := by
      cases e2 <;> first | exact ⟨_, rfl⟩ | cases rm
    cases h0
    cases h1
    cases h2
    obtain ⟨D, ev, tr⟩ := tabs_of pr em
    refine ⟨_, rfl, p, CP, dx, _, _, rfl, s12 _ _ e, C.cl, C.n6, rfl, _, rfl, vt, kvs, nm1, .ref D, rfl, rfl, s12 _ _ at_k, ev, ?_⟩
    refine ⟨_, rfl, _, rfl, by show 2 ≤ sizeLine; decide, fun k1 n1 => ?_⟩
    have s3 : Same H2 (upd H2 k1 (.tup [.int i, .int j])) := Same.new n1
    have y1 : (upd H2 k1 (.tup [.int i, .int j])) k1 = some (.tup [.int i, .int j]) := upd_same
    generalize upd H2 k1 (.tup [.int i, .int j]) = H3 at s3 y1 ⊢
    refine ⟨_, rfl, by show 2 ≤ sizeLine; decide, fun k2 n2 => ?_⟩
    have s4 : Same H3 (upd H3 k2 (.tup [.non, .int j])) := Same.new n2
    have y2 : (upd H3 k2 (.tup [.non, .int j])) k2 = some (.tup [.non, .int j]) := upd_same
    generalize upd H3 k2 (.tup [.non, .int j]) = H4 at s4 y2 ⊢
    refine ⟨_, rfl, by show 2 ≤ sizeLine; decide, fun k3 n3 => ?_⟩
    have s5 : Same H4 (upd H4 k3 (.tup [.int i, .non])) := Same.new n3
    have y3 : (upd H4 k3 (.tup [.int i, .non])) k3 = some (.tup [.int i, .non]) := upd_same
    generalize upd H4 k3 (.tup [.int i, .non]) = H5 at s5 y3 ⊢
    refine ⟨by show 3 ≤ sizeLine; decide, fun k4 n4 => ?_⟩
    have s6 : Same H5 (upd H5 k4 (.tup [.ref k1, .ref k2, .ref k3])) := Same.new n4
    have y4 : (upd H5 k4 (.tup [.ref k1, .ref k2, .ref k3])) k4 = some (.tup [.ref k1, .ref k2, .ref k3]) := upd_same
    generalize upd H5 k4 (.tup [.ref k1, .ref k2, .ref k3]) = H6 at s6 y4 ⊢
    have s26 := ((s3.trans s4).trans s5).trans s6
    have s06 := s12.trans s26
    have x1 := s6 _ _ (s5 _ _ (s4 _ _ y1))
    have x2 := s6 _ _ (s5 _ _ y2)
    have x3 := s6 _ _ y3
    obtain ⟨kbs, tab, pr2⟩ := tr.same s06
    have look : ∀ k, (∃ r, rowAt (itemsD (itD md 2)) k = some r ∧ ∃ v, valT kbs k = some v ∧ Dt Z0 H6 v (valD r)) ∨ (rowAt (itemsD (itD md 2)) k = none ∧ valT kbs k = none) := fun k => by
      have z := val_row (k := k) pr2
      cases c : rowAt (itemsD (itD md 2)) k with
      | some r => rw [c] at z; exact .inl ⟨r, rfl, z⟩
      | none => rw [c] at z; exact .inr ⟨rfl, z⟩
    have q := q nm1 md i j
    refine ⟨k4, _, _, rfl, .inr rfl, y4, fun J wk => for_it wk (fun n σ H' => H' = H6 ∧ rowFor (itemsD (itD md 2)) i j = [rowFor (itemsD (itD md 2)) i j, (rowAt (itemsD (itD md 2)) [.none, .num j]).or ((rowAt (itemsD (itD md 2)) [.num i, .none]).or (rowAt (itemsD (itD md 2)) [.none, .none])), (rowAt (itemsD (itD md 2)) [.num i, .none]).or (rowAt (itemsD (itD md 2)) [.none, .none]), rowAt (itemsD (itD md 2)) [.none, .none]].getD n none ∧
      ∃ w7 : Option V, σ = [some (.ref p), some (.ref t), some (.str nm1), some (.int i), some (.int j), some (.str nm1), some (.ref D), w7]) ⟨rfl, rfl, none, rfl⟩ (fun n σ H' _ z => by rw [z.1]; exact y4) ?_ ?_⟩
    · rintro n x σ H7 H8 hn ⟨rfl, er, w7, rfl⟩ ⟨rfl, ex⟩
      match n, hn with
      | 0, _ =>
        cases ex
        refine ⟨_, rfl, _, rfl, k1, D, [.num i, .num j], kbs, rfl, rfl, x1, tab, _, rfl, ?_⟩
        rcases look [.num i, .num j] with ⟨r, e1, v, e2, dv⟩ | ⟨e1, e2⟩
        · refine iteP (by rw [e2]; rfl) ⟨_, rfl, _, rfl, k1, D, [.num i, .num j], kbs, v, rfl, rfl, x1, tab, e2, ?_⟩
          exact q r rfl em rfl rfl bt rm (by unfold rowFor; rw [e1]; rfl) v _ s06 dv
        · exact iteN (by rw [e2]; decide) ⟨rfl, by unfold rowFor; rw [e1]; rfl, _, rfl⟩
      | 1, _ =>
        cases ex
        refine ⟨_, rfl, _, rfl, k2, D, [.none, .num j], kbs, rfl, rfl, x2, tab, _, rfl, ?_⟩
        rcases look [.none, .num j] with ⟨r, e1, v, e2, dv⟩ | ⟨e1, e2⟩
        · refine iteP (by rw [e2]; rfl) ⟨_, rfl, _, rfl, k2, D, [.none, .num j], kbs, v, rfl, rfl, x2, tab, e2, ?_⟩
          exact q r rfl em rfl rfl bt rm (by rw [er]; show (rowAt _ _).or _ = _; rw [e1]; rfl) v _ s06 dv
        · exact iteN (by rw [e2]; decide) ⟨rfl, by rw [er]; show (rowAt _ _).or _ = _; rw [e1]; rfl, _, rfl⟩
      | 2, _ =>
        cases ex
        refine ⟨_, rfl, _, rfl, k3, D, [.num i, .none], kbs, rfl, rfl, x3, tab, _, rfl, ?_⟩
        rcases look [.num i, .none] with ⟨r, e1, v, e2, dv⟩ | ⟨e1, e2⟩
        · refine iteP (by rw [e2]; rfl) ⟨_, rfl, _, rfl, k3, D, [.num i, .none], kbs, v, rfl, rfl, x3, tab, e2, ?_⟩
          exact q r rfl em rfl rfl bt rm (by rw [er]; show (rowAt _ _).or _ = _; rw [e1]; rfl) v _ s06 dv
        · exact iteN (by rw [e2]; decide) ⟨rfl, by rw [er]; show (rowAt _ _).or _ = _; rw [e1]; rfl, _, rfl⟩
      | n + 3, hn => exact absurd hn (by simp)
    · rintro σ H7 ⟨rfl, er, w7, rfl⟩
      obtain ⟨r, e1⟩ := row_last (rowsErr_none PO.2.1.rows md mem)
      refine ⟨_, rfl, by show 2 ≤ sizeLine; decide, fun k5 n5 => ?_⟩
      have s7 : Same H7 (upd H7 k5 (.tup [.non, .non])) := Same.new n5
      have y5 : (upd H7 k5 (.tup [.non, .non])) k5 = some (.tup [.non, .non]) := upd_same
      rcases look [.none, .none] with ⟨r', e1', v, e2, dv⟩ | ⟨e1', e2⟩
      · refine ⟨k5, D, [.none, .none], kbs, v, rfl, rfl, y5, tab.same s7, e2, ?_⟩
        exact q r' rfl em rfl rfl bt rm (by rw [er]; exact e1') v _ (s06.trans s7) (dv.fr (Fm.of s7))
      · rw [e1] at e1'
        cases e1'
end
/-! ### parts changed -/
section
variable {P : Program} {w : World} {K : PySem.W.Frag} {mg : Str → Option Value} {base : Heap} {aR CP CB CG CM CI CE CR CU : Addr}
theorem inV_no {s : Str} : ∀ {ns : List Str}, s ∉ ns → inV (.str s) (ns.map V.str) = false
  | [], _ => rfl
  | n :: ns, h => by
    have ih := inV_no (s := s) (ns := ns) fun m => h (List.mem_cons_of_mem _ m)
    unfold inV at ih ⊢
    rw [List.map_cons, List.any_cons, ih, Bool.or_false]
    have ne : n ≠ s := fun m => h (by rw [m]; exact List.mem_cons_self)
    unfold eqV
    simp [ne]
theorem wrongAt_of {part : PyData → Bool} : ∀ {ds : List PyData} {ns : List Str} {i : Nat}, (∀ d ∈ ds, part d = true) → (ns ++ ds.map nmOf).Nodup → wrongAt part ds ns i = none
  | [], _, _, _, _ => rfl
  | d :: ds, ns, i, h, n => by
    rw [wrongAt, h d List.mem_cons_self]
    have n2 : (ns ++ [nmOf d] ++ ds.map nmOf).Nodup := by simpa using n
    have no : nmOf d ∉ ns := fun m => by
      rw [List.map_cons, List.nodup_append] at n
      exact n.2.2 _ m _ List.mem_cons_self rfl
    rw [inV_no no, if_neg (by decide)]
    exact wrongAt_of (fun x hx => h x (List.mem_cons_of_mem _ hx)) n2
theorem rowsErr_of {size : Int} {many : Nat} {zs : List Str} : ∀ {ds : List PyData}, (∀ d ∈ ds, wrongRow size many zs (itemsD (itD d 2)) [] 0 = none) → rowsErr size many zs ds = none
  | [], _ => rfl
  | d :: ds, h => by
    rw [rowsErr, h d List.mem_cons_self]
    exact rowsErr_of fun x hx => h x (List.mem_cons_of_mem _ hx)
theorem PartsOk.again {d0 d1 d2 d3 d4 d2' : PyData} (h : PartsOk d0 d1 d2 d3 d4) (sq : isSeq d2' = true) (ln : (itemsD d2').length = (itemsD d2).length) (nm : (itemsD d2').map nmOf = (itemsD d2).map nmOf) (md : ∀ m ∈ itemsD d2', modeD m = true)
    (rw_ : ∀ m ∈ itemsD d2', wrongRow (sizeD d0) (itemsD d1).length ((itemsD d2).map nmOf) (itemsD (itD m 2)) [] 0 = none) : PartsOk d0 (.tuple (itemsD d1)) d2' (.tuple (itemsD d3)) d4 := by
  have s1 : isSeq d1 = true := (partsD_all h.regs).1
  have s2 : isSeq d2 = true := (partsD_all h.modes).1
  have s3 : isSeq d3 = true := by
    have := h.ends
    unfold endsD at this
    exact (Bool.and_eq_true_iff.mp this).1
  refine ⟨h.base, ?_, ?_, ?_, ?_, h.result⟩
  · have z := h.regs
    unfold partsD listD at z ⊢
    rw [s1] at z
    exact z
  · have z := h.modes
    have nn := h.names
    unfold partsD listD at z ⊢
    rw [s2] at z
    rw [sq, ln, wrongAt_of md (by rw [nm]; simpa using nn)]
    exact Bool.and_eq_true_iff.mpr ⟨(Bool.and_eq_true_iff.mp z).1, rfl⟩
  · rw [nm]
    exact rowsErr_of rw_
  · have z := h.ends
    unfold endsD at z ⊢
    rw [s3] at z
    exact z
/-- a mode of another rule, or of the same -/
def ruleM (r : PyData) (md : PyData) : PyData := .tuple [itD md 0, r, .tuple (itemsD (itD md 2))]
theorem ruleM_ok {r md : PyData} (h : modeD md = true) (hr : ruleD r = true) : modeD (ruleM r md) = true ∧ nmOf (ruleM r md) = nmOf md ∧ itemsD (itD (ruleM r md) 2) = itemsD (itD md 2) := by
  obtain ⟨t1, t2, ⟨s, t3, t4⟩, t5⟩ := modeD_parts h
  have n0 : nameD (itD md 0) = true := by
    unfold modeD at h
    simp only [Bool.and_eq_true] at h
    exact h.2.2.1
  refine ⟨?_, ?_, rfl⟩
  · show (true && (decide (3 = 3) && (nameD (itD md 0) && (ruleD r && true)))) = true
    rw [n0, hr]
    rfl
  · unfold ruleM
    rw [t3, t4]
    rfl
theorem PartsOk.under {d0 d1 d2 d3 d4 r : PyData} (h : PartsOk d0 d1 d2 d3 d4) (hr : ruleD r = true) : PartsOk d0 (.tuple (itemsD d1)) (.list ((itemsD d2).map (ruleM r))) (.tuple (itemsD d3)) d4 := by
  obtain ⟨s2, m4, all2⟩ := partsD_all h.modes
  have rs := rowsErr_none h.rows
  refine h.again rfl (List.length_map _) ?_ ?_ ?_
  · show ((itemsD d2).map (ruleM r)).map nmOf = _
    rw [List.map_map]
    exact List.map_congr_left fun md hm => (ruleM_ok (all2 md hm) hr).2.1
  · intro m hm
    obtain ⟨md, hm2, rfl⟩ := List.mem_map.mp hm
    exact (ruleM_ok (all2 md hm2) hr).1
  · intro m hm
    obtain ⟨md, hm2, rfl⟩ := List.mem_map.mp hm
    exact rs md hm2
def MkP (P : Program) (w : World) (K : PySem.W.Frag) (mg : Str → Option Value) (base : Heap) (CP CB CG CM CI CE CR : Addr) : Prop :=
  ∃ (f : Addr) (fd : FuncData), Mk K CP f ∧ FnOk P w K mg base (L2.CX P w) 8 f fd ["self", "base", "registers", "modes", "ends", "result"] (spPInit P w CP CB CG CM CI CE CR) ∧ Binds K fd ["self", "base", "registers", "modes", "ends", "result"] []
theorem pe_mkP {X : Cx} {E : XK} {p pos : Pos} {e1 e2 e3 e4 e5 : Expr} {t : TA} (m : MkP X.prog X.w X.K X.mg X.base CP CB CG CM CI CE CR) (at_ : X.mg "Program" = some (.ref CP)) (hr : Room 9 X.A) (hx : Passes (L2.CX X.prog X.w) X E) (hg : Gl X "Program") (ha : PA X [e1, e2, e3, e4, e5] t)
    (he : starEach [e1, e2, e3, e4, e5] X.env = (false, eval e1 X.env) :: starEach [e2, e3, e4, e5] X.env := by rfl) (hpl : (backTo pos (starEach [e2, e3, e4, e5] X.env)).any (·.1) = false := by rfl) :
    PE X (.Call (.Name "Program" p) [e1, e2, e3, e4, e5] [] pos) (tMake CP (spPInit X.prog X.w CP CB CG CM CI CE CR) [] E t) := by
  obtain ⟨f, fd, M, F, b⟩ := m
  exact pe_make M F hr hg at_ b .nil hx ha (by decide) he hpl
abbrev s_Program_under : Stmt := inClass (top 41) 15
abbrev N_Program_under : List Str := ["self", "rule", "modes", "name", "_", "rows"]
theorem sc_Program_under : FnScope N_Program_under ["self", "rule"] (defScope s_Program_under) := ⟨rfl, rfl, rfl, by decide +kernel, rfl, by decide +kernel, by decide +kernel⟩
def spPUnder (P : Program) (w : World) (CP CL : Addr) : Sp := fun vs H Q E => ∃ p v d b d1 d2 d3 d4, vs = [.ref p, v] ∧ ProgOk P w CP H p b d1 d2 d3 d4 ∧ Dt Z0 H v d ∧ ruleD d = false ∧ EX1 CL "value" v E H
theorem inc_grows {ds : List PyData} (h : incAt ds 0 = true) : ∀ i, i < ds.length → iOf (ds.getD 0 .none) + i ≤ iOf (ds.getD i .none)
  | 0, _ => by simp
  | i + 1, hi => by
    have ih := inc_grows h i (by omega)
    unfold incAt at h
    have z := List.all_eq_true.mp h i (List.mem_range.mpr (by omega))
    have z := of_decide_eq_true z
    rw [Nat.zero_add] at z
    omega
theorem PartsOk.few {d0 d1 d2 d3 d4 : PyData} (h : PartsOk d0 d1 d2 d3 d4) : (itemsD d3).length ≤ 1000 ∧ (itemsD d4).length ≤ 1000 := by
  obtain ⟨_, m3, _⟩ := partsD_all h.regs
  have hb := h.base
  have he := h.ends
  have hf := h.result
  unfold factD at hf
  unfold endsD at he
  simp only [Bool.and_eq_true] at hf he
  refine ⟨?_, ?_⟩
  · rcases Nat.lt_or_ge 1000 (itemsD d3).length with z | z
    · exfalso
      have sz : sizeD d0 ≤ 10 := by
        cases d0 <;> first | cases hb | skip
        rename_i b
        have hb : (betw (.int b) (-10) 10 && decide (2 ≤ b.natAbs)) = true := hb
        have hb := (Bool.and_eq_true_iff.mp hb).1
        have hb : (decide (-10 ≤ b) && decide (b ≤ 10)) = true := hb
        simp only [Bool.and_eq_true, decide_eq_true_eq] at hb
        show (if b < 0 then -b else b) ≤ 10
        split <;> omega
      have at_ : ∀ i, i < (itemsD d3).length → remD ((itemsD d3).getD i .none) (sizeD d0) = true := fun i hi => by
        refine List.all_eq_true.mp he.2.1 _ ?_
        rw [List.getD_eq_getElem?_getD, List.getElem?_eq_getElem hi]
        exact List.getElem_mem hi
      have bd : ∀ {d : PyData}, remD d (sizeD d0) = true → 1 - sizeD d0 ≤ iOf d ∧ iOf d ≤ sizeD d0 - 1 := fun {d} r => by
        cases d <;> first | cases r | skip
        rename_i i
        have r : (decide (1 - sizeD d0 ≤ i) && decide (i ≤ sizeD d0 - 1)) = true := r
        exact ⟨of_decide_eq_true (Bool.and_eq_true_iff.mp r).1, of_decide_eq_true (Bool.and_eq_true_iff.mp r).2⟩
      have g := inc_grows he.2.2 1000 (by omega)
      have a0 := bd (at_ 0 (by omega))
      have a1 := bd (at_ 1000 (by omega))
      omega
    · exact z
  · have l := of_decide_eq_true hf.2.1
    omega
theorem ok_Program_under {f : Addr} {fd : FuncData} {CL : Addr} (F : Fun K "under" "Program.under" s_Program_under f fd) (O_is_rule : Ok P w K mg base 1 "is_rule" ["value"] spRuleD) (XL : XRz P w K mg base "InvalidRule" CL 1 (sp1n "value" CL)) :
    FnOk P w K mg base (L2.CX P w) 3 f fd ["self", "rule"] (spPUnder P w CP CL) := by
  refine F.okX sc_Program_under (fun vs H Q E h => ?_) (fun cdv A outer s H vs Q E hr h => ?_)
  · obtain ⟨p, r, d, b1, d1, d2, d3, d4, rfl, _⟩ := h
    rfl
  · obtain ⟨p, r, d, b1, d1, d2, d3, d4, rfl, PK, hd, rr, q⟩ := h
    refine ⟨_, (pss_cons (ps_if (pt_not (pt_val (pe_cO O_is_rule (hr.mono (by decide)) pass0 rfl (pa_cons (pv 1) pa_nil))))
        (pss_one (ps_raiseN XL (hr.mono (by decide)) rfl (takes_of rfl rfl rfl rfl) rfl (pa_cons (pv 1) pa_nil)))
        pss_nil)
      (pss_cons ps_never (pss_one ps_never))), ?_⟩
    refine ⟨_, rfl, _, _, rfl, hd, _, rfl, iteP (by rw [rr]; rfl) ⟨_, rfl, rfl, by show 1 ≤ 1000; decide, flies1 q.now⟩⟩
end
/-! ### _with_mode -/
section
variable {P : Program} {w : World} {K : PySem.W.Frag} {mg : Str → Option Value} {base : Heap} {aR CP CB CG CM CI CE CR CU : Addr}
abbrev s_Program__with_mode : Stmt := inClass (top 41) 17
abbrev N_Program__with_mode : List Str := ["self", "name", "rule", "rows", "modes", "told"]
theorem sc_Program__with_mode : FnScope N_Program__with_mode ["self", "name", "rule", "rows"] (defScope s_Program__with_mode) := ⟨rfl, rfl, rfl, by decide +kernel, rfl, by decide +kernel, by decide +kernel⟩
/-- the mode nm with another rule, other rows; the others as they are -/
def withM (nm : Str) (ru rw_ md : PyData) : PyData := if nmOf md = nm then .tuple [.str nm, ru, rw_] else normM md
theorem Sz.normM {md : PyData} (h : Sz 4 md) : Sz 4 (W1.normM md) := by
  have z0 := h.item 0
  have z1 := h.item 1
  have z2 := h.item 2
  refine ⟨by show 3 ≤ 1000; decide, fun s e => (by cases e), fun x hx => ?_⟩
  have hx : x = itD md 0 ∨ x = itD md 1 ∨ x = .tuple (itemsD (itD md 2)) := by simpa [W1.normM, itemsD] using hx
  rcases hx with rfl | rfl | rfl
  · exact z0
  · exact z1
  · exact ⟨z2.1, fun s e => (by cases e), z2.2.2⟩
/-- a row of the mode's is wrong -/
def BadWith (P : Program) (w : World) (CP CI : Addr) (vs : List V) (H : Hp) (E : XK) : Prop := ∃ p nm v2 v3 ru rw_ b d1 d2 d3 d4 i, vs = [.ref p, .str nm, v2, v3] ∧ ProgOk P w CP H p b d1 d2 d3 d4 ∧ Dt Z0 H v2 ru ∧ Dt Z0 H v3 rw_ ∧ Sz 4 (.tuple [.str nm, ru, rw_]) ∧
  progErr (.int b) (.tuple (itemsD d1)) (.list ((itemsD d2).map (withM nm ru rw_))) (.tuple (itemsD d3)) d4 = some (.row (.str nm) i) ∧ EX2 CI "mode" (.str nm) "number" (.int (i : Nat)) E H
def spPWith (P : Program) (w : World) (CP CI : Addr) : Sp := fun vs H _ E => BadWith P w CP CI vs H E
theorem ok_Program__with_mode {f : Addr} {fd : FuncData} (F : Fun K "_with_mode" "Program._with_mode" s_Program__with_mode f fd) (C : PCls K mg CP) (mk : MkP P w K mg base CP CB CG CM CI CE CR) :
    FnOk P w K mg base (L2.CX P w) 10 f fd ["self", "name", "rule", "rows"] (spPWith P w CP CI) := by
  refine F.okX sc_Program__with_mode (fun vs H Q E h => ?_) (fun cdv A outer s H vs Q E hr h => ?_)
  · obtain ⟨p, nm, v2, v3, ru, rw_, b1, d1, d2, d3, d4, i9, rfl, _⟩ := h
    rfl
  · obtain ⟨p, nm, v2, v3, ru, rw_, b1, d1, d2, d3, d4, i9, rfl, PK, hu, hw, zn, PU, q⟩ := h
    obtain ⟨⟨dx, vr, vm, ve, va, vt, e, a1, a2, a3, a4, a5⟩, PO, z1, z2⟩ := id PK
    obtain ⟨sq2, m4, all2⟩ := partsD_all PO.modes
    refine ⟨_, (pss_cons (ps_setLc (i := 4) (own := [("told", 5)]) (g := (gName 5)) (tt := tYes) rfl sc_Program__with_mode.nd rfl rfl (sw_true rfl rfl rfl (by decide +kernel)) (pi_seq (pe_fld (pv 0) rfl)) (blkOk_by (N := N_Program__with_mode) (sc := defScope s_Program__with_mode) (by decide +kernel)) (fun _ _ _ _ _ => (pg_name (i := 5) sc_Program__with_mode.nd rfl (by first | exact Or.inl rfl | exact Or.inr rfl))) (fun _ _ _ _ _ => pts_nil) (fun _ _ _ _ _ => (pe_ifExp (pt_cmpR op_eq (pe_ix ixt (pv 5) pe_int (fun _ _ => rfl)) (pv 1) (nomark _)) (pe_tup (pa_cons (pv 1) (pa_cons (pv 2) (pa_cons (pv 3) pa_nil)))) (pv 5))))
      (pss_one (ps_ret (pe_mkP mk C.at_ (hr.mono (by decide)) (passes_call (takes_of rfl rfl rfl rfl) (fun _ _ _ _ z => z)) rfl (pa_cons (pe_fld (pv 0) rfl) (pa_cons (pe_fld (pv 0) rfl) (pa_cons (pv 4) (pa_cons (pe_fld (pv 0) rfl) (pa_cons (pe_fld (pv 0) rfl) pa_nil))))))))), ?_⟩
    cases a2 with
    | tup em _ dm =>
      rename_i xs _
      have ln : xs.length = (itemsD d2).length := by
        have := dm.len
        rw [List.length_map] at this
        exact this
      refine ⟨_, rfl, p, CP, dx, _, _, rfl, e, C.cl, C.n3, rfl, _, _, _, rfl, .inr rfl, em, fun J wk D hD => ?_⟩
      refine lc_dat wk Z0 (fun _ => True) ((itemsD d2).map (withM nm ru rw_)) (by simp [ln]) hD id True.intro (fun _ _ _ _ => True.intro) (by rw [ln]; exact Nat.lt_of_le_of_lt z2.1 (by decide)) (fun G f => f _ _ em id) ?_ ?_
      · intro i x dmd G0 G Qk ed f _ ne y z
        obtain ⟨rfl, ex⟩ := y
        rw [List.getElem?_map] at ed
        obtain ⟨md, e3, rfl⟩ := Option.map_eq_some_iff.mp ed
        obtain ⟨d', e4, dt⟩ := ((DtAll.off' hD dm).fr (Fm.zu f)).get ex
        rw [List.getElem?_map, e3] at e4
        cases e4
        obtain ⟨t1, t2, ⟨nm1, t3, t4⟩, t5⟩ := modeD_parts (all2 md (List.mem_of_getElem? e3))
        obtain ⟨a, ys, rfl, dy, ha, nza, _⟩ := id (dt.tupOf rfl)
        obtain ⟨y0, y1, y2, c0, c1, c2, rfl, eds, w0, w1, w2⟩ := three_dt dy rfl
        have eds : [itD md 0, itD md 1, PyData.tuple (itemsD (itD md 2))] = [c0, c1, c2] := eds
        injection eds with q0 eds
        rw [t3] at q0
        subst q0
        cases w0
        refine ⟨rfl, _, rfl, a, _, 0, _, rfl, rfl, ha, atI0, _, rfl, rfl, _, rfl, ?_⟩
        unfold withM at z
        rw [t4] at z
        by_cases c : nm1 = nm
        · rw [if_pos c] at z
          refine iteP (decide_eq_true (by rw [c])) ⟨_, rfl, _, rfl, _, rfl, by show 3 ≤ sizeLine; decide, fun t nt => ?_⟩
          have s3 : Same G (upd G t (.tup [.str nm, v2, v3])) := Same.new nt
          exact z _ _ (Fm.of s3) True.intro (.tup upd_same (zu_ne id (ne t nt)) (.cons (.str nm) (.cons (((hu.off hD).fr (Fm.zu f)).fr (Fm.of s3)) (.cons (((hw.off hD).fr (Fm.zu f)).fr (Fm.of s3)) .nil))))
        · rw [if_neg c] at z
          exact iteN (sne c) ⟨_, rfl, z _ _ Fm.refl True.intro dt⟩
      · intro G xs5 f _ eD dD
        have s1 : Same H G := f.same
        have e1 := s1 _ _ e
        obtain ⟨l3, l4⟩ := PO.few
        refine ⟨_, rfl, p, CP, dx, _, _, rfl, e1, C.cl, C.n1, rfl, _, rfl, p, CP, dx, _, _, rfl, e1, C.cl, C.n2, rfl, _, rfl, _, rfl, p, CP, dx, _, _, rfl, e1, C.cl, C.n4, rfl, _, rfl, p, CP, dx, _, _, rfl, e1, C.cl, C.n5, rfl, fun c dc hc hd ne => ?_⟩
        have sN : Same G (upd (upd G dc (.own c)) c (.ins CP dc [])) := new_same hc hd
        have up : ∀ {v : V} {d : PyData}, Dt Z0 H v d → Dt Z0 (upd (upd G dc (.own c)) c (.ins CP dc [])) v d := fun h => (h.fr (Fm.of s1)).fr (Fm.of sN)
        have zA : Sz 2 (.tuple (itemsD d1)) := ⟨z1.1, fun s e => (by cases e), z1.2.2⟩
        have zB : Sz 5 (.list ((itemsD d2).map (withM nm ru rw_))) := by
          refine ⟨?_, fun s e => (by cases e), fun x hx => ?_⟩
          · show ((itemsD d2).map (withM nm ru rw_)).length ≤ 1000
            rw [List.length_map]
            exact z2.1
          · obtain ⟨md, hm, rfl⟩ := List.mem_map.mp hx
            unfold withM
            split
            · exact zn
            · exact (z2.2.2 md hm).normM
        refine ⟨c, dc, .int b1, vr, .ref D, ve, va, .int b1, _, _, _, _, rfl, upd_same, .int b1, up a1, (Dt.lst eD id (dD.mono' fun _ m => m.elim)).fr (Fm.of sN), up a3, up a4, zA, zB, l3, l4, fun PU' => ?_, fun e he => ?_⟩
        · rw [partsOk_iff.mpr PU'] at PU
          cases PU
        · rw [PU] at he
          cases he
          exact q.same (s1.trans sN)
end
/-! ### with_rule -/
section
variable {P : Program} {w : World} {K : PySem.W.Frag} {mg : Str → Option Value} {base : Heap} {aR CP CB CG CM CI CE CR CU : Addr}
abbrev s_Program_with_rule : Stmt := inClass (top 41) 14
abbrev N_Program_with_rule : List Str := ["self", "mode", "rule", "name", "_", "rows"]
theorem sc_Program_with_rule : FnScope N_Program_with_rule ["self", "mode", "rule"] (defScope s_Program_with_rule) := ⟨rfl, rfl, rfl, by decide +kernel, rfl, by decide +kernel, by decide +kernel⟩
theorem modeOf_some {ms : List PyData} {s : Str} {md : PyData} (h : modeOf ms s = some md) : md ∈ ms ∧ nmOf md = s := by
  unfold modeOf at h
  exact ⟨List.mem_of_find?_eq_some h, of_decide_eq_true (List.find?_some (p := fun md => decide (nmOf md = s)) h)⟩
theorem modeD_rule {md : PyData} (h : modeD md = true) : ruleD (itD md 1) = true := by
  unfold modeD at h
  simp only [Bool.and_eq_true] at h
  exact h.2.2.2.1
theorem modeD_name {md : PyData} (h : modeD md = true) : itD md 0 = .str (nmOf md) := by
  obtain ⟨t1, t2, ⟨s, t3, t4⟩, t5⟩ := modeD_parts h
  rw [t3, t4]
/-- every mode as it was, the named one with the rule and the rows of md -/
theorem withM_eq {s : Str} {r md m : PyData} (h : modeD md = true) (e : nmOf md = s) : withM s r (.tuple (itemsD (itD md 2))) m = if nmOf m = s then ruleM r md else ruleM (itD m 1) m := by
  unfold withM ruleM normM
  rw [modeD_name h, e]
theorem PartsOk.withRule {d0 d1 d2 d3 d4 r md : PyData} {s : Str} (h : PartsOk d0 d1 d2 d3 d4) (hr : ruleD r = true) (em : modeOf (itemsD d2) s = some md) : PartsOk d0 (.tuple (itemsD d1)) (.list ((itemsD d2).map (withM s r (.tuple (itemsD (itD md 2)))))) (.tuple (itemsD d3)) d4 := by
  obtain ⟨s2, m4, all2⟩ := partsD_all h.modes
  have rs := rowsErr_none h.rows
  obtain ⟨mm, mn⟩ := modeOf_some em
  have mk := all2 md mm
  have go : ∀ m ∈ itemsD d2, modeD (withM s r (.tuple (itemsD (itD md 2))) m) = true ∧ nmOf (withM s r (.tuple (itemsD (itD md 2))) m) = nmOf m ∧
      wrongRow (sizeD d0) (itemsD d1).length ((itemsD d2).map nmOf) (itemsD (itD (withM s r (.tuple (itemsD (itD md 2))) m) 2)) [] 0 = none := fun m hm => by
    rw [withM_eq mk mn]
    split
    · rename_i c
      obtain ⟨a, b, e⟩ := ruleM_ok mk hr
      exact ⟨a, by rw [b, mn, c], by rw [e]; exact rs md mm⟩
    · obtain ⟨a, b, e⟩ := ruleM_ok (all2 m hm) (modeD_rule (all2 m hm))
      exact ⟨a, b, by rw [e]; exact rs m hm⟩
  refine h.again rfl (List.length_map _) ?_ ?_ ?_
  · show ((itemsD d2).map _).map nmOf = _
    rw [List.map_map]
    exact List.map_congr_left fun m hm => (go m hm).2.1
  · intro m hm
    obtain ⟨m0, hm2, rfl⟩ := List.mem_map.mp hm
    exact (go m0 hm2).1
  · intro m hm
    obtain ⟨m0, hm2, rfl⟩ := List.mem_map.mp hm
    exact (go m0 hm2).2.2
def spPWithRule (P : Program) (w : World) (CP CU CL : Addr) : Sp := fun vs H Q E => ∃ p v r dv dr b d1 d2 d3 d4, vs = [.ref p, v, r] ∧ ProgOk P w CP H p b d1 d2 d3 d4 ∧ Dt Z0 H v dv ∧ Dt Z0 H r dr ∧ ruleD dr = false ∧
  ((∀ s, dv = .str s → modeOf (itemsD d2) s = none) → EX1 CU "value" v E H) ∧ ((∃ s md, dv = .str s ∧ modeOf (itemsD d2) s = some md) → EX1 CL "value" r E H)
theorem ok_Program_with_rule {f : Addr} {fd : FuncData} {CL : Addr} (F : Fun K "with_rule" "Program.with_rule" s_Program_with_rule f fd) (C : PCls K mg CP) (O_is_rule : Ok P w K mg base 1 "is_rule" ["value"] spRuleD) (XL : XRz P w K mg base "InvalidRule" CL 1 (sp1n "value" CL)) (mM : OwnMeth P w K mg base CP 3 "_mode" ["self", "mode"] (spPMode P w CP CU)) :
    FnOk P w K mg base (L2.CX P w) 4 f fd ["self", "mode", "rule"] (spPWithRule P w CP CU CL) := by
  refine F.okX sc_Program_with_rule (fun vs H Q E h => ?_) (fun cdv A outer s H vs Q E hr h => ?_)
  · obtain ⟨p, v, r, dv, dr, b1, d1, d2, d3, d4, rfl, _⟩ := h
    rfl
  · obtain ⟨p, v, r, dv, dr, b1, d1, d2, d3, d4, rfl, PK, hv, hd, rr, qu, ql⟩ := h
    obtain ⟨⟨dx, vr, vm, ve, va, vt, e, a1, a2, a3, a4, a5⟩, PO, z1, z2⟩ := id PK
    obtain ⟨sq2, m4, all2⟩ := partsD_all PO.modes
    refine ⟨_, (pss_cons (ps_asg (pe_methO (pv 0) C.cl mM (hr.mono (by decide)) (passes_call (takes_of rfl rfl rfl rfl) (fun _ _ _ _ z => z)) (pa_cons (pv 1) pa_nil)) (pgT (n := 3) (by rfl) (pgs_cons (pg_name (i := 3) sc_Program_with_rule.nd rfl (.inl rfl)) (pgs_cons (pg_name (i := 4) sc_Program_with_rule.nd rfl (.inl rfl)) (pgs_cons (pg_name (i := 5) sc_Program_with_rule.nd rfl (.inl rfl)) pgs_nil)))))
      (pss_cons (ps_if (pt_not (pt_val (pe_cO O_is_rule (hr.mono (by decide)) pass0 rfl (pa_cons (pv 2) pa_nil))))
        (pss_one (ps_raiseN XL (hr.mono (by decide)) rfl (takes_of rfl rfl rfl rfl) rfl (pa_cons (pv 2) pa_nil)))
        pss_nil)
      (pss_one ps_never))), ?_⟩
    refine ⟨_, rfl, p, dx, _, rfl, e, rfl, _, rfl, p, v, dv, b1, d1, d2, d3, d4, rfl, hv, PK, fun s md es em u hu => ?_, qu⟩
    obtain ⟨a, y0, y1, y2, rfl, ha, w0, w1, w2⟩ := hu.three
    refine ⟨a, _, rfl, ha, rfl, _, _, rfl, _, _, rfl, _, _, rfl, rfl, ?_⟩
    exact ⟨_, rfl, _, _, rfl, hd, _, rfl, iteP (by rw [rr]; rfl) ⟨_, rfl, rfl, by show 1 ≤ 1000; decide, flies1 (ql ⟨s, md, es, em⟩).now⟩⟩
end
/-! ### is_same -/
section
variable {P : Program} {w : World} {K : PySem.W.Frag} {mg : Str → Option Value} {base : Heap} {aR : Addr}
def spSame : Sp := fun vs H Q _ => ∃ v0 v1 d0 d1, vs = [v0, v1] ∧ Dt Z0 H v0 d0 ∧ Dt Z0 H v1 d1 ∧ NI d0 ∧ NI d1 ∧ Q (.bl (decide (leafD d0 = leafD d1))) H
abbrev s_is_same : Stmt := top 39
abbrev N_is_same : List Str := ["one", "other"]
theorem sc_is_same : FnScope N_is_same ["one", "other"] (defScope s_is_same) := ⟨rfl, rfl, rfl, by decide +kernel, rfl, by decide +kernel, by decide +kernel⟩
theorem ok_is_same (h : Has K mg "is_same" s_is_same ["one", "other"]) (O_is_integer : Ok P w K mg base 1 "is_integer" ["value"] spIsInt) : Ok P w K mg base 2 "is_same" ["one", "other"] spSame := by
  obtain ⟨f, fd, g, b, F⟩ := h
  refine ⟨f, fd, g, F.kp, b, F.ok sc_is_same (fun vs H Q E h => ?_) (fun cdv A outer s H vs Q E hr h => ?_)⟩
  · obtain ⟨v0, v1, d0, d1, rfl, _⟩ := h
    rfl
  · obtain ⟨v0, v1, d0, d1, rfl, h0, h1, n0, n1, q⟩ := h
    refine ⟨_, (pss_cons (ps_if (pt_cmpR op_isN (pv 0) pe_non (nomark _))
        (pss_one (ps_ret (pe_cmpR op_isN (pv 1) pe_non (nomark _))))
        pss_nil)
      (pss_one (ps_ret (pe_and (pe_cO O_is_integer (hr.mono (by decide)) pass0 rfl (pa_cons (pv 1) pa_nil)) (pe_one (pe_cmpR op_eq (pv 0) (pv 1) (nomark _))))))), ?_⟩
    rcases n0 with rfl | ⟨i, rfl⟩
    · cases h0
      refine ⟨_, rfl, rfl, _, rfl, iteP (by decide) ?_⟩
      refine ⟨_, rfl, rfl, ?_⟩
      rcases n1 with rfl | ⟨j, rfl⟩
      · cases h1
        exact q
      · cases h1
        exact q
    · cases h0
      refine ⟨_, rfl, rfl, _, rfl, iteN (by simp) ?_⟩
      refine ⟨_, rfl, v1, d1, rfl, h1, _, rfl, ?_⟩
      rcases n1 with rfl | ⟨j, rfl⟩
      · refine iteF ?_
        exact q
      · cases h1
        refine iteT ?_
        refine ⟨_, rfl, _, rfl, ?_⟩
        have eq : decide (leafD (.int i) = leafD (.int j)) = decide (V.int i = V.int j) := by
          simp [leafD]
        rw [eq] at q
        exact ⟨rfl, q⟩
end
/-! ### place_of -/
section
variable {P : Program} {w : World} {K : PySem.W.Frag} {mg : Str → Option Value} {base : Heap} {aR : Addr}
/-- the place of the row for the sign and the remainder, or behind the others -/
def placeD (ds : List PyData) (a b : PyData) : Nat := ds.findIdx fun r => decide (leafD (itD r 0) = leafD a) && decide (leafD (itD r 1) = leafD b)
def spPlace : Sp := fun vs H Q _ => ∃ v v1 v2 ds a b, vs = [v, v1, v2] ∧ Dt Z0 H v (.tuple ds) ∧ Dt Z0 H v1 a ∧ Dt Z0 H v2 b ∧ (∀ r ∈ ds, RowS r) ∧ NI a ∧ NI b ∧ ds.length ≤ 1000 ∧ ∀ H', Same H H' → Q (.int (placeD ds a b : Nat)) H'
abbrev s_place_of : Stmt := top 40
abbrev N_place_of : List Str := ["rows", "sign", "remainder", "at", "row"]
theorem sc_place_of : FnScope N_place_of ["rows", "sign", "remainder"] (defScope s_place_of) := ⟨rfl, rfl, rfl, by decide +kernel, rfl, by decide +kernel, by decide +kernel⟩
theorem ok_place_of (h : Has K mg "place_of" s_place_of ["rows", "sign", "remainder"]) (PT : PTx K mg aR) (O_is_same : Ok P w K mg base 2 "is_same" ["one", "other"] spSame) : Ok P w K mg base 3 "place_of" ["rows", "sign", "remainder"] spPlace := by
  obtain ⟨f, fd, g, b, F⟩ := h
  have T := PT.T
  refine ⟨f, fd, g, F.kp, b, F.ok sc_place_of (fun vs H Q E h => ?_) (fun cdv A outer s H vs Q E hr h => ?_)⟩
  · obtain ⟨v, v1, v2, ds, a, b, rfl, _⟩ := h
    rfl
  · obtain ⟨v, v1, v2, ds, a, b, rfl, hd, ha, hb, rws, na, nb, few, q⟩ := h
    obtain ⟨l, xs, rfl, dx, hl, _, _⟩ := hd.tupOf rfl
    have ln := dx.len
    refine ⟨_, (pss_cons (ps_for PassesOwn.never rfl (pi_enumS (by rfl) T.enumerate (pa_cons (pv 0) pa_nil)) (pgT (n := 2) (by rfl) (pgs_cons (pg_name (i := 3) sc_place_of.nd rfl (.inl rfl)) (pgs_cons (pg_name (i := 4) sc_place_of.nd rfl (.inl rfl)) pgs_nil)))
        (pss_one (ps_if (PW.pt (pw_and (pt_val (pe_cO O_is_same (hr.mono (by decide)) pass0 rfl (pa_cons (pe_ix ixt (pv 4) pe_int (fun _ _ => rfl)) (pa_cons (pv 1) pa_nil)))) (pw_and1 (pt_val (pe_cO O_is_same (hr.mono (by decide)) pass0 rfl (pa_cons (pe_ix ixt (pv 4) pe_int (fun _ _ => rfl)) (pa_cons (pv 2) pa_nil)))))))
          (pss_one (ps_ret (pv 3)))
          pss_nil)))
      (pss_one (ps_ret (pe_callB lenT (by rfl) T.len bb_len (pa_cons (pv 0) pa_nil))))), ?_⟩
    refine ⟨_, rfl, l, xs, .tup xs, rfl, .inr rfl, hl, fun J wk => for_it wk (fun i σ H' => Same H H' ∧ placeD ds a b = i + placeD (ds.drop i) a b ∧ ∃ v3 v4 : Option V, σ = [some (.ref l), some v1, some v2, v3, v4])
      ⟨Same.refl _, by simp, none, none, rfl⟩ (fun i σ H' _ z => z.1 _ _ hl) ?_ ?_⟩
    · rintro i x σ H1 H2 hi ⟨s1, ew, v3, v4, rfl⟩ ⟨T', x', y', rfl, hT, rfl, e1, e2⟩
      have e2 : xs[i]? = some y' := e2
      have e1 : some (V.int (i : Nat)) = some x' := e1
      obtain rfl := Option.some.inj e1
      obtain ⟨di, ei, dt⟩ := dx.get e2
      have ei : ds[i]? = some di := ei
      have s2 : Same H1 (upd H1 T' (.tup [.int (i : Nat), y'])) := Same.new hT
      have d2 : (upd H1 T' (.tup [.int (i : Nat), y'])) T' = some (.tup [.int (i : Nat), y']) := upd_same
      generalize upd H1 T' (.tup [.int (i : Nat), y']) = H2 at s2 d2 ⊢
      refine ⟨T', _, rfl, d2, rfl, _, _, rfl, _, _, rfl, rfl, ?_⟩
      have s12 := s1.trans s2
      have dt2 := dt.fr (Fm.of s12)
      obtain ⟨t1, t2, n0, n1⟩ := rws di (List.mem_of_getElem? ei)
      have more : ds.drop i = di :: ds.drop (i + 1) := by
        obtain ⟨lt, e⟩ := List.getElem?_eq_some_iff.mp ei
        rw [List.drop_eq_getElem_cons lt, e]
      obtain ⟨a2, ys, rfl, dy, ha2, _, _⟩ := dt2.tupOf t1
      obtain ⟨y0, y1, y2, y3, c0, c1, c2, c3, rfl, eds, w0, w1, w2, w3⟩ := four_dt dy t2
      have q0 : itD di 0 = c0 := by unfold itD; rw [eds]; rfl
      have q1 : itD di 1 = c1 := by unfold itD; rw [eds]; rfl
      have pl : placeD (ds.drop i) a b = if (decide (leafD c0 = leafD a) && decide (leafD c1 = leafD b)) = true then 0 else placeD (ds.drop (i + 1)) a b + 1 := by
        rw [more]
        unfold placeD
        rw [List.findIdx_cons, q0, q1]
        cases (decide (leafD c0 = leafD a) && decide (leafD c1 = leafD b)) <;> rfl
      rw [q0] at n0
      rw [q1] at n1
      dsimp only
      refine PureT.ifs (x := decide (leafD c0 = leafD a) && decide (leafD c1 = leafD b)) (PureT.and ?c0 ?c1) (fun tt H3 s3 => ?ret) (fun ff H3 s3 => ?go)
      case c0 =>
        exact fun Q q => ⟨_, rfl, a2, _, 0, _, rfl, rfl, ha2, atI0, _, rfl, y0, v1, c0, a, rfl, w0, ha.fr (Fm.of s12), n0, na, _, rfl, q _ (Same.refl _)⟩
      case c1 =>
        exact fun _ H3 s3 Q q => ⟨_, rfl, a2, _, 1, _, rfl, rfl, s3 _ _ ha2, atI1, _, rfl, y1, v2, c1, b, rfl, w1.fr (Fm.of s3), (hb.fr (Fm.of s12)).fr (Fm.of s3), n1, nb, _, rfl, q _ (Same.refl _)⟩
      case ret =>
        have q := q H3 (s12.trans s3)
        rw [ew, pl, if_pos tt] at q
        exact ⟨_, rfl, q⟩
      case go =>
        refine ⟨s12.trans s3, ?_, _, _, rfl⟩
        rw [ew, pl, if_neg (by rw [ff]; decide)]
        omega
    · rintro σ H1 ⟨s1, ew, v3, v4, rfl⟩
      have q := q H1 s1
      have ln : xs.length = ds.length := ln
      have z : placeD ds a b = xs.length := by
        rw [ew, List.drop_eq_nil_of_le (by omega)]
        rfl
      rw [z] at q
      exact ⟨_, rfl, l, _, rfl, .inr (s1 _ _ hl), q⟩
end
/-! ### with_row, by data -/
section
def fitsD (a b d : PyData) : Bool := decide (leafD (itD d 0) = leafD a) && decide (leafD (itD d 1) = leafD b)
/-- the rows with this row in place of the one of its key, or behind the others -/
def setRow (row : PyData) : List PyData → List PyData
  | [] => [row]
  | d :: ds => if fitsD (itD row 0) (itD row 1) d = true then row :: ds else d :: setRow row ds
theorem setRow_eq {row : PyData} : ∀ {ds : List PyData}, setRow row ds = ds.take (placeD ds (itD row 0) (itD row 1)) ++ row :: ds.drop (placeD ds (itD row 0) (itD row 1) + 1)
  | [] => rfl
  | d :: ds => by
    have ih := setRow_eq (row := row) (ds := ds)
    have pl : placeD (d :: ds) (itD row 0) (itD row 1) = if fitsD (itD row 0) (itD row 1) d = true then 0 else placeD ds (itD row 0) (itD row 1) + 1 := by
      unfold placeD fitsD
      rw [List.findIdx_cons]
      cases (decide (leafD (itD d 0) = leafD (itD row 0)) && decide (leafD (itD d 1) = leafD (itD row 1))) <;> rfl
    rw [setRow, pl]
    split
    · rfl
    · rw [ih]
      rfl
theorem eqv_ni {a b : PyData} (n : NI a) (m : NI b) (h : PyData.eqv a b = true) : a = b := by
  rcases n with rfl | ⟨i, rfl⟩ <;> rcases m with rfl | ⟨j, rfl⟩ <;> simp [PyData.eqv] at h ⊢
  exact h
def NIK (k : PyData) : Prop := ∃ a b, k = .tuple [a, b] ∧ NI a ∧ NI b
theorem eqv_nik {k z : PyData} (n : NIK k) (m : NIK z) (h : PyData.eqv z k = true) : z = k := by
  obtain ⟨a, b, rfl, na, nb⟩ := n
  obtain ⟨c, d, rfl, nc, nd⟩ := m
  have both : PyData.eqv c a = true ∧ PyData.eqv d b = true := by simpa [PyData.eqv, PyData.eqvAll] using h
  rw [eqv_ni nc na both.1, eqv_ni nd nb both.2]
theorem keyIn_no {k : PyData} {ks : List PyData} (h : ∀ z ∈ ks, NIK z) (n : NIK k) (no : k ∉ ks) : keyIn k ks = false := by
  refine List.any_eq_false.mpr fun z hz e => no ?_
  rw [← eqv_nik n (h z hz) e]
  exact hz
theorem RowS.nik {d : PyData} (r : RowS d) : NIK (keyD d) := ⟨_, _, rfl, r.2.2.1, r.2.2.2⟩
theorem wrongRow_of {size : Int} {many : Nat} {zs : List Str} : ∀ {ds ks : List PyData} {i : Nat}, (∀ x ∈ ds, rowD x size many zs = true) → (∀ z ∈ ks, NIK z) → (ks ++ ds.map keyD).Nodup → keyIn (.tuple [.none, .none]) (ks ++ ds.map keyD) = true → wrongRow size many zs ds ks i = none
  | [], ks, i, _, _, _, h => by
    rw [wrongRow, if_pos (by simpa using h)]
  | d :: ds, ks, i, hr, hk, n, h => by
    have nk : NIK (keyD d) := RowS.nik (rowD_NI (hr d List.mem_cons_self))
    have no : keyD d ∉ ks := fun m => by
      rw [List.map_cons, List.nodup_append] at n
      exact n.2.2 _ m _ List.mem_cons_self rfl
    rw [wrongRow, hr d List.mem_cons_self, keyIn_no hk nk no, if_neg (by decide)]
    refine wrongRow_of (fun x hx => hr x (List.mem_cons_of_mem _ hx)) (fun z hz => ?_) (by simpa using n) (by simpa using h)
    rcases List.mem_append.mp hz with hz | hz
    · exact hk z hz
    · rw [List.mem_singleton.mp hz]
      exact nk
end
/-! ### with_row -/
section
variable {P : Program} {w : World} {K : PySem.W.Frag} {mg : Str → Option Value} {base : Heap} {aR CP CB CG CM CI CE CR CU : Addr}
theorem rSlA_same {H : Hp} {a : Addr} {xs : List V} {lo hi : Option Int} {Q : VK} (h : H a = some (.tup xs)) (q : ∀ p H', Same H H' → H' p = some (.tup (cutV xs lo hi)) → Q (.ref p) H') : rSlA K (.ref a) lo hi H Q := by
  refine ⟨a, xs, rfl, SqT.of h, fun c => q a H (Same.refl _) ?_, fun _ p hp => q p _ (Same.new hp) upd_same⟩
  have z : cutV xs lo hi = xs := by
    unfold cutV
    rw [c.1, c.2]
    simp
  rw [z]
  exact h
theorem cut_take {xs : List V} {k : Nat} : cutV xs none (some (k : Int)) = xs.take k := by
  unfold cutV
  rw [HT.sIx_none, HT.sIx_nat]
  rcases Nat.le_total k xs.length with h | h
  · rw [Nat.min_eq_left h]
    simp
  · rw [Nat.min_eq_right h, List.take_of_length_le h]
    simp
theorem cut_drop {xs : List V} {k : Nat} : cutV xs (some ((k : Int) + 1)) none = xs.drop (k + 1) := by
  have e : ((k : Int) + 1) = ((k + 1 : Nat) : Int) := by omega
  unfold cutV
  rw [e, HT.sIx_none, HT.sIx_nat]
  rcases Nat.le_total (k + 1) xs.length with h | h
  · rw [Nat.min_eq_left h]
    exact List.take_of_length_le (by rw [List.length_drop]; exact Nat.le_refl _)
  · rw [Nat.min_eq_right h, List.drop_eq_nil_of_le h, List.drop_eq_nil_of_le (Nat.le_refl _)]
    simp
theorem DtAll.put {Z : Addr → Prop} {H : Hp} {y : V} {row : PyData} : ∀ {xs : List V} {ds : List PyData}, DtAll Z H xs ds → Dt Z H y row → ∀ k, DtAll Z H (xs.take k ++ y :: (xs.drop (k + 1) ++ [])) (ds.take k ++ row :: ds.drop (k + 1))
  | _, _, .nil, h, k => by
    simp only [List.take_nil, List.drop_nil]
    exact .cons h .nil
  | _, _, .cons a t, h, 0 => by
    rw [List.append_nil]
    exact .cons h t
  | _, _, .cons a t, h, k + 1 => .cons a (DtAll.put t h k)
abbrev s_Program_with_row : Stmt := inClass (top 41) 16
abbrev N_Program_with_row : List Str := ["self", "mode", "sign", "remainder", "updates", "then", "name", "rule", "rows", "at", "row"]
theorem sc_Program_with_row : FnScope N_Program_with_row ["self", "mode", "sign", "remainder", "updates", "then"] (defScope s_Program_with_row) := ⟨rfl, rfl, rfl, by decide +kernel, rfl, by decide +kernel, by decide +kernel⟩
theorem wrongRow_bad {size : Int} {many : Nat} {zs : List Str} {ds : List PyData} {x : PyData} (m : x ∈ ds) (b : rowD x size many zs = false) : ∃ i, wrongRow size many zs ds [] 0 = some i := by
  cases e : wrongRow size many zs ds [] 0 with
  | some i => exact ⟨i, rfl⟩
  | none =>
    rw [(wrongRow_rows e).1 x m] at b
    cases b
theorem rowsErr_bad {size : Int} {many : Nat} {zs : List Str} {nm : Str} {i : Nat} : ∀ {ds : List PyData}, (∀ d ∈ ds, (nmOf d = nm ∧ wrongRow size many zs (itemsD (itD d 2)) [] 0 = some i) ∨ wrongRow size many zs (itemsD (itD d 2)) [] 0 = none) → (∃ d ∈ ds, nmOf d = nm ∧ wrongRow size many zs (itemsD (itD d 2)) [] 0 = some i) → rowsErr size many zs ds = some (.row (.str nm) i)
  | [], _, h => by
    obtain ⟨d, m, _⟩ := h
    cases m
  | d :: ds, a, h => by
    rcases a d List.mem_cons_self with ⟨z1, z2⟩ | z
    · rw [rowsErr, z2, z1]
    · rw [rowsErr, z]
      refine rowsErr_bad (fun x m => a x (List.mem_cons_of_mem _ m)) ?_
      obtain ⟨d', m, z1, z2⟩ := h
      rcases List.mem_cons.mp m with rfl | m
      · rw [z] at z2
        cases z2
      · exact ⟨d', m, z1, z2⟩
theorem PartsOk.badRow {d0 d1 d2 d3 d4 r md : PyData} {s : Str} {rs : List PyData} {i : Nat} (h : PartsOk d0 d1 d2 d3 d4) (hr : ruleD r = true) (em : modeOf (itemsD d2) s = some md) (bad : wrongRow (sizeD d0) (itemsD d1).length ((itemsD d2).map nmOf) rs [] 0 = some i) :
    progErr d0 (.tuple (itemsD d1)) (.list ((itemsD d2).map (withM s r (.tuple rs)))) (.tuple (itemsD d3)) d4 = some (.row (.str s) i) := by
  obtain ⟨s1, m1, all1⟩ := partsD_all h.regs
  obtain ⟨s2, m4, all2⟩ := partsD_all h.modes
  have ro := rowsErr_none h.rows
  obtain ⟨mm, mn⟩ := modeOf_some em
  have mk := all2 md mm
  have nd : nameD (.str s) = true := by
    have z := mk
    unfold modeD at z
    simp only [Bool.and_eq_true] at z
    have z := z.2.2.1
    rw [modeD_name mk, mn] at z
    exact z
  have nms : ((itemsD d2).map (withM s r (.tuple rs))).map nmOf = (itemsD d2).map nmOf := by
    rw [List.map_map]
    refine List.map_congr_left fun m hm => ?_
    show nmOf (withM s r (.tuple rs) m) = nmOf m
    unfold withM
    split
    · rename_i c
      exact c.symm
    · have e : normM m = ruleM (itD m 1) m := rfl
      rw [e]
      exact (ruleM_ok (all2 m hm) (modeD_rule (all2 m hm))).2.1
  have regs : partsD regD 3 (.tuple (itemsD d1)) = true := by
    have z := h.regs
    unfold partsD listD at z ⊢
    rw [s1] at z
    exact z
  have modes : partsD modeD 4 (.list ((itemsD d2).map (withM s r (.tuple rs)))) = true := by
    have z := h.modes
    have nn := h.names
    unfold partsD listD at z ⊢
    rw [s2] at z
    have mds : ∀ m ∈ (itemsD d2).map (withM s r (.tuple rs)), modeD m = true := fun m hm => by
      obtain ⟨m0, hm0, rfl⟩ := List.mem_map.mp hm
      unfold withM
      split
      · show (true && (decide (3 = 3) && (nameD (.str s) && (ruleD r && true)))) = true
        rw [nd, hr]
        rfl
      · have e : normM m0 = ruleM (itD m0 1) m0 := rfl
        rw [e]
        exact (ruleM_ok (all2 m0 hm0) (modeD_rule (all2 m0 hm0))).1
    show (true && (decide ((1 : Int) ≤ (((itemsD d2).map (withM s r (.tuple rs))).length : Int)) && decide ((((itemsD d2).map (withM s r (.tuple rs))).length : Int) ≤ 4)) && (wrongAt modeD ((itemsD d2).map (withM s r (.tuple rs))) [] 0).isNone) = true
    rw [wrongAt_of mds (by rw [nms]; simpa using nn), List.length_map]
    exact Bool.and_eq_true_iff.mpr ⟨(Bool.and_eq_true_iff.mp z).1, rfl⟩
  have rows : rowsErr (sizeD d0) (itemsD d1).length ((itemsD d2).map nmOf) ((itemsD d2).map (withM s r (.tuple rs))) = some (.row (.str s) i) := by
    refine rowsErr_bad (fun m hm => ?_) ⟨_, List.mem_map.mpr ⟨md, mm, rfl⟩, ?_⟩
    · obtain ⟨m0, hm0, rfl⟩ := List.mem_map.mp hm
      unfold withM
      split
      · exact .inl ⟨rfl, bad⟩
      · exact .inr (ro m0 hm0)
    · unfold withM
      rw [if_pos mn]
      exact ⟨rfl, bad⟩
  unfold progErr
  rw [h.base, regs, modes, if_neg (by decide), if_neg (by decide), if_neg (by decide)]
  show (match rowsErr (sizeD d0) (itemsD d1).length (((itemsD d2).map (withM s r (.tuple rs))).map nmOf) ((itemsD d2).map (withM s r (.tuple rs))) with | some e => some e | none => _) = _
  rw [nms, rows]
theorem setRow_has {row : PyData} : ∀ {ds : List PyData}, row ∈ setRow row ds
  | [] => List.mem_cons_self
  | d :: ds => by
    rw [setRow]
    split
    · exact List.mem_cons_self
    · exact List.mem_cons_of_mem _ setRow_has
def spPWithRow (P : Program) (w : World) (CP CU CI : Addr) : Sp := fun vs H Q E => ∃ p v v2 v3 v4 v5 dv a0 b0 u0 t0 b d1 d2 d3 d4, vs = [.ref p, v, v2, v3, v4, v5] ∧ ProgOk P w CP H p b d1 d2 d3 d4 ∧ Dt Z0 H v dv ∧ Dt Z0 H v2 a0 ∧ Dt Z0 H v3 b0 ∧ Dt Z0 H v4 u0 ∧ Dt Z0 H v5 t0 ∧
  ((∀ s, dv = .str s → modeOf (itemsD d2) s = none) → EX1 CU "value" v E H) ∧
  (∀ s md, dv = .str s → modeOf (itemsD d2) s = some md → NI a0 ∧ NI b0 ∧ rowD (.tuple [a0, b0, u0, t0]) (sizeD (.int b)) (itemsD d1).length ((itemsD d2).map nmOf) = false ∧ Sz 3 (.tuple (setRow (.tuple [a0, b0, u0, t0]) (itemsD (itD md 2)))) ∧ ∀ i : Nat, EX2 CI "mode" (.str s) "number" (.int i) E H)
theorem ok_Program_with_row {f : Addr} {fd : FuncData} (F : Fun K "with_row" "Program.with_row" s_Program_with_row f fd) (C : PCls K mg CP) (O_place_of : Ok P w K mg base 3 "place_of" ["rows", "sign", "remainder"] spPlace) (mM : OwnMeth P w K mg base CP 3 "_mode" ["self", "mode"] (spPMode P w CP CU))
    (mW : OwnMeth P w K mg base CP 10 "_with_mode" ["self", "name", "rule", "rows"] (spPWith P w CP CI)) :
    FnOk P w K mg base (L2.CX P w) 11 f fd ["self", "mode", "sign", "remainder", "updates", "then"] (spPWithRow P w CP CU CI) := by
  refine F.okX sc_Program_with_row (fun vs H Q E h => ?_) (fun cdv A outer s H vs Q E hr h => ?_)
  · obtain ⟨p, v, v2, v3, v4, v5, dv, a0, b0, u0, t0, b1, d1, d2, d3, d4, rfl, _⟩ := h
    rfl
  · obtain ⟨p, v, v2, v3, v4, v5, dv, a0, b0, u0, t0, b1, d1, d2, d3, d4, rfl, PK, hv, h2, h3, h4, h5, qu, qr⟩ := h
    obtain ⟨⟨dx, vr, vm, ve, va, vt, e, a1, a2, a3, a4, a5⟩, PO, z1, z2⟩ := id PK
    obtain ⟨sq2, m4, all2⟩ := partsD_all PO.modes
    refine ⟨_, (pss_cons (ps_asg (pe_methO (pv 0) C.cl mM (hr.mono (by decide)) (passes_call (takes_of rfl rfl rfl rfl) (fun _ _ _ _ z => z)) (pa_cons (pv 1) pa_nil)) (pgT (n := 3) (by rfl) (pgs_cons (pg_name (i := 6) sc_Program_with_row.nd rfl (.inl rfl)) (pgs_cons (pg_name (i := 7) sc_Program_with_row.nd rfl (.inl rfl)) (pgs_cons (pg_name (i := 8) sc_Program_with_row.nd rfl (.inl rfl)) pgs_nil)))))
      (pss_cons (ps_set (i := 9) sc_Program_with_row.nd rfl (.inl rfl) (pe_cO O_place_of (hr.mono (by decide)) pass0 rfl (pa_cons (pv 8) (pa_cons (pv 2) (pa_cons (pv 3) pa_nil)))))
      (pss_cons (ps_set (i := 10) sc_Program_with_row.nd rfl (.inl rfl) (pe_tup (pa_cons (pv 2) (pa_cons (pv 3) (pa_cons (pv 4) (pa_cons (pv 5) pa_nil))))))
      (pss_one (ps_ret (pe_methO (pv 0) C.cl mW (hr.mono (by decide)) (passes_call (takes_of rfl rfl rfl rfl) (fun _ _ _ _ z => z)) (pa_cons (pv 6) (pa_cons (pv 7) (pa_cons (pe_tup (StX.pa_star (pe_slice sl_tupA (pv 8) po_none (po_some (pv 9))) (pa_cons (pv 10) (StX.pa_star (pe_slice sl_tupA (pv 8) (po_some (pe_op op_add (pv 9) pe_int)) po_none) pa_nil)))) pa_nil))))))))), ?_⟩
    refine ⟨_, rfl, p, dx, _, rfl, e, rfl, _, rfl, p, v, dv, b1, d1, d2, d3, d4, rfl, hv, PK, fun nm md es em u hu => ?_, qu⟩
    · obtain ⟨mm, mn⟩ := modeOf_some em
      obtain ⟨na, nb, rok, zr, q⟩ := qr nm md es em
      have rws := (PO.row mm).1
      have few := ((z2.2.2 md mm).item 2).1
      obtain ⟨a, y0, y1, y2, rfl, ha, w0, w1, w2⟩ := hu.three
      rw [modeD_name (all2 md mm), mn] at w0
      cases w0
      refine ⟨a, _, rfl, ha, rfl, _, _, rfl, _, _, rfl, _, _, rfl, rfl, ?_⟩
      refine ⟨_, rfl, _, rfl, _, rfl, _, _, _, _, _, _, rfl, w2, h2, h3, rws, na, nb, few, fun G1 s1 => ?_⟩
      refine ⟨_, rfl, _, rfl, _, rfl, _, rfl, by show 4 ≤ sizeLine; decide, fun t nt => ?_⟩
      have s2 : Same G1 (upd G1 t (.tup [v2, v3, v4, v5])) := Same.new nt
      have d2' : (upd G1 t (.tup [v2, v3, v4, v5])) t = some (.tup [v2, v3, v4, v5]) := upd_same
      generalize upd G1 t (.tup [v2, v3, v4, v5]) = G2 at s2 d2' ⊢
      have s12 := s1.trans s2
      obtain ⟨l8, xs8, rfl, dx8, hl8, _, _⟩ := w2.tupOf rfl
      refine ⟨_, rfl, p, dx, _, rfl, s12 _ _ e, rfl, _, rfl, _, rfl, _, rfl, _, rfl, _, rfl, rSlA_same (s12 _ _ hl8) fun p1 G3 s3 e3 => ?_⟩
      rw [cut_take] at e3
      refine ⟨p1, _, rfl, .inl (SqT.of e3), _, rfl, _, rfl, _, rfl, _, _, rfl, rfl, _, rfl, ?_⟩
      dsimp only [tNoPart]
      refine rSlA_same (s3 _ _ (s12 _ _ hl8)) fun p2 G4 s4 e4 => ?_
      rw [cut_drop] at e4
      have s14 := (s12.trans s3).trans s4
      have ln := dx8.len
      have dall := (DtAll.put (dx8.fr (Fm.of s14)) (.tup ((s3.trans s4) _ _ d2') id (.cons (h2.fr (Fm.of s14)) (.cons (h3.fr (Fm.of s14)) (.cons (h4.fr (Fm.of s14)) (.cons (h5.fr (Fm.of s14)) .nil))))) (placeD (itemsD (itD md 2)) a0 b0))
      refine ⟨p2, _, rfl, .inl (SqT.of e4), ?_, fun c nc => ?_⟩
      · have l8 : xs8.length = (itemsD (itD md 2)).length := ln
        have sl : 1001 ≤ sizeLine := by decide
        simp only [List.length_append, List.length_take, List.length_cons, List.length_drop, List.length_nil]
        omega
      · have s5 : Same G4 (upd G4 c (.tup (List.take (placeD (itemsD (itD md 2)) a0 b0) xs8 ++ V.ref t :: (List.drop (placeD (itemsD (itD md 2)) a0 b0 + 1) xs8 ++ [])))) := Same.new nc
        have s15 := s14.trans s5
        have zz := z2.2.2 md mm
        have n0 := zz.item 0
        rw [modeD_name (all2 md mm), mn] at n0
        obtain ⟨i9, bad⟩ := wrongRow_bad (ds := setRow (.tuple [a0, b0, u0, t0]) (itemsD (itD md 2))) setRow_has rok
        refine ⟨p, nm, y1, .ref c, itD md 1, .tuple (setRow (.tuple [a0, b0, u0, t0]) (itemsD (itD md 2))), b1, d1, d2, d3, d4, i9, rfl, ⟨PK.1.same s15, PO, z1, z2⟩, w1.fr (Fm.of s15), .tup upd_same id ?_, ⟨by show 3 ≤ 1000; decide, fun s e => (by cases e), fun x hx => ?_⟩, PO.badRow (modeD_rule (all2 md mm)) em bad, (q i9).same s15⟩
        · rw [setRow_eq]
          exact dall.fr (Fm.of s5)
        · have hx : x = .str nm ∨ x = itD md 1 ∨ x = .tuple (setRow (.tuple [a0, b0, u0, t0]) (itemsD (itD md 2))) := by simpa [itemsD] using hx
          rcases hx with rfl | rfl | rfl
          · exact n0
          · exact zz.item 1
          · exact zr
end
/-! ### parts that are a program's may be compared -/
section
theorem shp_str {s : Str} (h : PyData.strOk s = true) : Shp 0 (.str s) := ⟨by simpa [PyData.canLay0] using h, by simp [PyData.depth]⟩
theorem inV_mem {s : Str} {zs : List Str} (h : inV (.str s) (zs.map V.str) = true) : s ∈ zs := by
  apply Classical.byContradiction
  intro n
  induction zs with
  | nil => cases h
  | cons z zs ih =>
    unfold inV at h
    rw [List.map_cons, List.any_cons] at h
    rcases Bool.or_eq_true_iff.mp h with e | e
    · refine n ?_
      have : s = z := by
        unfold eqV at e
        exact (by simpa using e : z = s).symm
      rw [this]
      exact List.mem_cons_self
    · exact ih e fun m => n (List.mem_cons_of_mem _ m)
theorem isTup_eq {d : PyData} (h : isTup d = true) : d = .tuple (itemsD d) := by
  cases d <;> first | rfl | cases h
theorem items_of {d : PyData} {n : Nat} (h : (itemsD d).length = n) : itemsD d = (List.range n).map (itD d) := by
  refine List.ext_getElem (by simp [h]) fun i h1 h2 => ?_
  rw [List.getElem_map, List.getElem_range]
  unfold itD
  rw [List.getD_eq_getElem?_getD, List.getElem?_eq_getElem h1]
  rfl
end
/-! ### what the law draws: updates, next modes -/
section
variable {P : Program} {w : World} {K : PySem.W.Frag} {mg : Str → Option Value} {base : Heap} {aR : Addr}
abbrev s__law_then : Stmt := top 55
theorem sc__law_then : FnScope ["_law_pool_here", "_law_names"] ["_law_pool_here", "_law_names"] (defScope s__law_then) := ⟨rfl, rfl, rfl, by decide +kernel, rfl, by decide +kernel, by decide +kernel⟩
def spThen : Sp := fun vs H Q _ => ∃ (pp l : Addr) (zs : List Str), vs = [.ref pp, .ref l] ∧ PoolAt H pp ∧ H l = some (.lst (zs.map V.str)) ∧ l ≠ pp ∧ 0 < zs.length ∧ zs.length < 1000 ∧ ∀ v H', (v = .non ∨ ∃ z, v = .str z ∧ z ∈ zs) → PoolAt H' pp → Keep pp H H' → Q v H'
theorem ok__law_then (h : Has K mg "_law_then" s__law_then ["_law_pool_here", "_law_names"]) (O__law_draw : Ok P w K mg base 1 "_law_draw" ["_law_pool_here", "_law_many"] spDraw) (O__law_choose : Ok P w K mg base 2 "_law_choose" ["_law_pool_here", "_law_items"] (spChoose K)) : Ok P w K mg base 3 "_law_then" ["_law_pool_here", "_law_names"] spThen := by
  obtain ⟨f, fd, g, b, F⟩ := h
  refine ⟨f, fd, g, F.kp, b, F.ok sc__law_then (fun vs H Q E h => ?_) (fun cdv A outer s H vs Q E hr h => ?_)⟩
  · obtain ⟨pp, l, zs, rfl, _⟩ := h
    rfl
  · obtain ⟨pp, l, zs, rfl, hP, hl, ne, n0, n1, q⟩ := h
    refine ⟨_, (pss_one (ps_ret (pe_ifExp (pt_cmpR op_eq (pe_cO O__law_draw (hr.mono (by decide)) pass0 rfl (pa_cons (pv 0) (pa_cons pe_int pa_nil))) pe_int (nomark _)) pe_non (pe_cO O__law_choose (hr.mono (by decide)) pass0 rfl (pa_cons (pv 0) (pa_cons (pv 1) pa_nil)))))), ?_⟩
    refine ⟨_, rfl, pp, 6, rfl, by decide, ⟨by decide, by decide⟩, hP, fun d H1 d0 d1 P1 k1 => ?_⟩
    refine ⟨rfl, _, rfl, ite2 (fun c => ?_) (fun c => ?_)⟩
    · exact q .non H1 (.inl rfl) P1 k1
    · refine ⟨_, rfl, _, rfl, pp, l, zs.map V.str, rfl, SqL.of (k1 _ _ hl ne), ne, by rw [List.length_map]; exact n0, by rw [List.length_map]; omega, P1, fun v H2 hv P2 k2 => ?_⟩
      obtain ⟨z, hz, rfl⟩ := List.mem_map.mp hv
      exact q _ H2 (.inr ⟨z, rfl, hz⟩) P2 (k1.trans k2)
/-- updates of a row stand at the places us -/
def UpsAt (H : Hp) (us : List Addr) (uss : List (List Int)) : Prop := us.length = uss.length ∧ ∀ (i : Nat) (ut : Addr) (fs : List Int), us[i]? = some ut → uss[i]? = some fs → H ut = some (.tup (fs.map V.int))
theorem UpsAt.keep {pp : Addr} {H H' : Hp} {us : List Addr} {uss : List (List Int)} (h : UpsAt H us uss) (k : Keep pp H H') (P : PoolAt H pp) : UpsAt H' us uss := by
  refine ⟨h.1, fun i ut fs e1 e2 => ?_⟩
  have a := h.2 i ut fs e1 e2
  obtain ⟨c, z, _, _, hp⟩ := P
  exact k _ _ a fun e => by rw [e, hp] at a; cases a
theorem UpsAt.other {H : Hp} {D : Addr} {xs : List V} {o : HO} {us : List Addr} {uss : List (List Int)} (h : UpsAt H us uss) (hD : H D = some (.lst xs)) : UpsAt (upd H D o) us uss := by
  refine ⟨h.1, fun i ut fs e1 e2 => ?_⟩
  have a := h.2 i ut fs e1 e2
  rw [upd_ne (fun e => by rw [e, hD] at a; cases a)]
  exact a
theorem UpsAt.snoc {H : Hp} {p : Addr} {fs : List Int} {us : List Addr} {uss : List (List Int)} (h : UpsAt H us uss) (hp : H p = some (.tup (fs.map V.int))) : UpsAt H (us ++ [p]) (uss ++ [fs]) := by
  refine ⟨by rw [List.length_append, List.length_append, h.1]; rfl, fun i c r e1 e2 => ?_⟩
  by_cases hi : i < us.length
  · rw [List.getElem?_append_left hi] at e1
    rw [List.getElem?_append_left (by rw [← h.1]; exact hi)] at e2
    exact h.2 i c r e1 e2
  · rw [List.getElem?_append_right (by omega)] at e1
    rw [List.getElem?_append_right (by rw [← h.1]; omega)] at e2
    have l1 := (List.getElem?_eq_some_iff.mp e1).1
    have z1 : i - us.length = 0 := by simpa using l1
    have z2 : i - uss.length = 0 := by rw [← h.1]; exact z1
    rw [z1] at e1
    rw [z2] at e2
    cases e1
    cases e2
    exact hp
end
section
variable {P : Program} {w : World} {K : PySem.W.Frag} {mg : Str → Option Value} {base : Heap} {aR : Addr}
abbrev s__law_updates : Stmt := top 54
abbrev NU : List Str := ["_law_pool_here", "_law_many", "_law_greatest", "_law_found", "_law_place", "_law_turn"]
theorem sc__law_updates : FnScope NU ["_law_pool_here", "_law_many", "_law_greatest"] (defScope s__law_updates) := ⟨rfl, rfl, rfl, by decide +kernel, rfl, by decide +kernel, by decide +kernel⟩
def spUpdates : Sp := fun vs H Q _ => ∃ (pp : Addr) (many : Nat) (gr : Int), vs = [.ref pp, .int many, .int gr] ∧ many ≤ 3 ∧ 0 ≤ gr ∧ gr ≤ 1000 ∧ PoolAt H pp ∧ ∀ (u : Addr) (us : List Addr) (uss : List (List Int)) H', PoolAt H' pp → Keep pp H H' → H' u = some (.tup (us.map V.ref)) → UpsAt H' us uss → uss.length = many → (∀ fs ∈ uss, fs.length = many + 2 ∧ ∀ x ∈ fs, -gr ≤ x ∧ x ≤ gr) → Q (.ref u) H'
theorem ok__law_updates (h : Has K mg "_law_updates" s__law_updates ["_law_pool_here", "_law_many", "_law_greatest"]) (T : Txt K mg aR) (O__law_draw : Ok P w K mg base 1 "_law_draw" ["_law_pool_here", "_law_many"] spDraw) : Ok P w K mg base 2 "_law_updates" ["_law_pool_here", "_law_many", "_law_greatest"] spUpdates := by
  obtain ⟨f, fd, g, b, F⟩ := h
  refine ⟨f, fd, g, F.kp, b, F.ok sc__law_updates (fun vs H Q E h => ?_) (fun cdv A outer s H vs Q E hr h => ?_)⟩
  · obtain ⟨pp, many, gr, rfl, _⟩ := h
    rfl
  · obtain ⟨pp, many, gr, rfl, m3, g0, g1, hP, q⟩ := h
    refine ⟨_, (pss_cons (ps_set (i := 3) sc__law_updates.nd rfl (Or.inl rfl) (pe_lst pa_nil))
      (pss_cons (ps_for PassesOwn.never rfl (pi_range1 rfl T.range (pa_cons (pv 1) pa_nil)) (pg_name (i := 4) sc__law_updates.nd rfl (.inl rfl))
        (pss_one (ps_expr (pe_bm PySem.F.plainAttrs_list PySem.F.slot_list_append PySem.F.type_list_append mt_append (pv 3) (pa_cons (pe_callTy call_tuple_of (by rfl) T.tuple (by decide +kernel) (pa_cons (pe_lc (own := [("_law_turn", 5)]) (g := gName 5) (tt := tYes) rfl sc__law_updates.nd (pi_range1 rfl T.range (pa_cons (pe_op op_add (pv 1) pe_int) pa_nil)) (blkOk_by (N := NU) (sc := defScope s__law_updates) (by decide +kernel)) (fun _ _ _ _ _ => pg_name (i := 5) sc__law_updates.nd rfl (Or.inl rfl)) (fun _ _ _ _ _ => pts_nil)
          (fun _ _ _ _ _ => pe_op op_sub (pe_cO O__law_draw (hr.mono (by decide)) pass0 rfl (pa_cons (pv 0) (pa_cons (pe_op op_add (pe_op op_mulS pe_int (pv 2)) pe_int) pa_nil))) (pv 2))) pa_nil)) pa_nil)))))
      (pss_one (ps_ret (pe_callTy call_tuple_of (by rfl) T.tuple (by decide +kernel) (pa_cons (pv 3) pa_nil)))))), ?_⟩
    refine ⟨by show 0 ≤ sizeLine; decide, fun D hD => ?_⟩
    have neD : D ≠ pp := hP.ne hD
    refine ⟨_, rfl, many, rfl, by omega, by omega, for_range (n := (many : Int).toNat) (fun i σ H' => Keep pp H H' ∧ PoolAt H' pp ∧ (∃ (us : List Addr) (uss : List (List Int)), H' D = some (.lst (us.map V.ref)) ∧ UpsAt H' us uss ∧ uss.length = i ∧ ∀ fs ∈ uss, fs.length = many + 2 ∧ ∀ x ∈ fs, -gr ≤ x ∧ x ≤ gr) ∧ ∃ v4 v5 : Option V, σ = [some (.ref pp), some (.int many), some (.int gr), some (.ref D), v4, v5])
      ⟨Same.keep (Same.new hD), hP.same (Same.new hD), ⟨[], [], upd_same, ⟨rfl, fun i a r e => nomatch e⟩, rfl, fun fs e => nomatch e⟩, none, none, rfl⟩ ?_ ?_⟩
    · rintro i σ H1 hi ⟨k1, P1, ⟨us, uss, h1, hu, hl, hf⟩, v4, v5, rfl⟩
      refine ⟨_, rfl, .inl ⟨rfl, _, SqL.of h1⟩, ?_⟩
      refine ⟨_, rfl, _, _, rfl, rfl, (many : Int) + 2, rfl, by omega, by omega, fun D2 u2 => ?_⟩
      have ne2 : D2 ≠ pp := P1.ne u2
      refine lc_range (n := ((many : Int) + 2).toNat) (fun j H' => Keep pp H1 H' ∧ PoolAt H' pp ∧ ∃ fs : List Int, H' D2 = some (.lst (fs.map V.int)) ∧ fs.length = j ∧ ∀ x ∈ fs, -gr ≤ x ∧ x ≤ gr) ⟨Same.keep (Same.new u2), P1.same (Same.new u2), [], upd_same, rfl, fun x e => nomatch e⟩ ?_ ?_
      · rintro j H' hj ⟨kj, Pj, fs, hfs, lj, bj⟩
        refine ⟨rfl, ?_⟩
        unfold tYes
        dsimp only
        rw [if_pos rfl]
        refine ⟨_, rfl, _, rfl, _, _, rfl, rfl, ⟨⟨by decide, by decide⟩, ⟨by omega, by omega⟩⟩, _, _, rfl, rfl, pp, 2 * gr + 1, rfl, by omega, ⟨by omega, by omega⟩, Pj, fun d H2 d0 d1 P2 k2 => ?_⟩
        have h2 := k2 _ _ hfs ne2
        refine ⟨_, rfl, _, _, rfl, rfl, _, h2, by rw [List.length_map, lj]; exact Nat.lt_of_lt_of_le hj (Nat.le_trans (by omega : _ ≤ 5) (by decide)), fun b o e nb => ?_, ?_, fs ++ [d - gr], ?_, ?_, fun x hx => ?_⟩
        · rw [upd_ne (ne_of_none e u2)]
          exact k2 _ _ (kj _ _ e nb) nb
        · obtain ⟨c, z, z0, z1, hp⟩ := P2
          exact ⟨c, z, z0, z1, by rw [upd_ne (Ne.symm ne2)]; exact hp⟩
        · rw [upd_same, List.map_append]
          rfl
        · rw [List.length_append, lj]
          rfl
        · rcases List.mem_append.mp hx with hx | hx
          · exact bj x hx
          · rw [List.mem_singleton.mp hx]
            omega
      · rintro H2 ⟨k2, P2, fs, hfs, lj, bj⟩
        refine ⟨D2, _, rfl, .inl ⟨SqL.of hfs, fun p hp => ?_⟩⟩
        have s3 : Same H2 (upd H2 p (.tup (fs.map V.int))) := Same.new hp
        have d3 : (upd H2 p (.tup (fs.map V.int))) p = some (.tup (fs.map V.int)) := upd_same
        generalize upd H2 p (.tup (fs.map V.int)) = H3 at s3 d3 ⊢
        have k3 := k2.trans (Same.keep s3)
        have P3 := P2.same s3
        have h3 := k3 _ _ h1 neD
        have hu3 := hu.keep k3 P1
        refine ⟨D, _, _, rfl, rfl, h3, by rw [List.length_map, hu.1, hl]; exact Nat.lt_of_lt_of_le hi (Nat.le_trans (by omega : _ ≤ 3) (by decide)), ?_⟩
        refine ⟨fun b o e nb => ?_, ?_, ⟨us ++ [p], uss ++ [fs], ?_, (hu3.snoc d3).other h3, by rw [List.length_append, hl]; rfl, fun x hx => ?_⟩, _, _, rfl⟩
        · rw [upd_ne (ne_of_none e hD)]
          exact k3 _ _ (k1 _ _ e nb) nb
        · obtain ⟨c, z, z0, z1, hp⟩ := P3
          exact ⟨c, z, z0, z1, by rw [upd_ne (Ne.symm neD)]; exact hp⟩
        · rw [upd_same, List.map_append]
          rfl
        · rcases List.mem_append.mp hx with hx | hx
          · exact hf x hx
          · rw [List.mem_singleton.mp hx]
            exact ⟨by omega, bj⟩
    · rintro σ H1 ⟨k1, P1, ⟨us, uss, h1, hu, hl, hf⟩, v4, v5, rfl⟩
      refine ⟨_, rfl, D, _, rfl, .inl ⟨SqL.of h1, fun p hp => ?_⟩⟩
      have s2 : Same H1 (upd H1 p (.tup (us.map V.ref))) := Same.new hp
      exact q p us uss _ (P1.same s2) (k1.trans (Same.keep s2)) upd_same (hu.keep (Same.keep s2) P1) (by rw [hl]; rfl) hf
end
section
theorem UpsAt.dt {H : Hp} {pp : Addr} {us : List Addr} {uss : List (List Int)} (h : UpsAt H us uss) (P : PoolAt H pp) : DtAll (Zp pp) H (us.map V.ref) (uss.map fun fs => .tuple (fs.map PyData.int)) := by
  refine DtAll.of_get (by rw [List.length_map, List.length_map, h.1]) fun i v d e1 e2 => ?_
  rw [List.getElem?_map] at e1 e2
  obtain ⟨u, e3, rfl⟩ := Option.map_eq_some_iff.mp e1
  obtain ⟨fs, e4, rfl⟩ := Option.map_eq_some_iff.mp e2
  have t := h.2 i u fs e3 e4
  obtain ⟨c, z, _, _, hp⟩ := P
  exact .tup t (fun m => by rw [show u = pp from m, hp] at t; cases t) (DtAll.ints fs)
/-- updates as data -/
def updsD (uss : List (List Int)) : PyData := .tuple (uss.map fun fs => .tuple (fs.map PyData.int))
end
/-! ### what the law draws: rows -/
section
theorem Keep.off {pp : Addr} {H H1 : Hp} {p : Addr} {o : HO} (a : Keep pp H H1) (n : H p = none) : Keep pp H (upd H1 p o) := fun b u e nb => by
  rw [upd_ne (ne_of_none e n)]
  exact a b u e nb
theorem PoolAt.upd {H : Hp} {pp p : Addr} {o : HO} (h : PoolAt H pp) (n : p ≠ pp) : PoolAt (upd H p o) pp := by
  obtain ⟨c, s, a, b, e⟩ := h
  exact ⟨c, s, a, b, by rw [upd_ne (Ne.symm n)]; exact e⟩
/-- a drawn row -/
def RowL (size : Int) (many : Nat) (zs : List Str) (r : PyData) : Prop := ∃ a b uss t, r = .tuple [a, b, updsD uss, t] ∧ NI a ∧ NI b ∧ optD a (betw a (-1) 1) = true ∧ optD b (remD b size) = true ∧ (t = .none ∨ ∃ z, t = .str z ∧ z ∈ zs) ∧ uss.length = many ∧ ∀ fs ∈ uss, fs.length = many + 2 ∧ ∀ x ∈ fs, -2 ≤ x ∧ x ≤ (2 : Int)
theorem thenD_in {t : PyData} {zs : List Str} (h : t = .none ∨ ∃ z, t = .str z ∧ z ∈ zs) : thenD t zs = true := by
  rcases h with rfl | ⟨z, rfl, m⟩
  · rfl
  · show inV (.str z) (zs.map V.str) = true
    unfold inV
    refine List.any_eq_true.mpr ⟨.str z, List.mem_map.mpr ⟨z, m, rfl⟩, ?_⟩
    unfold eqV
    simp
theorem upsD_of {uss : List (List Int)} {many : Nat} (l : uss.length = many) (h : ∀ fs ∈ uss, fs.length = many + 2 ∧ ∀ x ∈ fs, -2 ≤ x ∧ x ≤ (2 : Int)) : upsD (updsD uss) many = true := by
  unfold upsD updsD
  have e1 : isTup (PyData.tuple (uss.map fun fs => PyData.tuple (fs.map PyData.int))) = true := rfl
  rw [e1, Bool.true_and, Bool.and_eq_true]
  refine ⟨decide_eq_true (by simp [itemsD, l]), List.all_eq_true.mpr fun x hx => ?_⟩
  obtain ⟨fs, hf, rfl⟩ := List.mem_map.mp hx
  obtain ⟨l2, b⟩ := h fs hf
  unfold factD
  have e2 : isTup (PyData.tuple (fs.map PyData.int)) = true := rfl
  rw [e2, Bool.true_and, Bool.and_eq_true]
  refine ⟨decide_eq_true (by simp [itemsD, l2]), List.all_eq_true.mpr fun y hy => ?_⟩
  obtain ⟨i, hi, rfl⟩ := List.mem_map.mp hy
  obtain ⟨b1, b2⟩ := b i hi
  show (decide (-1000000 ≤ i) && decide (i ≤ 1000000)) = true
  simp only [Bool.and_eq_true, decide_eq_true_eq]
  omega
theorem RowL.row {size : Int} {many : Nat} {zs : List Str} {r : PyData} (h : RowL size many zs r) : rowD r size many zs = true := by
  obtain ⟨a, b, uss, t, rfl, _, _, h1, h2, h3, h4, h5⟩ := h
  have e : rowD (.tuple [a, b, updsD uss, t]) size many zs = (true && (true && ((optD a (betw a (-1) 1) && optD b (remD b size)) && (upsD (updsD uss) many && thenD t zs)))) := rfl
  rw [e, h1, h2, upsD_of h4 h5, thenD_in h3]
  rfl
theorem RowL.nik {size : Int} {many : Nat} {zs : List Str} {r : PyData} (h : RowL size many zs r) : NIK (keyD r) := by
  obtain ⟨a, b, uss, t, rfl, n0, n1, _⟩ := h
  exact ⟨a, b, rfl, n0, n1⟩
theorem NIK.shp {k : PyData} (h : NIK k) : Shp 1 k := by
  obtain ⟨a, b, rfl, n0, n1⟩ := h
  exact shp_tup (n := 0) fun z hz => by
    simp only [List.mem_cons, List.not_mem_nil, or_false] at hz
    rcases hz with rfl | rfl
    · exact n0.shp
    · exact n1.shp
def nnD : PyData := .tuple [.none, .none]
theorem rows_wrong {size : Int} {many : Nat} {zs : List Str} {rows : List PyData} {last : PyData} (h : ∀ r ∈ rows, RowL size many zs r) (hl : RowL size many zs last) (kl : keyD last = nnD) (nd : (nnD :: rows.map keyD).Nodup) : wrongRow size many zs (rows ++ [last]) [] 0 = none := by
  refine wrongRow_of (fun x hx => ?_) (fun z hz => by cases hz) ?_ ?_
  · rcases List.mem_append.mp hx with hx | hx
    · exact (h x hx).row
    · rw [List.mem_singleton.mp hx]
      exact hl.row
  · rw [List.nil_append, List.map_append, List.map_cons, List.map_nil, kl]
    rw [List.nodup_cons] at nd
    exact List.nodup_append.mpr ⟨nd.2, by simp, fun a ha b hb => by
      rw [List.mem_singleton.mp hb]
      exact fun m => nd.1 (m ▸ ha)⟩
  · unfold keyIn
    rw [List.any_eq_true]
    refine ⟨nnD, ?_, by decide +kernel⟩
    rw [List.nil_append, List.map_append, List.map_cons, List.map_nil, kl]
    simp
end
theorem room65 {k : Nat} {A : Around} (r : Room k A) : A.units + 65 < cLine := by
  have := r.un
  omega
theorem PoolAt.nep {H : Hp} {pp u : Addr} {xs : List V} (P : PoolAt H pp) (h : H u = some (.tup xs)) : u ≠ pp := fun m => by
  obtain ⟨c, z, _, _, hp⟩ := P
  rw [m, hp] at h
  cases h
theorem pick_sign {v : V} (h : v ∈ [V.non, .int (-1), .int 0, .int 1]) : ∃ a : PyData, NI a ∧ optD a (betw a (-1) 1) = true ∧ ∀ (Z : Addr → Prop) (H : Hp), Dt Z H v a := by
  simp only [List.mem_cons, List.not_mem_nil, or_false] at h
  rcases h with rfl | rfl | rfl | rfl
  · exact ⟨.none, .inl rfl, rfl, fun _ _ => .non⟩
  · exact ⟨.int (-1), .inr ⟨_, rfl⟩, by decide, fun _ _ => .int _⟩
  · exact ⟨.int 0, .inr ⟨_, rfl⟩, by decide, fun _ _ => .int _⟩
  · exact ⟨.int 1, .inr ⟨_, rfl⟩, by decide, fun _ _ => .int _⟩
theorem remD_of {i size : Int} (h1 : 1 - size ≤ i) (h2 : i ≤ size - 1) : optD (.int i) (remD (.int i) size) = true := by
  show (decide (1 - size ≤ i) && decide (i ≤ size - 1)) = true
  rw [decide_eq_true h1, decide_eq_true h2]
  rfl
theorem pick_rem {v : V} {size : Int} (z : 2 ≤ size) (h : v ∈ [V.non, .int 0, .int 1, .int (-1), .int (size - 1), .int (1 - size)]) : ∃ a : PyData, NI a ∧ optD a (remD a size) = true ∧ ∀ (Z : Addr → Prop) (H : Hp), Dt Z H v a := by
  simp only [List.mem_cons, List.not_mem_nil, or_false] at h
  rcases h with rfl | rfl | rfl | rfl | rfl | rfl
  · exact ⟨.none, .inl rfl, rfl, fun _ _ => .non⟩
  all_goals exact ⟨.int _, .inr ⟨_, rfl⟩, remD_of (by omega) (by omega), fun _ _ => .int _⟩
theorem then_dt {v : V} {zs : List Str} (h : v = .non ∨ ∃ z, v = .str z ∧ z ∈ zs) : ∃ t : PyData, (t = .none ∨ ∃ z, t = .str z ∧ z ∈ zs) ∧ ∀ (Z : Addr → Prop) (H : Hp), Dt Z H v t := by
  rcases h with rfl | ⟨z, rfl, m⟩
  · exact ⟨.none, .inl rfl, fun _ _ => .non⟩
  · exact ⟨.str z, .inr ⟨z, rfl, m⟩, fun _ _ => .str z⟩
section
variable {P : Program} {w : World} {K : PySem.W.Frag} {mg : Str → Option Value} {base : Heap} {aR : Addr}
abbrev s__law_rows : Stmt := top 56
abbrev N__law_rows : List Str := ["_law_pool_here", "_law_size", "_law_many", "_law_names", "_law_found", "_law_seen", "_law_turn", "_law_key"]
theorem sc__law_rows : FnScope N__law_rows ["_law_pool_here", "_law_size", "_law_many", "_law_names"] (defScope s__law_rows) := ⟨rfl, rfl, rfl, by decide +kernel, rfl, by decide +kernel, by decide +kernel⟩
/-- rows as they are drawn: no two of one key, the last one fits all -/
def WR (size : Int) (many : Nat) (zs : List Str) (rows : List PyData) : Prop := wrongRow size many zs rows [] 0 = none ∧ ∃ ini last, rows = ini ++ [last] ∧ keyD last = nnD
def spLRows : Sp := fun vs H Q _ => ∃ (pp l : Addr) (size : Int) (many : Nat) (zs : List Str), vs = [.ref pp, .int size, .int (many : Nat), .ref l] ∧ 2 ≤ size ∧ size ≤ 10 ∧ many ≤ 3 ∧ H l = some (.lst (zs.map V.str)) ∧ l ≠ pp ∧ 0 < zs.length ∧ zs.length < 1000 ∧ PoolAt H pp ∧
  ∀ u rows H', H u = none → PoolAt H' pp → Keep pp H H' → Dt (Zp pp) H' (.ref u) (.list rows) → (∀ r ∈ rows, RowL size many zs r) → rows.length ≤ 4 → WR size many zs rows → Q (.ref u) H'
theorem ok__law_rows (h : Has K mg "_law_rows" s__law_rows ["_law_pool_here", "_law_size", "_law_many", "_law_names"]) (T : Txt K mg aR) (O__law_draw : Ok P w K mg base 1 "_law_draw" ["_law_pool_here", "_law_many"] spDraw) (O__law_choose : Ok P w K mg base 2 "_law_choose" ["_law_pool_here", "_law_items"] (spChoose K))
    (O__law_updates : Ok P w K mg base 2 "_law_updates" ["_law_pool_here", "_law_many", "_law_greatest"] spUpdates) (O__law_then : Ok P w K mg base 3 "_law_then" ["_law_pool_here", "_law_names"] spThen) : Ok P w K mg base 4 "_law_rows" ["_law_pool_here", "_law_size", "_law_many", "_law_names"] spLRows := by
  obtain ⟨f, fd, g, b, F⟩ := h
  refine ⟨f, fd, g, F.kp, b, F.ok sc__law_rows (fun vs H Q E h => ?_) (fun cdv A outer s H vs Q E hr h => ?_)⟩
  · obtain ⟨pp, l, size, many, zs, rfl, _⟩ := h
    rfl
  · obtain ⟨pp, l, size, many, zs, rfl, z0, z1, m3, hl, nl, n0, n1, hP, q⟩ := h
    refine ⟨_, (pss_cons (ps_par (by rfl) sc__law_rows.nd (i := 4) (j := 5) rfl rfl (by decide) rfl rfl (pa_cons (pe_lst pa_nil) (pa_cons (pe_lst (pa_cons (pe_tup (pa_cons pe_non (pa_cons pe_non pa_nil))) pa_nil)) pa_nil)) (by rfl))
      (pss_cons (ps_for PassesOwn.never rfl (pi_range1 (by rfl) T.range (pa_cons (pe_cO O__law_draw (hr.mono (by decide)) pass0 rfl (pa_cons (pv 0) (pa_cons pe_int pa_nil))) pa_nil)) (pg_name (i := 6) sc__law_rows.nd rfl (.inl rfl))
        (pss_cons (ps_set (i := 7) sc__law_rows.nd rfl (.inl rfl) (pe_tup (pa_cons (pe_cO O__law_choose (hr.mono (by decide)) pass0 rfl (pa_cons (pv 0) (pa_cons (pe_lst (pa_cons pe_non (pa_cons (pe_un un_neg pe_int) (pa_cons pe_int (pa_cons pe_int pa_nil))))) pa_nil))) (pa_cons (pe_cO O__law_choose (hr.mono (by decide)) pass0 rfl (pa_cons (pv 0) (pa_cons (pe_lst (pa_cons pe_non (pa_cons pe_int (pa_cons pe_int (pa_cons (pe_un un_neg pe_int) (pa_cons (pe_op op_sub (pv 1) pe_int) (pa_cons (pe_op op_sub pe_int (pv 1)) pa_nil))))))) pa_nil))) pa_nil))))
        (pss_one (ps_if (pt_cmpR (op_notInD (room65 hr)) (pv 7) (pv 5) (by rfl))
          (pss_cons (ps_expr (pe_bm PySem.F.plainAttrs_list PySem.F.slot_list_append PySem.F.type_list_append mt_append (pv 5) (pa_cons (pv 7) pa_nil)))
          (pss_one (ps_expr (pe_bm PySem.F.plainAttrs_list PySem.F.slot_list_append PySem.F.type_list_append mt_append (pv 4) (pa_cons (pe_op op_catT (pv 7) (pe_tup (pa_cons (pe_cO O__law_updates (hr.mono (by decide)) pass0 rfl (pa_cons (pv 0) (pa_cons (pv 2) (pa_cons pe_int pa_nil)))) (pa_cons (pe_cO O__law_then (hr.mono (by decide)) pass0 rfl (pa_cons (pv 0) (pa_cons (pv 3) pa_nil))) pa_nil)))) pa_nil)))))
          pss_nil))))
      (pss_cons (ps_expr (pe_bm PySem.F.plainAttrs_list PySem.F.slot_list_append PySem.F.type_list_append mt_append (pv 4) (pa_cons (pe_tup (pa_cons pe_non (pa_cons pe_non (pa_cons (pe_cO O__law_updates (hr.mono (by decide)) pass0 rfl (pa_cons (pv 0) (pa_cons (pv 2) (pa_cons pe_int pa_nil)))) (pa_cons (pe_cO O__law_choose (hr.mono (by decide)) pass0 rfl (pa_cons (pv 0) (pa_cons (pv 3) pa_nil))) pa_nil))))) pa_nil)))
      (pss_one (ps_ret (pv 4)))))), ?_⟩
    refine ⟨by show 0 ≤ sizeLine; decide, fun D hD => ⟨by show 2 ≤ sizeLine; decide, fun t nt => ⟨by show 1 ≤ sizeLine; decide, fun S nS => ⟨_, _, rfl, ?_⟩⟩⟩⟩
    have s1 : Same H (upd H D (.lst [])) := Same.new hD
    have a1 : (upd H D (.lst [])) D = some (.lst []) := upd_same
    generalize upd H D (.lst []) = H1 at s1 a1 nt nS ⊢
    have s2 : Same H1 (upd H1 t (.tup [.non, .non])) := Same.new nt
    have a2 : (upd H1 t (.tup [.non, .non])) t = some (.tup [.non, .non]) := upd_same
    generalize upd H1 t (.tup [.non, .non]) = H2 at s2 a2 nS ⊢
    have s3 : Same H2 (upd H2 S (.lst [.ref t])) := Same.new nS
    have a3 : (upd H2 S (.lst [.ref t])) S = some (.lst [.ref t]) := upd_same
    generalize upd H2 S (.lst [.ref t]) = H3 at s3 a3 ⊢
    have s03 := (s1.trans s2).trans s3
    have hS : H S = none := (s1.trans s2).free nS
    have neD : D ≠ pp := hP.ne hD
    have neS : S ≠ pp := hP.ne hS
    have neDS : D ≠ S := ne_of_none (s2 _ _ a1) nS
    have netS : t ≠ S := ne_of_none a2 nS
    have netD : t ≠ D := fun m => by rw [m, a1] at nt; cases nt
    have net : t ≠ pp := hP.ne ((s1).free nt)
    have lD : l ≠ D := ne_of_none hl hD
    have lS : l ≠ S := ne_of_none hl hS
    refine ⟨_, rfl, pp, 4, rfl, by decide, ⟨by decide, by decide⟩, hP.same s03, fun d H4 d0 d1 P4 k4 => ?_⟩
    refine ⟨d, rfl, by omega, by omega, for_range (n := d.toNat) (fun i σ H' => Keep pp H H' ∧ PoolAt H' pp ∧ (∃ xs rows ks, H' D = some (.lst xs) ∧ DtAll (Zu (Zu (Zp pp) D) S) H' xs rows ∧ H' S = some (.lst ks) ∧ DtAll (Zu (Zu (Zp pp) D) S) H' ks (nnD :: rows.map keyD) ∧ (∀ r ∈ rows, RowL size many zs r) ∧ (nnD :: rows.map keyD).Nodup ∧ rows.length ≤ i) ∧ ∃ v6 v7 : Option V, σ = [some (.ref pp), some (.int size), some (.int (many : Nat)), some (.ref l), some (.ref D), some (.ref S), v6, v7])
      ⟨(Same.keep s03).trans k4, P4, ⟨[], [], [.ref t], k4 _ _ ((s2.trans s3) _ _ a1) neD, .nil, k4 _ _ a3 neS, .cons (.tup (k4 _ _ (s3 _ _ a2) net) (fun m => by
        rcases m with (m | m) | m
        · exact net m
        · exact netD m
        · exact netS m) (.cons .non (.cons .non .nil))) .nil, (fun r hr => by cases hr), by simp, Nat.zero_le _⟩, none, none, rfl⟩ ?_ ?_⟩
    · rintro i σ H5 hi ⟨k5, P5, ⟨xs, rows, ks, e1, dx, e2, dk, rl, nd, lr⟩, v6, v7, rfl⟩
      refine ⟨_, rfl, 1, rfl, by show 4 ≤ sizeLine; decide, fun l1 hl1 => ?_⟩
      refine ⟨pp, l1, [.non, .int (-1), .int 0, .int 1], rfl, SqL.of upd_same, P5.ne hl1, by decide, by decide, P5.same (Same.new hl1), fun v0 H6 hv0 P6 k6 => ?_⟩
      have k56 : Keep pp H5 H6 := (Same.keep (Same.new hl1)).trans k6
      refine ⟨_, rfl, 1, rfl, _, rfl, _, _, rfl, rfl, _, rfl, _, _, rfl, rfl, by show 6 ≤ sizeLine; decide, fun l2 hl2 => ?_⟩
      refine ⟨pp, l2, [.non, .int 0, .int 1, .int (-1), .int (size - 1), .int (1 - size)], rfl, SqL.of upd_same, P6.ne hl2, by simp, by simp, P6.same (Same.new hl2), fun v1 H7 hv1 P7 k7 => ?_⟩
      have k57 : Keep pp H5 H7 := k56.trans ((Same.keep (Same.new hl2)).trans k7)
      refine ⟨by show 2 ≤ sizeLine; decide, fun kt nkt => ?_⟩
      obtain ⟨a, na, oa, da⟩ := pick_sign hv0
      obtain ⟨b, nb, ob, db⟩ := pick_rem z0 hv1
      have k58 : Keep pp H5 (upd H7 kt (.tup [v0, v1])) := k57.trans (Same.keep (Same.new nkt))
      have P8 : PoolAt (upd H7 kt (.tup [v0, v1])) pp := P7.same (Same.new nkt)
      have a8 : (upd H7 kt (.tup [v0, v1])) kt = some (.tup [v0, v1]) := upd_same
      have ktD : kt ≠ D := fun m => by rw [m, k57 _ _ e1 neD] at nkt; cases nkt
      have ktS : kt ≠ S := fun m => by rw [m, k57 _ _ e2 neS] at nkt; cases nkt
      have ktp : kt ≠ pp := P7.ne nkt
      have ktZ : ¬ Zu (Zu (Zp pp) D) S kt := fun m => by
        rcases m with (m | m) | m
        · exact ktp m
        · exact ktD m
        · exact ktS m
      show tSeq _ _ _ _ (upd H7 kt (.tup [v0, v1]))
      generalize upd H7 kt (.tup [v0, v1]) = H8 at k58 P8 a8 ⊢
      have fz : ∀ {G G' : Hp}, Keep pp G G' → Fm (Zu (Zu (Zp pp) D) S) G G' := fun k c o e n => k c o e fun m => n (.inl (.inl m))
      have dx8 := DtAll.fr dx (fz k58)
      have dk8 := DtAll.fr dk (fz k58)
      have e18 := k58 _ _ e1 neD
      have e28 := k58 _ _ e2 neS
      have nikk : NIK (.tuple [a, b]) := ⟨a, b, rfl, na, nb⟩
      have shk : ∀ k ∈ nnD :: rows.map keyD, Shp 1 k := fun k hk => by
        rcases List.mem_cons.mp hk with rfl | hk
        · exact NIK.shp ⟨_, _, rfl, .inl rfl, .inl rfl⟩
        · obtain ⟨r, hr, rfl⟩ := List.mem_map.mp hk
          exact (rl r hr).nik.shp
      have nks : ∀ z ∈ nnD :: rows.map keyD, NIK z := fun k hk => by
        rcases List.mem_cons.mp hk with rfl | hk
        · exact ⟨_, _, rfl, .inl rfl, .inl rfl⟩
        · obtain ⟨r, hr, rfl⟩ := List.mem_map.mp hk
          exact (rl r hr).nik
      have dkt : Dt (Zu (Zu (Zp pp) D) S) H8 (.ref kt) (.tuple [a, b]) := .tup a8 ktZ (.cons (da _ _) (.cons (db _ _) .nil))
      refine ⟨_, rfl, _, rfl, .tuple [a, b], nnD :: rows.map keyD, dkt.dp nikk.shp.1, .lst (SqL.of e28) (dk8.dp' (lay_shp (shp_list shk).ok)), nikk.shp.ok, (shp_list shk).ok, _, rfl, ?_⟩
      by_cases c : keyIn (.tuple [a, b]) (nnD :: rows.map keyD) = true
      · refine iteN (by unfold keyIn at c; rw [c]; decide) ?_
        exact ⟨k5.trans k58, P8, ⟨xs, rows, ks, e18, dx8, e28, dk8, rl, nd, Nat.le_succ_of_le lr⟩, _, _, rfl⟩
      · have c := Bool.eq_false_iff.mpr c
        refine iteP (by unfold keyIn at c; rw [c]; rfl) ?_
        have lks : ks.length = rows.length + 1 := by rw [dk8.len]; simp
        refine ⟨_, rfl, .inl ⟨rfl, _, SqL.of e28⟩, _, rfl, S, _, _, rfl, rfl, e28, by rw [lks]; exact Nat.lt_of_le_of_lt (Nat.succ_le_succ lr) (Nat.lt_of_lt_of_le (by omega : i + 1 < 6) (by decide)), ?_⟩
        have f9 : Fm (Zu (Zu (Zp pp) D) S) H8 (upd H8 S (.lst (ks ++ [.ref kt]))) := fun c o e n => by rw [upd_ne (fun m => n (.inr m))]; exact e
        have e29 : (upd H8 S (.lst (ks ++ [.ref kt]))) S = some (.lst (ks ++ [.ref kt])) := upd_same
        have P9 := P8.upd (p := S) (o := .lst (ks ++ [.ref kt])) neS
        have k59 : ∀ c o, H5 c = some o → c ≠ pp → c ≠ S → (upd H8 S (.lst (ks ++ [.ref kt]))) c = some o := fun c o e n1 n2 => by rw [upd_ne n2]; exact k58 c o e n1
        have kH9 : Keep pp H (upd H8 S (.lst (ks ++ [.ref kt]))) := (k5.trans k58).off hS
        show tSeq _ _ _ _ (upd H8 S (.lst (ks ++ [.ref kt])))
        generalize upd H8 S (.lst (ks ++ [.ref kt])) = H9 at f9 e29 P9 k59 kH9 ⊢
        have dx9 := DtAll.fr dx8 f9
        have dk9 := DtAll.fr dk8 f9
        have dkt9 := dkt.fr f9
        have e19 := k59 _ _ e1 neD neDS
        refine ⟨_, rfl, .inl ⟨rfl, _, SqL.of e19⟩, _, rfl, _, rfl, _, rfl, pp, many, 2, rfl, m3, by decide, by decide, P9, fun u us uss H10 P10 k10 hu hus lu hb => ?_⟩
        refine ⟨_, rfl, _, rfl, pp, l, zs, rfl, P10, (kH9.trans k10) _ _ hl nl, nl, n0, n1, fun v H11 hv P11 k11 => ?_⟩
        refine ⟨by show 2 ≤ sizeLine; decide, fun t2 nt2 => ?_⟩
        obtain ⟨td, ht, dt⟩ := then_dt hv
        have k911 := k10.trans k11
        have s12 : Same H11 (upd H11 t2 (.tup [.ref u, v])) := Same.new nt2
        have a12 : (upd H11 t2 (.tup [.ref u, v])) t2 = some (.tup [.ref u, v]) := upd_same
        have P12 := P11.same s12
        generalize upd H11 t2 (.tup [.ref u, v]) = H12 at s12 a12 P12 ⊢
        have k912 := k911.trans (Same.keep s12)
        have upp : u ≠ pp := P10.nep hu
        have ktk : H12 kt = some (.tup [v0, v1]) := by
          cases dkt9 with
          | tup e _ d =>
            have e8 := f9 _ _ a8 ktZ
            exact k912 _ _ e8 ktp
        refine ⟨kt, t2, [v0, v1], [.ref u, v], rfl, rfl, SqT.of ktk, SqT.of a12, by simp, by show 4 ≤ sizeLine; decide, (fun h => by cases h), fun _ p hp => ?_⟩
        have s13 : Same H12 (upd H12 p (.tup ([v0, v1] ++ [.ref u, v]))) := Same.new hp
        have a13 : (upd H12 p (.tup ([v0, v1] ++ [.ref u, v]))) p = some (.tup [v0, v1, .ref u, v]) := upd_same
        have P13 := P12.same s13
        generalize upd H12 p (.tup ([v0, v1] ++ [.ref u, v])) = H13 at s13 a13 P13 ⊢
        have k913 := k912.trans (Same.keep s13)
        have e113 := k913 _ _ e19 neD
        have e213 := k913 _ _ e29 neS
        have pD : p ≠ D := fun m => by rw [m, k912 _ _ e19 neD] at hp; cases hp
        have pS : p ≠ S := fun m => by rw [m, k912 _ _ e29 neS] at hp; cases hp
        have ppp : p ≠ pp := P12.ne hp
        have lxs : xs.length = rows.length := dx9.len
        refine ⟨D, _, _, rfl, rfl, e113, by rw [lxs]; exact Nat.lt_of_le_of_lt lr (Nat.lt_of_lt_of_le (by omega : i < 6) (by decide)), ?_⟩
        have f14 : Fm (Zu (Zu (Zp pp) D) S) H13 (upd H13 D (.lst (xs ++ [.ref p]))) := fun c o e n => by rw [upd_ne (fun m => n (.inl (.inr m)))]; exact e
        have zz : ∀ {q : Addr}, q ≠ pp → q ≠ D → q ≠ S → ¬ Zu (Zu (Zp pp) D) S q := fun n1 n2 n3 m => by
          rcases m with (m | m) | m
          · exact n1 m
          · exact n2 m
          · exact n3 m
        have hu13 : H13 u = some (.tup (us.map V.ref)) := s13 _ _ (s12 _ _ (k11 _ _ hu upp))
        have tupNe : ∀ {q : Addr} {ys : List V} {zs : List V} {r : Addr}, H13 q = some (.tup ys) → H13 r = some (.lst zs) → q ≠ r := fun g1 g2 m => by rw [m, g2] at g1; cases g1
        have du : Dt (Zu (Zu (Zp pp) D) S) H13 (.ref u) (updsD uss) := by
          refine .tup hu13 (zz upp (tupNe hu13 e113) (tupNe hu13 e213)) ?_
          have hus13 := (hus.keep k11 P10).keep ((Same.keep s12).trans (Same.keep s13)) P11
          refine DtAll.of_get (by rw [List.length_map, List.length_map, hus.1]) fun j v' d' g1 g2 => ?_
          rw [List.getElem?_map] at g1 g2
          obtain ⟨u', g3, rfl⟩ := Option.map_eq_some_iff.mp g1
          obtain ⟨fs, g4, rfl⟩ := Option.map_eq_some_iff.mp g2
          have t' := hus13.2 j u' fs g3 g4
          exact .tup t' (zz (P13.nep t') (tupNe t' e113) (tupNe t' e213)) (DtAll.ints fs)
        have drow : Dt (Zu (Zu (Zp pp) D) S) H13 (.ref p) (.tuple [a, b, updsD uss, td]) := .tup a13 (zz ppp pD pS) (.cons (da _ _) (.cons (db _ _) (.cons du (.cons (dt _ _) .nil))))
        have rlN : RowL size many zs (.tuple [a, b, updsD uss, td]) := ⟨a, b, uss, td, rfl, na, nb, oa, ob, ht, lu, fun fs hf => ⟨(hb fs hf).1, fun x hx => by have := (hb fs hf).2 x hx; omega⟩⟩
        have newk : PyData.tuple [a, b] ∉ nnD :: rows.map keyD := fun m => by
          have := List.any_eq_false.mp c _ m
          exact this (PySem.SeqAt.eqv_refl _ nikk.shp.1)
        refine ⟨((kH9.trans k913).off hD), P13.upd neD, ⟨xs ++ [.ref p], rows ++ [.tuple [a, b, updsD uss, td]], ks ++ [.ref kt], upd_same, DtAll.append (DtAll.fr (DtAll.fr dx9 (fz k913)) f14) (.cons (drow.fr f14) .nil), ?_, ?_, ?_, ?_, ?_⟩, _, _, rfl⟩
        · rw [upd_ne (Ne.symm neDS)]
          exact e213
        · rw [List.map_append]
          exact DtAll.append (DtAll.fr (DtAll.fr dk9 (fz k913)) f14) (.cons ((dkt9.fr (fz k913)).fr f14) .nil)
        · intro r hr
          rcases List.mem_append.mp hr with hr | hr
          · exact rl r hr
          · rw [List.mem_singleton.mp hr]
            exact rlN
        · rw [List.map_append, ← List.cons_append]
          exact List.nodup_append.mpr ⟨nd, by simp, fun x hx y hy => by
            rw [List.mem_singleton.mp hy]
            exact fun m => newk (by rw [← show keyD (.tuple [a, b, updsD uss, td]) = .tuple [a, b] from rfl, ← m]; exact hx)⟩
        · rw [List.length_append]
          exact Nat.succ_le_succ lr
    · rintro σ H5 ⟨k5, P5, ⟨xs, rows, ks, e1, dx, e2, dk, rl, nd, lr⟩, v6, v7, rfl⟩
      refine ⟨_, rfl, .inl ⟨rfl, _, SqL.of e1⟩, _, rfl, _, rfl, pp, many, 2, rfl, m3, by decide, by decide, P5, fun u us uss H6 P6 k6 hu hus lu hb => ?_⟩
      have hl6 := (k5.trans k6) _ _ hl nl
      refine ⟨_, rfl, _, rfl, pp, l, zs.map V.str, rfl, SqL.of hl6, nl, by rw [List.length_map]; exact n0, by rw [List.length_map]; omega, P6, fun v H7 hv P7 k7 => ?_⟩
      obtain ⟨z, hz, rfl⟩ := List.mem_map.mp hv
      refine ⟨by show 4 ≤ sizeLine; decide, fun p hp => ?_⟩
      have s8 : Same H7 (upd H7 p (.tup [.non, .non, .ref u, .str z])) := Same.new hp
      have a8 : (upd H7 p (.tup [.non, .non, .ref u, .str z])) p = some (.tup [.non, .non, .ref u, .str z]) := upd_same
      have P8 := P7.same s8
      generalize upd H7 p (.tup [.non, .non, .ref u, .str z]) = H8 at s8 a8 P8 ⊢
      have k58 := (k6.trans k7).trans (Same.keep s8)
      have e18 := k58 _ _ e1 neD
      have lxs : xs.length = rows.length := dx.len
      have l4 : rows.length ≤ 3 := by omega
      refine ⟨D, _, _, rfl, rfl, e18, by rw [lxs]; exact Nat.lt_of_le_of_lt l4 (by decide), ?_⟩
      have tupNe : ∀ {q : Addr} {ys : List V} {zs : List V} {r : Addr}, H8 q = some (.tup ys) → H8 r = some (.lst zs) → q ≠ r := fun g1 g2 m => by rw [m, g2] at g1; cases g1
      have upp : u ≠ pp := P6.nep hu
      have hu8 : H8 u = some (.tup (us.map V.ref)) := s8 _ _ (k7 _ _ hu upp)
      have hus8 := (hus.keep k7 P6).keep (Same.keep s8) P7
      have du : Dt (Zu (Zp pp) D) H8 (.ref u) (updsD uss) := by
        refine .tup hu8 (fun m => m.elim upp (tupNe hu8 e18)) ?_
        refine DtAll.of_get (by rw [List.length_map, List.length_map, hus.1]) fun j v' d' g1 g2 => ?_
        rw [List.getElem?_map] at g1 g2
        obtain ⟨u', g3, rfl⟩ := Option.map_eq_some_iff.mp g1
        obtain ⟨fs, g4, rfl⟩ := Option.map_eq_some_iff.mp g2
        have t' := hus8.2 j u' fs g3 g4
        exact .tup t' (fun m => m.elim (P8.nep t') (tupNe t' e18)) (DtAll.ints fs)
      have drow : Dt (Zu (Zp pp) D) H8 (.ref p) (.tuple [.none, .none, updsD uss, .str z]) := .tup a8 (fun m => m.elim (P8.nep a8) (tupNe a8 e18)) (.cons .non (.cons .non (.cons du (.cons (.str z) .nil))))
      have rlN : RowL size many zs (.tuple [.none, .none, updsD uss, .str z]) := ⟨.none, .none, uss, .str z, rfl, .inl rfl, .inl rfl, rfl, rfl, .inr ⟨z, rfl, hz⟩, lu, fun fs hf => ⟨(hb fs hf).1, fun x hx => by have := (hb fs hf).2 x hx; omega⟩⟩
      have f9 : Fm (Zu (Zp pp) D) H8 (upd H8 D (.lst (xs ++ [.ref p]))) := Fm.at_zu
      have fz : Fm (Zu (Zp pp) D) H5 H8 := fun c o e n => k58 c o e fun m => n (.inl m)
      have dxs : DtAll (Zu (Zp pp) D) H5 xs rows := dx.mono' fun _ m => .inl m
      refine ⟨_, rfl, q D (rows ++ [.tuple [.none, .none, updsD uss, .str z]]) _ hD (P8.upd neD) ((k5.trans k58).off hD) (.lst upd_same neD ((DtAll.append ((dxs.fr fz).fr f9) (.cons (drow.fr f9) .nil)).mono' fun _ m => .inl m)) ?_ ?_ ⟨rows_wrong rl rlN rfl nd, _, _, rfl, rfl⟩⟩
      · intro r hr
        rcases List.mem_append.mp hr with hr | hr
        · exact rl r hr
        · rw [List.mem_singleton.mp hr]
          exact rlN
      · rw [List.length_append]
        show rows.length + 1 ≤ 4
        omega
end
/-! ### what the law draws: parts; the mathematics -/
section
variable {J : It} {n : Nat} {G : Hp → Prop} {Y : Nat → Hp → V → Hp → Prop}
theorem dts_some {Z : Addr → Prop} {H : Hp} {Gd : Nat → PyData → Prop} : ∀ {xs : List V} {k : Nat}, (∀ j y, xs[j]? = some y → ∃ d, Dt Z H y d ∧ Gd (k + j) d) → ∃ ds, DtAll Z H xs ds ∧ ds.length = xs.length ∧ ∀ i d, ds[i]? = some d → Gd (k + i) d
  | [], k, _ => ⟨[], .nil, rfl, fun i d e => by simp at e⟩
  | x :: xs, k, h => by
    obtain ⟨d, d1, d2⟩ := h 0 x rfl
    obtain ⟨ds, a, b, c⟩ := dts_some (Gd := Gd) (xs := xs) (k := k + 1) fun j y e => by
      have := h (j + 1) y (by simpa using e)
      rw [show k + (j + 1) = k + 1 + j by omega] at this
      exact this
    refine ⟨d :: ds, .cons d1 a, by simp [b], fun i e ei => ?_⟩
    cases i with
    | zero => cases ei; exact d2
    | succ i =>
      rw [show k + (i + 1) = k + 1 + i by omega]
      exact c i e (by simpa using ei)
/-- a comprehension whose elements are data, drawn on the way -/
theorem lc_draw (w : Walk J n G Y) {g : TG} {te : TE} {vs : List Nat} {σ : St} {H1 : Hp} {D : Addr} {Qd : Hp → Prop} (Z : Addr → Prop) (I : Hp → Prop) (Gd : Nat → PyData → Prop)
    (hD : H1 D = none) (zD : ¬ Z D) (i0 : I H1) (iS : ∀ H l, I H → ¬ Z D → I (upd H D (.lst l))) (few : n < sizeLine)
    (hG : ∀ H, Fm Z H1 H → G H)
    (hs : ∀ i x H H' (Qk : V → Hp → Prop), i < n → Fm Z H1 H → I H → (∀ p, H p = none → p ≠ D) → Y i H x H' → (∀ y d H4, Fm Z H H4 → I H4 → Dt (Zu Z D) H4 y d → Gd i d → Qk y H4) → g x (wipe σ vs) H' fun σ2 H2 => wipe σ2 vs = wipe σ vs ∧ te σ2 H2 Qk)
    (hd : ∀ H xs ds, Fm Z H1 H → I H → H D = some (.lst xs) → DtAll (Zu Z D) H xs ds → ds.length = n → (∀ i d, ds[i]? = some d → Gd i d) → Qd H) :
    ∃ W : Nat → Nat → Hp → Prop, (∃ m, W 0 m (upd H1 D (.lst []))) ∧ ∀ i m H, W i m H →
      (J.stop i H ∧ Qd H) ∨ (J.go i H ∧ ∃ Nx : Hp → Prop, (∀ H', Nx H' → ∃ m', m' < m ∧ W (i + 1) m' H') ∧ ∀ x H', J.yld i H x H' → g x (wipe σ vs) H' fun σ2 H2 => wipe σ2 vs = wipe σ vs ∧ tYes σ2 H2 fun b H3 =>
        if b = true then te σ2 H3 fun y H4 => ∃ acc, H4 D = some (.lst acc) ∧ acc.length < sizeLine ∧ Nx (upd H4 D (.lst (acc ++ [y]))) else Nx H3) := by
  refine lc_acc w Z I (fun i y H => ∃ d, Dt (Zu Z D) H y d ∧ Gd i d) hD zD i0 iS (fun i y H H' _ r f => ?_) few hG ?_ ?_
  · obtain ⟨d, a, b⟩ := r
    exact ⟨d, a.fr f, b⟩
  · intro i x H H' Qk hi f iH ne y q
    exact hs i x H H' Qk hi f iH ne y fun y d H4 f4 i4 dy gd => q y H4 f4 i4 ⟨d, dy, gd⟩
  · intro H xs f iH hx hl hr
    obtain ⟨ds, a, b, c⟩ := dts_some (Gd := Gd) (k := 0) fun j y e => by
      rw [Nat.zero_add]
      exact hr j y e
    exact hd H xs ds f iH hx a (b.trans hl) fun i d e => by
      have := c i d e
      rw [Nat.zero_add] at this
      exact this
theorem wrongAt_fine {part : PyData → Bool} : ∀ {ds : List PyData} {ns : List Str} {i : Nat}, (∀ d ∈ ds, part d = true) → (ns ++ ds.map nmOf).Nodup → wrongAt part ds ns i = none
  | [], _, _, _, _ => rfl
  | d :: ds, ns, i, h, n => by
    rw [wrongAt]
    have c : inV (.str (nmOf d)) (ns.map V.str) = false := by
      refine Bool.eq_false_iff.mpr fun m => ?_
      have := inV_mem m
      rw [List.map_cons] at n
      exact (List.nodup_append.mp n).2.2 _ this _ List.mem_cons_self rfl
    rw [h d List.mem_cons_self, c]
    exact wrongAt_fine (fun x hx => h x (List.mem_cons_of_mem _ hx)) (by simpa using n)
theorem rowsErr_fine {size : Int} {many : Nat} {zs : List Str} : ∀ {ds : List PyData}, (∀ d ∈ ds, wrongRow size many zs (itemsD (itD d 2)) [] 0 = none) → rowsErr size many zs ds = none
  | [], _ => rfl
  | x :: xs, h => by
    rw [rowsErr, h x List.mem_cons_self]
    exact rowsErr_fine fun d hd => h d (List.mem_cons_of_mem _ hd)
def regNames : List Str := ["s", "p", "rr"]
def modeNames : List Str := ["m", "k", "zz"]
def IsReg (i : Nat) (d : PyData) : Prop := ∃ s c, regNames[i]? = some s ∧ d = .tuple [.str s, .int c] ∧ -2 ≤ c ∧ c ≤ 2
def IsMode (size : Int) (many : Nat) (zs : List Str) (i : Nat) (d : PyData) : Prop := ∃ z r rows, zs[i]? = some z ∧ d = .tuple [.str z, .str r, .list rows] ∧ r ∈ five ∧ (∀ x ∈ rows, RowL size many zs x) ∧ rows.length ≤ 4 ∧ WR size many zs rows
def IsSm (_ : Nat) (d : PyData) : Prop := ∃ c : Int, d = .int c ∧ -2 ≤ c ∧ c ≤ 2
/-- parts as they are drawn -/
structure Drawn (size b : Int) (many : Nat) (zs : List Str) (regs modes ends goal : List PyData) : Prop where
  s0 : 2 ≤ size
  s1 : size ≤ 10
  b : b = size ∨ b = -size
  m0 : 1 ≤ many
  m1 : many ≤ 3
  z0 : 1 ≤ zs.length
  z : ∃ k, zs = modeNames.take k
  lr : regs.length = many
  regs : ∀ i d, regs[i]? = some d → IsReg i d
  lm : modes.length = zs.length
  modes : ∀ i d, modes[i]? = some d → IsMode size many zs i d
  ends : ∃ es : List Int, ends = es.map PyData.int ∧ es.Pairwise (· < ·) ∧ ∀ e ∈ es, 1 - size ≤ e ∧ e ≤ size - 1
  lg : goal.length = many + 1
  goal : ∀ i d, goal[i]? = some d → IsSm i d
theorem Drawn.names {size b : Int} {many : Nat} {zs : List Str} {regs modes ends goal : List PyData} (h : Drawn size b many zs regs modes ends goal) : modes.map nmOf = zs := by
  refine List.ext_getElem? fun i => ?_
  rw [List.getElem?_map]
  cases e : modes[i]? with
  | none =>
    rw [List.getElem?_eq_none_iff, h.lm] at e
    rw [List.getElem?_eq_none_iff.mpr e]
    rfl
  | some d =>
    obtain ⟨z, r, rows, ez, rfl, _⟩ := h.modes i d e
    rw [ez]
    rfl
theorem Drawn.nodup {size b : Int} {many : Nat} {zs : List Str} {regs modes ends goal : List PyData} (h : Drawn size b many zs regs modes ends goal) : zs.Nodup := by
  obtain ⟨k, rfl⟩ := h.z
  exact (show modeNames.Nodup by decide +kernel).sublist (List.take_sublist _ _)
theorem incAt_of {es : List Int} (h : es.Pairwise (· < ·)) : incAt (es.map PyData.int) 0 = true := by
  unfold incAt
  refine List.all_eq_true.mpr fun j hj => ?_
  have hj := List.mem_range.mp hj
  rw [List.length_map] at hj
  rw [Nat.zero_add, List.getD_eq_getElem?_getD, List.getElem?_map, List.getD_eq_getElem?_getD, List.getElem?_map, List.getElem?_eq_getElem (by omega : j < es.length), List.getElem?_eq_getElem (by omega : j + 1 < es.length)]
  exact decide_eq_true (List.pairwise_iff_getElem.mp h j (j + 1) (by omega) (by omega) (by omega))
theorem RowL.sz {size : Int} {many : Nat} {zs : List Str} {r : PyData} (h : RowL size many zs r) (m : many ≤ 3) (lz : ∀ z ∈ zs, z.length ≤ 1000) : Sz 3 r := by
  obtain ⟨a, b, uss, t, rfl, na, nb, _, _, ht, lu, hb⟩ := h
  have ni : ∀ {d : PyData} {n : Nat}, NI d → Sz n d := fun {d n} h => by
    rcases h with rfl | ⟨i, rfl⟩ <;> cases n <;> first | exact ⟨by show 0 ≤ 1000; decide, fun s e => by cases e⟩ | exact ⟨by show 0 ≤ 1000; decide, fun s e => (by cases e), fun x hx => by cases hx⟩
  refine ⟨by show 4 ≤ 1000; decide, fun s e => (by cases e), fun x hx => ?_⟩
  have hx : x = a ∨ x = b ∨ x = updsD uss ∨ x = t := by simpa [itemsD] using hx
  rcases hx with rfl | rfl | rfl | rfl
  · exact ni na
  · exact ni nb
  · refine ⟨by show (uss.map _).length ≤ 1000; rw [List.length_map, lu]; omega, fun s e => (by cases e), fun y hy => ?_⟩
    obtain ⟨fs, hf, rfl⟩ := List.mem_map.mp hy
    obtain ⟨l2, _⟩ := hb fs hf
    refine ⟨by show (fs.map _).length ≤ 1000; rw [List.length_map, l2]; omega, fun s e => (by cases e), fun w hw => ?_⟩
    obtain ⟨i, _, rfl⟩ := List.mem_map.mp hw
    exact ni (.inr ⟨i, rfl⟩)
  · rcases ht with rfl | ⟨z, rfl, hz⟩
    · exact ni (.inl rfl)
    · exact ⟨by show 0 ≤ 1000; decide, fun s e => by injection e with e; rw [← e]; exact lz z hz, fun x hx => by cases hx⟩
theorem sz_str {s : Str} (h : s.length ≤ 1000) : ∀ n, Sz n (.str s)
  | 0 => ⟨by show 0 ≤ 1000; decide, fun x e => by injection e with e; rw [← e]; exact h⟩
  | _ + 1 => ⟨by show 0 ≤ 1000; decide, fun x e => (by injection e with e; rw [← e]; exact h), fun x hx => by cases hx⟩
theorem sz_int {i : Int} : ∀ n, Sz n (.int i)
  | 0 => ⟨by show 0 ≤ 1000; decide, fun x e => by cases e⟩
  | _ + 1 => ⟨by show 0 ≤ 1000; decide, fun x e => (by cases e), fun x hx => by cases hx⟩
theorem Drawn.lz {size b : Int} {many : Nat} {zs : List Str} {regs modes ends goal : List PyData} (h : Drawn size b many zs regs modes ends goal) : ∀ z ∈ zs, z.length ≤ 1000 := fun z hz => by
  obtain ⟨k, rfl⟩ := h.z
  have := List.mem_of_mem_take hz
  simp only [modeNames, List.mem_cons, List.not_mem_nil, or_false] at this
  rcases this with rfl | rfl | rfl <;> decide +kernel
theorem five_len {r : Str} (h : r ∈ five) : r.length ≤ 1000 := by
  simp only [five, List.mem_cons, List.not_mem_nil, or_false] at h
  rcases h with rfl | rfl | rfl | rfl | rfl <;> decide +kernel
theorem five_rule {r : Str} (h : r ∈ five) : ruleD (.str r) = true := by
  simp only [five, List.mem_cons, List.not_mem_nil, or_false] at h
  rcases h with rfl | rfl | rfl | rfl | rfl <;> decide +kernel
theorem mem_ix {α : Type} {xs : List α} {x : α} (h : x ∈ xs) : ∃ i : Nat, xs[i]? = some x := List.mem_iff_getElem?.mp h
theorem Drawn.ok {size b : Int} {many : Nat} {zs : List Str} {regs modes ends goal : List PyData} (h : Drawn size b many zs regs modes ends goal) : PartsOk (.int b) (.list regs) (.list modes) (.list ends) (.tuple goal) := by
  have s0 := h.s0
  have s1 := h.s1
  have m1 := h.m1
  have eb : sizeD (.int b) = size := by
    show (if b < 0 then -b else b) = size
    rcases h.b with rfl | rfl
    · rw [if_neg (by omega)]
    · rw [if_pos (by omega)]
      omega
  refine ⟨?_, ?_, ?_, ?_, ?_, ?_⟩
  · show (betw (.int b) (-10) 10 && decide (2 ≤ b.natAbs)) = true
    rw [Bool.and_eq_true]
    refine ⟨?_, decide_eq_true (by rcases h.b with e | e <;> omega)⟩
    show (decide (-10 ≤ b) && decide (b ≤ 10)) = true
    rw [Bool.and_eq_true]
    exact ⟨decide_eq_true (by rcases h.b with e | e <;> omega), decide_eq_true (by rcases h.b with e | e <;> omega)⟩
  · unfold partsD
    rw [Bool.and_eq_true]
    constructor
    · show (true && (decide ((1 : Int) ≤ (regs.length : Int)) && decide ((regs.length : Int) ≤ 3))) = true
      rw [h.lr]
      simp only [Bool.true_and, Bool.and_eq_true, decide_eq_true_eq]
      have := h.m0
      omega
    · show (wrongAt regD regs [] 0).isNone = true
      refine Option.isNone_iff_eq_none.mpr (wrongAt_fine (fun d hd => ?_) ?_)
      · obtain ⟨i, ei⟩ := mem_ix hd
        obtain ⟨s, c, es, rfl, c0, c1⟩ := h.regs i d ei
        have hs : nameD (.str s) = true := by
          have := List.mem_of_getElem? es
          simp only [regNames, List.mem_cons, List.not_mem_nil, or_false] at this
          rcases this with rfl | rfl | rfl <;> decide +kernel
        have e : regD (.tuple [.str s, .int c]) = (true && (true && (nameD (.str s) && (true && (true && ((decide (-1000000 ≤ c) && decide (c ≤ 1000000)) && true)))))) := rfl
        rw [e, hs, decide_eq_true (by omega : -1000000 ≤ c), decide_eq_true (by omega : c ≤ 1000000)]
        rfl
      · rw [List.nil_append]
        have : regs.map nmOf = regNames.take many := by
          refine List.ext_getElem? fun i => ?_
          rw [List.getElem?_map]
          cases e : regs[i]? with
          | none =>
            rw [List.getElem?_eq_none_iff, h.lr] at e
            rw [List.getElem?_eq_none_iff.mpr (by rw [List.length_take]; omega)]
            rfl
          | some d =>
            obtain ⟨s, c, es, rfl, _⟩ := h.regs i d e
            have := (List.getElem?_eq_some_iff.mp e).1
            rw [List.getElem?_take, if_pos (by rw [← h.lr]; exact this), es]
            rfl
        rw [this]
        exact (show regNames.Nodup by decide +kernel).sublist (List.take_sublist _ _)
  · unfold partsD
    rw [Bool.and_eq_true]
    constructor
    · show (true && (decide ((1 : Int) ≤ (modes.length : Int)) && decide ((modes.length : Int) ≤ 4))) = true
      rw [h.lm]
      simp only [Bool.true_and, Bool.and_eq_true, decide_eq_true_eq]
      have z0 := h.z0
      obtain ⟨k, e⟩ := h.z
      have : zs.length ≤ 3 := by
        rw [e, List.length_take]
        exact Nat.min_le_right _ _
      omega
    · show (wrongAt modeD modes [] 0).isNone = true
      refine Option.isNone_iff_eq_none.mpr (wrongAt_fine (fun d hd => ?_) ?_)
      · obtain ⟨i, ei⟩ := mem_ix hd
        obtain ⟨z, r, rows, ez, rfl, hr, _⟩ := h.modes i d ei
        have hs : nameD (.str z) = true := by
          obtain ⟨k, e⟩ := h.z
          have := List.mem_of_getElem? ez
          rw [e] at this
          have := List.mem_of_mem_take this
          simp only [modeNames, List.mem_cons, List.not_mem_nil, or_false] at this
          rcases this with rfl | rfl | rfl <;> decide +kernel
        have e : modeD (.tuple [.str z, .str r, .list rows]) = (true && (true && (nameD (.str z) && (ruleD (.str r) && true)))) := rfl
        rw [e, hs, five_rule hr]
        rfl
      · rw [List.nil_append, h.names]
        exact h.nodup
  · rw [eb, show itemsD (.list modes) = modes from rfl, show itemsD (.list regs) = regs from rfl, h.names, h.lr]
    refine rowsErr_fine fun d hd => ?_
    obtain ⟨i, ei⟩ := mem_ix hd
    obtain ⟨z, r, rows, ez, rfl, hr, _, _, hw⟩ := h.modes i d ei
    exact hw.1
  · obtain ⟨es, rfl, pw, be⟩ := h.ends
    rw [eb]
    show (true && ((es.map PyData.int).all (fun x => remD x size) && incAt (es.map PyData.int) 0)) = true
    rw [incAt_of pw, Bool.and_true, Bool.true_and]
    refine List.all_eq_true.mpr fun x hx => ?_
    obtain ⟨e, he, rfl⟩ := List.mem_map.mp hx
    obtain ⟨b1, b2⟩ := be e he
    show (decide (1 - size ≤ e) && decide (e ≤ size - 1)) = true
    rw [decide_eq_true b1, decide_eq_true b2]
    rfl
  · show (true && (decide ((goal.length : Int) = ((regs.length + 1 : Nat) : Int)) && goal.all fun x => betw x (-1000000) 1000000)) = true
    rw [h.lg, h.lr, Bool.true_and, decide_eq_true rfl, Bool.true_and]
    refine List.all_eq_true.mpr fun x hx => ?_
    obtain ⟨i, ei⟩ := mem_ix hx
    obtain ⟨c, rfl, c0, c1⟩ := h.goal i x ei
    show (decide (-1000000 ≤ c) && decide (c ≤ 1000000)) = true
    rw [decide_eq_true (by omega : -1000000 ≤ c), decide_eq_true (by omega : c ≤ 1000000)]
    rfl
theorem Drawn.sz1 {size b : Int} {many : Nat} {zs : List Str} {regs modes ends goal : List PyData} (h : Drawn size b many zs regs modes ends goal) : Sz 2 (.list regs) := by
  have m1 := h.m1
  refine ⟨by show regs.length ≤ 1000; rw [h.lr]; omega, fun s e => (by cases e), fun x hx => ?_⟩
  obtain ⟨i, ei⟩ := mem_ix hx
  obtain ⟨s, c, es, rfl, _⟩ := h.regs i x ei
  refine ⟨by show 2 ≤ 1000; decide, fun s e => (by cases e), fun y hy => ?_⟩
  have hy : y = .str s ∨ y = .int c := by simpa [itemsD] using hy
  rcases hy with rfl | rfl
  · have := List.mem_of_getElem? es
    simp only [regNames, List.mem_cons, List.not_mem_nil, or_false] at this
    exact sz_str (by rcases this with rfl | rfl | rfl <;> decide +kernel) _
  · exact sz_int _
theorem Drawn.sz2 {size b : Int} {many : Nat} {zs : List Str} {regs modes ends goal : List PyData} (h : Drawn size b many zs regs modes ends goal) : Sz 5 (.list modes) := by
  obtain ⟨k, ek⟩ := h.z
  have lz : zs.length ≤ 3 := by
    rw [ek, List.length_take]
    exact Nat.min_le_right _ _
  refine ⟨by show modes.length ≤ 1000; rw [h.lm]; omega, fun s e => (by cases e), fun x hx => ?_⟩
  obtain ⟨i, ei⟩ := mem_ix hx
  obtain ⟨z, r, rows, ez, rfl, hr, rl, l4, _⟩ := h.modes i x ei
  refine ⟨by show 3 ≤ 1000; decide, fun s e => (by cases e), fun y hy => ?_⟩
  have hy : y = .str z ∨ y = .str r ∨ y = .list rows := by simpa [itemsD] using hy
  rcases hy with rfl | rfl | rfl
  · exact sz_str (h.lz z (List.mem_of_getElem? ez)) _
  · exact sz_str (five_len hr) _
  · exact ⟨by show rows.length ≤ 1000; omega, fun s e => (by cases e), fun w hw => ((rl w hw).sz h.m1 h.lz).less⟩
theorem Drawn.few {size b : Int} {many : Nat} {zs : List Str} {regs modes ends goal : List PyData} (h : Drawn size b many zs regs modes ends goal) : ends.length ≤ 1000 ∧ goal.length ≤ 1000 := h.ok.few
end
/-! ### data without lists stays where lists change -/
section
mutual
def noL : PyData → Bool
  | .list _ => false
  | .tuple ds => noLs ds
  | .dict _ => false
  | _ => true
def noLs : List PyData → Bool
  | [] => true
  | d :: ds => noL d && noLs ds
end
theorem noLs_all : ∀ {ds : List PyData}, (∀ d ∈ ds, noL d = true) → noLs ds = true
  | [], _ => by simp [noLs]
  | d :: ds, h => by
    unfold noLs
    rw [h d List.mem_cons_self, noLs_all fun x hx => h x (List.mem_cons_of_mem _ hx)]
    rfl
mutual
theorem Dt.offL {Z Z' : Addr → Prop} {H : Hp} (n : ∀ q, Z' q → ∃ xs, H q = some (.lst xs)) {v : V} {d : PyData} (l : noL d = true) (h : Dt Z H v d) : Dt Z' H v d :=
  match h with
  | .non => .non
  | .bl b => .bl b
  | .int i => .int i
  | .str x => .str x
  | .lst e m t => by simp [noL] at l
  | .tup e m t => .tup e (fun z => by
      obtain ⟨xs, g⟩ := n _ z
      rw [e] at g
      cases g) (DtAll.offL n (by simpa [noL] using l) t)
  | .emp e m => by simp [noL] at l
theorem DtAll.offL {Z Z' : Addr → Prop} {H : Hp} (n : ∀ q, Z' q → ∃ xs, H q = some (.lst xs)) {vs : List V} {ds : List PyData} (l : noLs ds = true) (h : DtAll Z H vs ds) : DtAll Z' H vs ds :=
  match h with
  | .nil => .nil
  | .cons a b => by
    have l' := l
    unfold noLs at l'
    obtain ⟨l1, l2⟩ := Bool.and_eq_true_iff.mp l'
    exact .cons (Dt.offL n l1 a) (DtAll.offL n l2 b)
end
theorem NI.noL {d : PyData} (h : NI d) : W1.noL d = true := by
  rcases h with rfl | ⟨i, rfl⟩ <;> simp [W1.noL]
theorem RowL.noL {size : Int} {many : Nat} {zs : List Str} {r : PyData} (h : RowL size many zs r) : W1.noL r = true := by
  obtain ⟨a, b, uss, t, rfl, na, nb, _, _, ht, _⟩ := h
  have u : W1.noL (updsD uss) = true := by
    unfold updsD W1.noL
    refine noLs_all fun d hd => ?_
    obtain ⟨fs, _, rfl⟩ := List.mem_map.mp hd
    unfold W1.noL
    refine noLs_all fun e he => ?_
    obtain ⟨i, _, rfl⟩ := List.mem_map.mp he
    simp [W1.noL]
  have tt : W1.noL t = true := by
    rcases ht with rfl | ⟨z, rfl, _⟩ <;> simp [W1.noL]
  unfold W1.noL
  refine noLs_all fun d hd => ?_
  have hd : d = a ∨ d = b ∨ d = updsD uss ∨ d = t := by simpa using hd
  rcases hd with rfl | rfl | rfl | rfl
  · exact na.noL
  · exact nb.noL
  · exact u
  · exact tt
theorem betw_noL {d : PyData} {lo hi : Int} (h : betw d lo hi = true) : W1.noL d = true := by
  cases d <;> first | cases h | simp [W1.noL]
theorem factD_noL {d : PyData} {n : Int} (h : factD d n = true) : W1.noL d = true := by
  unfold factD at h
  simp only [Bool.and_eq_true] at h
  rw [isTup_eq h.1]
  unfold W1.noL
  exact noLs_all fun x hx => betw_noL (List.all_eq_true.mp h.2.2 x hx)
theorem upsD_noL {d : PyData} {n : Nat} (h : upsD d n = true) : W1.noL d = true := by
  unfold upsD at h
  simp only [Bool.and_eq_true] at h
  rw [isTup_eq h.1]
  unfold W1.noL
  exact noLs_all fun x hx => factD_noL (List.all_eq_true.mp h.2.2 x hx)
theorem rowD_noL {d : PyData} {size : Int} {n : Nat} {zs : List Str} (h : rowD d size n zs = true) : W1.noL d = true := by
  obtain ⟨t, l, n0, n1⟩ := rowD_NI h
  unfold rowD at h
  simp only [Bool.and_eq_true] at h
  obtain ⟨_, _, _, h1, h2⟩ := h
  rw [isTup_eq t, items_of l]
  unfold W1.noL
  refine noLs_all fun x hx => ?_
  have hx : x = itD d 0 ∨ x = itD d 1 ∨ x = itD d 2 ∨ x = itD d 3 := by simpa [List.range, List.range.loop] using hx
  rcases hx with rfl | rfl | rfl | rfl
  · exact n0.noL
  · exact n1.noL
  · exact upsD_noL h1
  · revert h2
    cases itD d 3 <;> intro h2 <;> first | (simp [W1.noL]; done) | cases h2
theorem str_noL {s : Str} : W1.noL (.str s) = true := by simp [W1.noL]
theorem nameD_noL {d : PyData} (h : nameD d = true) : W1.noL d = true := by
  cases d <;> first | cases h | simp [W1.noL]
theorem ruleD_noL {d : PyData} (h : ruleD d = true) : W1.noL d = true := by
  cases d <;> first | cases h | simp [W1.noL]
theorem regD_noL {d : PyData} (h : regD d = true) : W1.noL d = true := by
  unfold regD at h
  simp only [Bool.and_eq_true] at h
  obtain ⟨a, b, c, e⟩ := h
  rw [isTup_eq a, items_of (of_decide_eq_true b)]
  unfold W1.noL
  refine noLs_all fun x hx => ?_
  have hx : x = itD d 0 ∨ x = itD d 1 := by simpa [List.range, List.range.loop] using hx
  rcases hx with rfl | rfl
  · exact nameD_noL c
  · have f := e
    unfold factD at f
    simp only [Bool.and_eq_true] at f
    exact betw_noL (List.all_eq_true.mp f.2.2 (itD d 1) List.mem_cons_self)
theorem PartsOk.rowNoL {d0 d1 d2 d3 d4 : PyData} (h : PartsOk d0 d1 d2 d3 d4) {m : PyData} (hm : m ∈ itemsD d2) : noLs (itemsD (itD m 2)) = true := noLs_all fun r hr =>
  rowD_noL ((wrongRow_rows (rowsErr_none h.rows m hm)).1 r hr)
theorem PartsOk.regsNoL {d0 d1 d2 d3 d4 : PyData} (h : PartsOk d0 d1 d2 d3 d4) : noLs (itemsD d1) = true := noLs_all fun x hx => regD_noL ((partsD_all h.regs).2.2 x hx)
theorem PartsOk.endsNoL {d0 d1 d2 d3 d4 : PyData} (h : PartsOk d0 d1 d2 d3 d4) : noLs (itemsD d3) = true := noLs_all fun x hx => by
  have := h.ends
  unfold endsD at this
  simp only [Bool.and_eq_true] at this
  exact betw_noL (List.all_eq_true.mp this.2.1 x hx)
theorem PartsOk.resNoL {d0 d1 d2 d3 d4 : PyData} (h : PartsOk d0 d1 d2 d3 d4) : noL d4 = true := factD_noL h.result
end
section
variable {P : Program} {w : World} {K : PySem.W.Frag} {mg : Str → Option Value} {base : Heap} {aR : Addr}
abbrev s__law_parts : Stmt := top 57
abbrev N__law_parts : List Str := ["_law_pool_here", "_law_sizes", "_law_most", "_law_size", "_law_many", "_law_names", "_law_registers", "_law_at", "_law_rules", "_law_modes", "_law_name", "_law_finals", "_law_x", "_law_goal", "_law_turn"]
theorem sc__law_parts : FnScope N__law_parts ["_law_pool_here", "_law_sizes", "_law_most"] (defScope s__law_parts) := ⟨rfl, rfl, rfl, by decide +kernel, rfl, by decide +kernel, by decide +kernel⟩
def spLParts : Sp := fun vs H Q _ => ∃ (pp sl : Addr) (sizes : List Int) (most : Int), vs = [.ref pp, .ref sl, .int most] ∧ H sl = some (.lst (sizes.map V.int)) ∧ sl ≠ pp ∧ (∀ s ∈ sizes, 2 ≤ s ∧ s ≤ 10) ∧ 0 < sizes.length ∧ sizes.length < 1000 ∧ 1 ≤ most ∧ most ≤ 3 ∧ PoolAt H pp ∧
  ∀ u size b many zs regs modes ends goal H', H u = none → PoolAt H' pp → Keep pp H H' → many ≤ 2 → Drawn size b many zs regs modes ends goal → Dt (Zp pp) H' (.ref u) (.list [.int b, .list regs, .list modes, .list ends, .tuple goal]) → Q (.ref u) H'
theorem Sm.of {i : Int} (a : -1000000 < i) (b : i < 1000000) : Sm i := by
  have h1 : (-(2 : Int) ^ 600) < -1000000 := by decide +kernel
  have h2 : (1000000 : Int) < 2 ^ 600 := by decide +kernel
  exact ⟨by omega, by omega⟩
theorem Zp.new {H : Hp} {pp D : Addr} (P : PoolAt H pp) (n : H D = none) : ¬ Zp pp D := P.ne n
theorem pool_iS {pp D : Addr} : ∀ (H : Hp) (l : List V), PoolAt H pp → ¬ Zp pp D → PoolAt (upd H D (.lst l)) pp := fun H l P n => P.upd n
theorem ok__law_parts (h : Has K mg "_law_parts" s__law_parts ["_law_pool_here", "_law_sizes", "_law_most"]) (T : Txt K mg aR) (O__law_draw : Ok P w K mg base 1 "_law_draw" ["_law_pool_here", "_law_many"] spDraw) (O__law_choose : Ok P w K mg base 2 "_law_choose" ["_law_pool_here", "_law_items"] (spChoose K))
    (O__law_rows : Ok P w K mg base 4 "_law_rows" ["_law_pool_here", "_law_size", "_law_many", "_law_names"] spLRows) : Ok P w K mg base 5 "_law_parts" ["_law_pool_here", "_law_sizes", "_law_most"] spLParts := by
  obtain ⟨f, fd, g, b, F⟩ := h
  refine ⟨f, fd, g, F.kp, b, F.ok sc__law_parts (fun vs H Q E h => ?_) (fun cdv A outer s H vs Q E hr h => ?_)⟩
  · obtain ⟨pp, sl, sizes, most, rfl, _⟩ := h
    rfl
  · obtain ⟨pp, sl, sizes, most, rfl, hsl, nsl, hsz, sp0, sp1, mo0, mo1, hP, q⟩ := h
    refine ⟨_, (pss_cons (ps_set (i := 3) sc__law_parts.nd rfl (.inr rfl) (pe_cO O__law_choose (hr.mono (by decide)) pass0 rfl (pa_cons (pv 0) (pa_cons (pv 1) pa_nil))))
      (pss_cons (ps_set (i := 4) sc__law_parts.nd rfl (.inr rfl) (pe_op op_add pe_int (pe_cO O__law_draw (hr.mono (by decide)) pass0 rfl (pa_cons (pv 0) (pa_cons pe_int pa_nil)))))
      (pss_cons (ps_set (i := 5) sc__law_parts.nd rfl (.inr rfl) (pe_slice sll (pe_lst (pa_cons pe_str (pa_cons pe_str (pa_cons pe_str pa_nil)))) po_none (po_some (pe_op op_add pe_int (pe_cO O__law_draw (hr.mono (by decide)) pass0 rfl (pa_cons (pv 0) (pa_cons (pv 2) pa_nil)))))))
      (pss_cons (ps_setLc (i := 6) (own := [("_law_at", 7)]) (g := (gName 7)) (tt := tYes) rfl sc__law_parts.nd rfl rfl (sw_true rfl rfl rfl (by decide +kernel)) (pi_range1 (by rfl) T.range (pa_cons (pv 4) pa_nil)) (blkOk_by (N := N__law_parts) (sc := defScope s__law_parts) (by decide +kernel)) (fun _ _ _ _ _ => (pg_name (i := 7) sc__law_parts.nd rfl (by first | exact Or.inl rfl | exact Or.inr rfl))) (fun _ _ _ _ _ => pts_nil) (fun _ _ _ _ _ => (pe_tup (pa_cons (pe_ix ixl (pe_lst (pa_cons pe_str (pa_cons pe_str pa_nil))) (pv 7) (fun _ _ => rfl)) (pa_cons (pe_op op_sub (pe_cO O__law_draw (hr.mono (by decide)) pass0 rfl (pa_cons (pv 0) (pa_cons pe_int pa_nil))) pe_int) pa_nil)))))
      (pss_cons (ps_set (i := 8) sc__law_parts.nd rfl (.inr rfl) (pe_lst (pa_cons pe_str (pa_cons pe_str (pa_cons pe_str (pa_cons pe_str (pa_cons pe_str pa_nil)))))))
      (pss_cons (ps_setLc (i := 9) (own := [("_law_name", 10)]) (g := (gName 10)) (tt := tYes) rfl sc__law_parts.nd rfl rfl (sw_true rfl rfl rfl (by decide +kernel)) (pi_seq (pv 5)) (blkOk_by (N := N__law_parts) (sc := defScope s__law_parts) (by decide +kernel)) (fun _ _ _ _ _ => (pg_name (i := 10) sc__law_parts.nd rfl (by first | exact Or.inl rfl | exact Or.inr rfl))) (fun _ _ _ _ _ => pts_nil) (fun _ _ _ _ _ => (pe_tup (pa_cons (pv 10) (pa_cons (pe_cO O__law_choose (hr.mono (by decide)) pass0 rfl (pa_cons (pv 0) (pa_cons (pv 8) pa_nil))) (pa_cons (pe_cO O__law_rows (hr.mono (by decide)) pass0 rfl (pa_cons (pv 0) (pa_cons (pv 3) (pa_cons (pv 4) (pa_cons (pv 5) pa_nil))))) pa_nil))))))
      (pss_cons (ps_setLc (i := 11) (own := [("_law_x", 12)]) (g := (gName 12)) (tt := _) rfl sc__law_parts.nd rfl rfl (sw_true rfl rfl rfl (by decide +kernel)) (pi_range2 (by rfl) T.range (pa_cons (pe_op op_sub pe_int (pv 3)) (pa_cons (pv 3) pa_nil))) (blkOk_by (N := N__law_parts) (sc := defScope s__law_parts) (by decide +kernel)) (fun _ _ _ _ _ => (pg_name (i := 12) sc__law_parts.nd rfl (by first | exact Or.inl rfl | exact Or.inr rfl))) (fun _ _ _ _ _ => (pts_one (PW.pt (pw_or (pt_cmpR op_eq (pv 12) pe_int (nomark _)) (pw_or1 (pt_cmpR op_eq (pe_cO O__law_draw (hr.mono (by decide)) pass0 rfl (pa_cons (pv 0) (pa_cons pe_int pa_nil))) pe_int (nomark _))))))) (fun _ _ _ _ _ => (pv 12)))
      (pss_cons (ps_set (i := 13) sc__law_parts.nd rfl (.inl rfl) (pe_callTy tupT (by rfl) T.tuple bb_tuple (pa_cons (pe_lc (own := [("_law_turn", 14)]) (g := (gName 14)) (tt := tYes) rfl sc__law_parts.nd (pi_range1 (by rfl) T.range (pa_cons (pe_op op_add (pv 4) pe_int) pa_nil)) (blkOk_by (N := N__law_parts) (sc := defScope s__law_parts) (by decide +kernel)) (fun _ _ _ _ _ => (pg_name (i := 14) sc__law_parts.nd rfl (by first | exact Or.inl rfl | exact Or.inr rfl))) (fun _ _ _ _ _ => pts_nil) (fun _ _ _ _ _ => (pe_op op_sub (pe_cO O__law_draw (hr.mono (by decide)) pass0 rfl (pa_cons (pv 0) (pa_cons pe_int pa_nil))) pe_int))) pa_nil)))
      (pss_one (ps_ret (pe_lst (pa_cons (pe_cO O__law_choose (hr.mono (by decide)) pass0 rfl (pa_cons (pv 0) (pa_cons (pe_lst (pa_cons (pv 3) (pa_cons (pv 3) (pa_cons (pe_op op_sub pe_int (pv 3)) pa_nil)))) pa_nil))) (pa_cons (pv 6) (pa_cons (pv 9) (pa_cons (pv 11) (pa_cons (pv 13) pa_nil)))))))))))))))), ?_⟩
    -- the size
    refine ⟨_, rfl, _, rfl, pp, sl, sizes.map V.int, rfl, SqL.of hsl, nsl, by rw [List.length_map]; exact sp0, by rw [List.length_map]; omega, hP, fun v H1 hv P1 k1 => ?_⟩
    obtain ⟨size, hs, rfl⟩ := List.mem_map.mp hv
    obtain ⟨z0, z1⟩ := hsz size hs
    -- many
    refine ⟨_, rfl, pp, 2, rfl, by decide, Sm.of (by decide) (by decide), P1, fun d2 H2 d20 d21 P2 k2 => ⟨_, _, rfl, rfl, ?_⟩⟩
    obtain ⟨m, rfl⟩ : ∃ m : Nat, d2 = m := ⟨d2.toNat, by omega⟩
    show tSeq _ _ _ (List.set _ 4 (some (.int (1 + (m : Int))))) H2
    rw [show (1 + (m : Int)) = ((m + 1 : Nat) : Int) by omega]
    have k02 := k1.trans k2
    -- names
    refine ⟨by show 3 ≤ sizeLine; decide, fun l3 hl3 => ?_⟩
    have s3 : Same H2 (upd H2 l3 (.lst [.str "m", .str "k", .str "zz"])) := Same.new hl3
    have a3 : (upd H2 l3 (.lst [.str "m", .str "k", .str "zz"])) l3 = some (.lst [.str "m", .str "k", .str "zz"]) := upd_same
    have P3 := P2.same s3
    have n3 := P2.ne hl3
    generalize upd H2 l3 (.lst [.str "m", .str "k", .str "zz"]) = H3 at s3 a3 P3 ⊢
    refine ⟨_, rfl, _, rfl, pp, most, rfl, by omega, Sm.of (by omega) (by omega), P3, fun d4 H4 d40 d41 P4 k4 => ⟨_, _, rfl, rfl, _, rfl, ?_⟩⟩
    obtain ⟨nz, rfl⟩ : ∃ nz : Nat, d4 = nz := ⟨d4.toNat, by omega⟩
    refine ⟨l3, _, rfl, k4 _ _ a3 n3, fun l5 hl5 => ?_⟩
    have s5 : Same H4 (upd H4 l5 (.lst (cutV [.str "m", .str "k", .str "zz"] none (some (1 + (nz : Int)))))) := Same.new hl5
    have a5 : (upd H4 l5 (.lst (cutV [.str "m", .str "k", .str "zz"] none (some (1 + (nz : Int)))))) l5 = some (.lst ((modeNames.take (nz + 1)).map V.str)) := by
      rw [upd_same, show (1 + (nz : Int)) = ((nz + 1 : Nat) : Int) by omega, cut_to, List.map_take]
      rfl
    have P5 := P4.same s5
    have n5 := P4.ne hl5
    show tSeq _ _ _ _ (upd H4 l5 (.lst (cutV [.str "m", .str "k", .str "zz"] none (some (1 + (nz : Int))))))
    generalize upd H4 l5 (.lst (cutV [.str "m", .str "k", .str "zz"] none (some (1 + (nz : Int))))) = H5 at s5 a5 P5 ⊢
    have k05 : Keep pp H H5 := ((k02.trans (Same.keep s3)).trans k4).trans (Same.keep s5)
    -- the registers
    refine ⟨_, rfl, ((m + 1 : Nat) : Int), rfl, by omega, by omega, fun D6 hD6 => ?_⟩
    refine lc_draw walk_range (Zp pp) (fun G => PoolAt G pp) IsReg hD6 (Zp.new P5 hD6) P5 pool_iS (by show ((m + 1 : Nat) : Int).toNat < sizeLine; exact Nat.lt_of_lt_of_le (by omega : ((m + 1 : Nat) : Int).toNat < 4) (by decide)) (fun _ _ => True.intro) ?_ ?_
    · intro i x G0 G' Qk hi f iG ne y z
      obtain ⟨rfl, rfl⟩ := y
      refine ⟨rfl, ?_⟩
      refine ⟨by show 2 ≤ sizeLine; decide, fun l7 hl7 => ?_⟩
      have s7 : Same G' (upd G' l7 (.lst [.str "s", .str "p"])) := Same.new hl7
      have a7 : (upd G' l7 (.lst [.str "s", .str "p"])) l7 = some (.lst [.str "s", .str "p"]) := upd_same
      have iG7 := iG.same s7
      generalize upd G' l7 (.lst [.str "s", .str "p"]) = G7 at s7 a7 iG7 ⊢
      have i2 : i < 2 := by omega
      have i3 : i < 3 := by omega
      obtain ⟨sn, es⟩ : ∃ sn, regNames[i]? = some sn := ⟨_, List.getElem?_eq_getElem i3⟩
      refine ⟨_, rfl, l7, _, _, .str sn, rfl, rfl, a7, ?_, ?_⟩
      · rw [show (0 : Int) + (i : Int) = ((i : Nat) : Int) by omega]
        refine atI_nat ?_
        have : i = 0 ∨ i = 1 := by omega
        rcases this with rfl | rfl <;> (cases es; rfl)
      refine ⟨_, rfl, pp, 5, rfl, by decide, Sm.of (by decide) (by decide), iG7, fun d H8 d0 d1 P8 k8 => ⟨_, _, rfl, rfl, by show 2 ≤ sizeLine; decide, fun t nt => ?_⟩⟩
      have fm : Fm (Zp pp) G' (upd H8 t (.tup [.str sn, .int (d - 2)])) := ((Fm.of s7).trans k8.fr).trans (Fm.new nt)
      have nD : t ≠ D6 := fun m => by
        have : G' t = none := by
          cases e : G' t with
          | none => rfl
          | some o =>
            have := k8 _ _ (s7 _ _ e) (P8.ne nt)
            rw [this] at nt
            cases nt
        exact ne t this m
      exact z _ (.tuple [.str sn, .int (d - 2)]) _ fm (P8.same (Same.new nt)) (.tup upd_same (zu_ne (P8.ne nt) nD) (.cons (.str _) (.cons (.int _) .nil))) ⟨sn, d - 2, es, rfl, by omega, by omega⟩
    · intro H7 xs6 regs f7 P7 e6 d6 l6 g6
      have k07 := k05.trans f7.keep
      have dR : Dt (Zp pp) H7 (.ref D6) (.list regs) := .lst e6 (Zp.new P5 hD6) (d6.mono' fun _ m => .inl m)
      have a5' := f7 _ _ a5 n5
      -- the rules
      refine ⟨by show 5 ≤ sizeLine; decide, fun l8 hl8 => ?_⟩
      have s8 : Same H7 (upd H7 l8 (.lst [.str "down", .str "up", .str "zero", .str "positive", .str "near"])) := Same.new hl8
      have a8 : (upd H7 l8 (.lst [.str "down", .str "up", .str "zero", .str "positive", .str "near"])) l8 = some (.lst (five.map V.str)) := upd_same
      have P8 := P7.same s8
      have n8 := P7.ne hl8
      show tSeq _ _ _ _ (upd H7 l8 (.lst [.str "down", .str "up", .str "zero", .str "positive", .str "near"]))
      generalize upd H7 l8 (.lst [.str "down", .str "up", .str "zero", .str "positive", .str "near"]) = H8 at s8 a8 P8 ⊢
      have a58 := s8 _ _ a5'
      have k08 := k07.trans (Same.keep s8)
      have lzs : (modeNames.take (nz + 1)).length = nz + 1 := by
        rw [List.length_take]
        exact Nat.min_eq_left (by show nz + 1 ≤ 3; omega)
      -- the modes
      refine ⟨_, rfl, l5, (modeNames.take (nz + 1)).map V.str, _, rfl, .inl rfl, a58, fun J wk D9 hD9 => ?_⟩
      refine lc_draw wk (Zp pp) (fun G => PoolAt G pp ∧ (G D9 = none ∨ ∃ acc, G D9 = some (.lst acc))) (IsMode size (m + 1) (modeNames.take (nz + 1))) hD9 (Zp.new P8 hD9) ⟨P8, .inl hD9⟩ (fun G l a n => ⟨a.1.upd n, .inr ⟨l, upd_same⟩⟩) (by rw [List.length_map, lzs]; exact Nat.lt_of_lt_of_le (by omega : nz + 1 < 4) (by decide)) (fun G fG => fG _ _ a58 n5) ?_ ?_
      · intro i x G0 G' Qk hi f iG2 ne y z
        obtain ⟨iG, iD⟩ := iG2
        obtain ⟨rfl, ex⟩ := y
        rw [List.getElem?_map] at ex
        obtain ⟨zn, ez, rfl⟩ := Option.map_eq_some_iff.mp ex
        refine ⟨rfl, ?_⟩
        refine ⟨_, rfl, _, rfl, _, rfl, pp, l8, five.map V.str, rfl, SqL.of (f _ _ a8 n8), n8, by decide, by decide, iG, fun v H10 hv P10 k10 => ?_⟩
        obtain ⟨r, hr5, rfl⟩ := List.mem_map.mp hv
        have f10 := f.trans k10.fr
        refine ⟨_, rfl, _, rfl, _, rfl, _, rfl, pp, l5, size, m + 1, modeNames.take (nz + 1), rfl, z0, z1, by omega, f10 _ _ a58 n5, n5, by omega, by omega, P10, fun u rows H11 hu P11 k11 du rl l4 wr => ?_⟩
        refine ⟨by show 3 ≤ sizeLine; decide, fun t nt => ?_⟩
        have back : ∀ {q : Addr}, q ≠ pp → H11 q = none → G' q = none := fun {q} n e => by
          cases e' : G' q with
          | none => rfl
          | some o =>
            have := k11 _ _ (k10 _ _ e' n) n
            rw [this] at e
            cases e
        have uG : G' u = none := by
          cases e' : G' u with
          | none => rfl
          | some o =>
            have := k10 _ _ e' (P10.ne hu)
            rw [this] at hu
            cases hu
        have s12 : Same H11 (upd H11 t (.tup [.str zn, .str r, .ref u])) := Same.new nt
        have nD : t ≠ D9 := ne t (back (P11.ne nt) nt)
        obtain ⟨acc, eD⟩ : ∃ acc, G' D9 = some (.lst acc) := iD.elim (fun h => absurd rfl (ne D9 h)) id
        have nDp : D9 ≠ pp := P8.ne hD9
        have eD11 := k11 _ _ (k10 _ _ eD nDp) nDp
        have uD : u ≠ D9 := ne u uG
        have du2 : Dt (Zu (Zp pp) D9) H11 (.ref u) (.list rows) := by
          cases du with
          | lst e n t' =>
            refine .lst e (zu_ne n uD) (DtAll.offL (fun q m => ?_) (noLs_all fun d hd => (rl d hd).noL) t')
            rcases m with m | m
            · obtain ⟨c, z, _, _, hp⟩ := P11
              exact ⟨_, by rw [show q = pp from m]; exact hp⟩
            · exact ⟨_, by rw [m]; exact eD11⟩
        exact z _ (.tuple [.str zn, .str r, .list rows]) _ ((k10.fr.trans k11.fr).trans (Fm.of s12)) ⟨P11.same s12, .inr ⟨acc, s12 _ _ eD11⟩⟩ (.tup upd_same (zu_ne (P11.ne nt) nD) (.cons (.str _) (.cons (.str _) (.cons (du2.fr (Fm.of s12)) .nil)))) ⟨zn, r, rows, ez, rfl, hr5, rl, l4, wr⟩
      · intro H12 xs9 modes f12 P12' e9 d9 l9 g9
        have P12 := P12'.1
        have k012 := k08.trans f12.keep
        have dR12 := dR.fr ((Fm.of s8).trans f12)
        have dM : Dt (Zp pp) H12 (.ref D9) (.list modes) := .lst e9 (Zp.new P8 hD9) (d9.mono' fun _ m => .inl m)
        -- the ends
        refine ⟨_, rfl, _, _, rfl, rfl, _, rfl, 1 - size, size, rfl, ⟨by omega, by omega, by omega, by omega⟩, fun D13 hD13 => ?_⟩
        have n13 : D13 ≠ pp := P12.ne hD13
        refine lc_range (fun i G => Keep pp H12 G ∧ PoolAt G pp ∧ ∃ es : List Int, G D13 = some (.lst (es.map V.int)) ∧ es.Pairwise (· < ·) ∧ (∀ e ∈ es, 1 - size ≤ e ∧ e < 1 - size + (i : Nat)) ∧ es.length ≤ i) ⟨Same.keep (Same.new hD13), P12.same (Same.new hD13), [], upd_same, .nil, (fun e he => by cases he), Nat.le_refl _⟩ ?_ ?_
        · rintro i G hi ⟨kG, PG, es, hes, pw, be, le⟩
          refine ⟨rfl, ?_⟩
          have lt : (es.map V.int).length < sizeLine := by
            rw [List.length_map]
            exact Nat.lt_of_le_of_lt le (Nat.lt_of_lt_of_le (by omega : i < 20) (by decide))
          have step : ∀ {G2 : Hp}, Keep pp G G2 → PoolAt G2 pp → Keep pp H12 (upd G2 D13 (.lst (es.map V.int ++ [.int (1 - size + (i : Nat))]))) ∧ PoolAt (upd G2 D13 (.lst (es.map V.int ++ [.int (1 - size + (i : Nat))]))) pp ∧ ∃ es' : List Int, (upd G2 D13 (.lst (es.map V.int ++ [.int (1 - size + (i : Nat))]))) D13 = some (.lst (es'.map V.int)) ∧ es'.Pairwise (· < ·) ∧ (∀ e ∈ es', 1 - size ≤ e ∧ e < 1 - size + ((i + 1 : Nat) : Int)) ∧ es'.length ≤ i + 1 := fun k2 P2 => by
            refine ⟨(kG.trans k2).off hD13, P2.upd n13, es ++ [1 - size + (i : Nat)], ?_, ?_, ?_, ?_⟩
            · rw [upd_same, List.map_append]
              rfl
            · refine List.pairwise_append.mpr ⟨pw, by simp, fun a ha b hb => ?_⟩
              rw [List.mem_singleton.mp hb]
              exact (be a ha).2
            · intro e he
              rcases List.mem_append.mp he with he | he
              · have := be e he
                omega
              · rw [List.mem_singleton.mp he]
                omega
            · rw [List.length_append]
              exact Nat.succ_le_succ le
          refine ⟨_, rfl, rfl, _, rfl, ite2 (fun c => ?_) (fun c => ?_)⟩
          · exact iteT ⟨_, rfl, _, hes, lt, step Keep.refl PG⟩
          · refine ⟨_, rfl, pp, 3, rfl, by decide, Sm.of (by decide) (by decide), PG, fun d G2 d0 d1 P2 k2 => ⟨rfl, _, rfl, ite2 (fun c => ?_) (fun c => ?_)⟩⟩
            · exact ⟨_, rfl, _, k2 _ _ hes n13, lt, step k2 P2⟩
            · exact ⟨kG.trans k2, P2, es, k2 _ _ hes n13, pw, fun e he => by have := be e he; omega, Nat.le_succ_of_le le⟩
        · rintro H14 ⟨k14, P14, es, hes, pw, be, le⟩
          have dE : Dt (Zp pp) H14 (.ref D13) (.list (es.map PyData.int)) := .lst hes n13 (DtAll.ints es)
          have dR14 := dR12.fr k14.fr
          have dM14 := dM.fr k14.fr
          have k014 := k012.trans k14
          -- the result
          refine ⟨_, rfl, _, _, rfl, rfl, ((m + 1 : Nat) : Int) + 1, rfl, by omega, by omega, fun D15 hD15 => ?_⟩
          refine lc_draw walk_range (Zp pp) (fun G => PoolAt G pp) IsSm hD15 (Zp.new P14 hD15) P14 pool_iS (by show (((m + 1 : Nat) : Int) + 1).toNat < sizeLine; exact Nat.lt_of_lt_of_le (by omega : (((m + 1 : Nat) : Int) + 1).toNat < 5) (by decide)) (fun _ _ => True.intro) ?_ ?_
          · intro i x G0 G' Qk hi f iG ne y z
            obtain ⟨rfl, rfl⟩ := y
            refine ⟨rfl, ?_⟩
            exact ⟨_, rfl, pp, 5, rfl, by decide, Sm.of (by decide) (by decide), iG, fun d G2 d0 d1 P2 k2 => ⟨_, _, rfl, rfl, z _ (.int (d - 2)) _ k2.fr P2 (.int _) ⟨d - 2, rfl, by omega, by omega⟩⟩⟩
          · intro H16 xs15 goal f16 P16 e15 d15 l15 g15
            refine ⟨D15, _, rfl, .inl ⟨e15, fun l17 hl17 => ?_⟩⟩
            have s17 : Same H16 (upd H16 l17 (.tup xs15)) := Same.new hl17
            have a17 : (upd H16 l17 (.tup xs15)) l17 = some (.tup xs15) := upd_same
            have P17 := P16.same s17
            have n17 := P16.ne hl17
            show tSeq _ _ _ _ (upd H16 l17 (.tup xs15))
            generalize upd H16 l17 (.tup xs15) = H17 at s17 a17 P17 ⊢
            have f17 := f16.trans (Fm.of s17)
            have dG : Dt (Zp pp) H17 (.ref l17) (.tuple goal) := .tup a17 n17 ((d15.fr (Fm.of s17)).mono' fun _ m => .inl m)
            refine ⟨_, rfl, _, rfl, _, rfl, _, rfl, _, _, rfl, rfl, by show 3 ≤ sizeLine; decide, fun l18 hl18 => ?_⟩
            have s18 : Same H17 (upd H17 l18 (.lst [.int size, .int size, .int (0 - size)])) := Same.new hl18
            refine ⟨pp, l18, [.int size, .int size, .int (0 - size)], rfl, SqL.of upd_same, P17.ne hl18, by simp, by simp, P17.same s18, fun v H19 hv P19 k19 => ?_⟩
            obtain ⟨b, rfl, eb⟩ : ∃ b : Int, v = .int b ∧ (b = size ∨ b = -size) := by
              simp only [List.mem_cons, List.not_mem_nil, or_false] at hv
              rcases hv with rfl | rfl | rfl
              · exact ⟨_, rfl, .inl rfl⟩
              · exact ⟨_, rfl, .inl rfl⟩
              · exact ⟨_, rfl, .inr (by omega)⟩
            refine ⟨_, rfl, _, rfl, _, rfl, _, rfl, by show 5 ≤ sizeLine; decide, fun u hu => ?_⟩
            have s20 : Same H19 (upd H19 u (.lst [.int b, .ref D6, .ref D9, .ref D13, .ref l17])) := Same.new hu
            have f1420 : Fm (Zp pp) H14 (upd H19 u (.lst [.int b, .ref D6, .ref D9, .ref D13, .ref l17])) := ((f17.trans (Fm.of s18)).trans k19.fr).trans (Fm.of s20)
            have k020 : Keep pp H (upd H19 u (.lst [.int b, .ref D6, .ref D9, .ref D13, .ref l17])) := k014.trans f1420.keep
            have hun : H u = none := by
              cases e : H u with
              | none => rfl
              | some o =>
                have k019 : Keep pp H H19 := k014.trans (((f17.trans (Fm.of s18)).trans k19.fr).keep)
                rw [k019 _ _ e (P19.ne hu)] at hu
                cases hu
            refine q u size b (m + 1) (modeNames.take (nz + 1)) regs modes (es.map PyData.int) goal _ hun (P19.same s20) k020 (by omega) ⟨z0, z1, eb, by omega, by omega, by omega, ⟨_, rfl⟩, by rw [l6]; omega, g6, by rw [l9, List.length_map], g9, ⟨es, rfl, pw, fun e he => ?_⟩, by rw [l15]; omega, g15⟩ ?_
            · have := be e he
              omega
            · exact .lst upd_same (P19.ne hu) (.cons (.int b) (.cons (dR14.fr f1420) (.cons (dM14.fr f1420) (.cons (dE.fr f1420) (.cons ((dG.fr ((Fm.of s18).trans k19.fr)).fr (Fm.of s20)) .nil)))))
end
/-! ### _law_told: a lambda is handed in and called; its errors are told -/
section
open LamX
theorem takes_none {X : Cx} : Takes X (fun _ _ _ _ => False) := fun _ _ z => by
  obtain ⟨a, B, sI, pins1, τ1, G1, kd, dd, rfl, J1, nb, up, sky, free, os, ag, wish⟩ := z
  exact wish.elim
/-- v is data that can be shown -/
def Shw (K : PySem.W.Frag) (H : Hp) (v : V) (pd : PyData) : Prop := De K H v pd ∧ pd.showable = true ∧ pd.depth + 1 ≤ 64 ∧ pd.shown.length ≤ sizeLine
/-- what the text's top has of the classes -/
structure ETx (K : PySem.W.Frag) (mg : Str → Option Value) (CB CG CM CI CE CR CU CS CN CL : Addr) : Prop where
  m0 : mg "InvalidBase" = some (.ref CB)
  x0 : XfC K CB
  n0 : PySem.W.findIn K (.ref CB) "value" = some none
  e0_0 : PySem.W.exmOne K (.ref CB) (.ref CB) = some true
  m1 : mg "InvalidRegisters" = some (.ref CG)
  x1 : XfC K CG
  n1 : PySem.W.findIn K (.ref CG) "number" = some none
  e1_0 : PySem.W.exmOne K (.ref CG) (.ref CB) = some false
  e1_1 : PySem.W.exmOne K (.ref CG) (.ref CG) = some true
  m2 : mg "InvalidModes" = some (.ref CM)
  x2 : XfC K CM
  n2 : PySem.W.findIn K (.ref CM) "number" = some none
  e2_0 : PySem.W.exmOne K (.ref CM) (.ref CB) = some false
  e2_1 : PySem.W.exmOne K (.ref CM) (.ref CG) = some false
  e2_2 : PySem.W.exmOne K (.ref CM) (.ref CM) = some true
  m3 : mg "InvalidRow" = some (.ref CI)
  x3 : XfC K CI
  n3 : PySem.W.findIn K (.ref CI) "number" = some none
  o3 : PySem.W.findIn K (.ref CI) "mode" = some none
  e3_0 : PySem.W.exmOne K (.ref CI) (.ref CB) = some false
  e3_1 : PySem.W.exmOne K (.ref CI) (.ref CG) = some false
  e3_2 : PySem.W.exmOne K (.ref CI) (.ref CM) = some false
  e3_3 : PySem.W.exmOne K (.ref CI) (.ref CI) = some true
  m4 : mg "InvalidEnds" = some (.ref CE)
  x4 : XfC K CE
  n4 : PySem.W.findIn K (.ref CE) "value" = some none
  e4_0 : PySem.W.exmOne K (.ref CE) (.ref CB) = some false
  e4_1 : PySem.W.exmOne K (.ref CE) (.ref CG) = some false
  e4_2 : PySem.W.exmOne K (.ref CE) (.ref CM) = some false
  e4_3 : PySem.W.exmOne K (.ref CE) (.ref CI) = some false
  e4_4 : PySem.W.exmOne K (.ref CE) (.ref CE) = some true
  m5 : mg "InvalidResult" = some (.ref CR)
  x5 : XfC K CR
  n5 : PySem.W.findIn K (.ref CR) "value" = some none
  e5_0 : PySem.W.exmOne K (.ref CR) (.ref CB) = some false
  e5_1 : PySem.W.exmOne K (.ref CR) (.ref CG) = some false
  e5_2 : PySem.W.exmOne K (.ref CR) (.ref CM) = some false
  e5_3 : PySem.W.exmOne K (.ref CR) (.ref CI) = some false
  e5_4 : PySem.W.exmOne K (.ref CR) (.ref CE) = some false
  e5_5 : PySem.W.exmOne K (.ref CR) (.ref CR) = some true
  m6 : mg "UnknownName" = some (.ref CU)
  x6 : XfC K CU
  n6 : PySem.W.findIn K (.ref CU) "value" = some none
  e6_0 : PySem.W.exmOne K (.ref CU) (.ref CB) = some false
  e6_1 : PySem.W.exmOne K (.ref CU) (.ref CG) = some false
  e6_2 : PySem.W.exmOne K (.ref CU) (.ref CM) = some false
  e6_3 : PySem.W.exmOne K (.ref CU) (.ref CI) = some false
  e6_4 : PySem.W.exmOne K (.ref CU) (.ref CE) = some false
  e6_5 : PySem.W.exmOne K (.ref CU) (.ref CR) = some false
  e6_6 : PySem.W.exmOne K (.ref CU) (.ref CU) = some true
  m7 : mg "InvalidSign" = some (.ref CS)
  x7 : XfC K CS
  n7 : PySem.W.findIn K (.ref CS) "value" = some none
  e7_0 : PySem.W.exmOne K (.ref CS) (.ref CB) = some false
  e7_1 : PySem.W.exmOne K (.ref CS) (.ref CG) = some false
  e7_2 : PySem.W.exmOne K (.ref CS) (.ref CM) = some false
  e7_3 : PySem.W.exmOne K (.ref CS) (.ref CI) = some false
  e7_4 : PySem.W.exmOne K (.ref CS) (.ref CE) = some false
  e7_5 : PySem.W.exmOne K (.ref CS) (.ref CR) = some false
  e7_6 : PySem.W.exmOne K (.ref CS) (.ref CU) = some false
  e7_7 : PySem.W.exmOne K (.ref CS) (.ref CS) = some true
  m8 : mg "InvalidNumber" = some (.ref CN)
  x8 : XfC K CN
  n8 : PySem.W.findIn K (.ref CN) "value" = some none
  e8_0 : PySem.W.exmOne K (.ref CN) (.ref CB) = some false
  e8_1 : PySem.W.exmOne K (.ref CN) (.ref CG) = some false
  e8_2 : PySem.W.exmOne K (.ref CN) (.ref CM) = some false
  e8_3 : PySem.W.exmOne K (.ref CN) (.ref CI) = some false
  e8_4 : PySem.W.exmOne K (.ref CN) (.ref CE) = some false
  e8_5 : PySem.W.exmOne K (.ref CN) (.ref CR) = some false
  e8_6 : PySem.W.exmOne K (.ref CN) (.ref CU) = some false
  e8_7 : PySem.W.exmOne K (.ref CN) (.ref CS) = some false
  e8_8 : PySem.W.exmOne K (.ref CN) (.ref CN) = some true
  m9 : mg "InvalidRule" = some (.ref CL)
  x9 : XfC K CL
  n9 : PySem.W.findIn K (.ref CL) "value" = some none
  e9_0 : PySem.W.exmOne K (.ref CL) (.ref CB) = some false
  e9_1 : PySem.W.exmOne K (.ref CL) (.ref CG) = some false
  e9_2 : PySem.W.exmOne K (.ref CL) (.ref CM) = some false
  e9_3 : PySem.W.exmOne K (.ref CL) (.ref CI) = some false
  e9_4 : PySem.W.exmOne K (.ref CL) (.ref CE) = some false
  e9_5 : PySem.W.exmOne K (.ref CL) (.ref CR) = some false
  e9_6 : PySem.W.exmOne K (.ref CL) (.ref CU) = some false
  e9_7 : PySem.W.exmOne K (.ref CL) (.ref CS) = some false
  e9_8 : PySem.W.exmOne K (.ref CL) (.ref CN) = some false
  e9_9 : PySem.W.exmOne K (.ref CL) (.ref CL) = some true
abbrev s__law_told : Stmt := top 59
abbrev N__law_told : List Str := ["_law_call", "e"]
theorem sc__law_told : FnScope N__law_told ["_law_call"] (defScope s__law_told) := ⟨rfl, rfl, rfl, by decide +kernel, rfl, by decide +kernel, by decide +kernel⟩
def lstV (kind : Str) (pd : PyData) : HO := .lst [.str kind, .str pd.shown]
def lstN (kind : Str) (n : V) : HO := .lst [.str kind, n]
def lstR (m n : V) : HO := .lst [.str "row", m, n]
def tsV (K : PySem.W.Frag) (C : Addr) (kind : Str) : Addr → Value → Option Addr → TS := fun a kd dd D τ G => τ.length = 2 → τ[1]? = some (some (.ref a)) ∧ kd = .ref C ∧ ∃ (d : Addr) (v : V) (pd : PyData), dd = some d ∧ G d = some (.xd [("value", v)]) ∧ Shw K G v pd ∧ ∀ l, G l = none → D.rt (.ref l) (upd G l (lstV kind pd))
def tsN (C : Addr) (kind : Str) : Addr → Value → Option Addr → TS := fun a kd dd D τ G => τ.length = 2 → τ[1]? = some (some (.ref a)) ∧ kd = .ref C ∧ ∃ (d : Addr) (n : V), dd = some d ∧ G d = some (.xd [("number", n)]) ∧ ∀ l, G l = none → D.rt (.ref l) (upd G l (lstN kind n))
def tsR (C : Addr) : Addr → Value → Option Addr → TS := fun a kd dd D τ G => τ.length = 2 → τ[1]? = some (some (.ref a)) ∧ kd = .ref C ∧ ∃ (d : Addr) (m n : V), dd = some d ∧ G d = some (.xd [("number", n), ("mode", m)]) ∧ ∀ l, G l = none → D.rt (.ref l) (upd G l (lstR m n))
def XVal (K : PySem.W.Frag) (C : Addr) (kind : Str) (Q : VK) : XK := fun cls dd G => cls = .ref C ∧ ∃ (d : Addr) (v : V) (pd : PyData), dd = some d ∧ G d = some (.xd [("value", v)]) ∧ Shw K G v pd ∧ ∀ l, G l = none → Q (.ref l) (upd G l (lstV kind pd))
def XNum (C : Addr) (kind : Str) (Q : VK) : XK := fun cls dd G => cls = .ref C ∧ ∃ (d : Addr) (n : V), dd = some d ∧ G d = some (.xd [("number", n)]) ∧ ∀ l, G l = none → Q (.ref l) (upd G l (lstN kind n))
def XRow (C : Addr) (Q : VK) : XK := fun cls dd G => cls = .ref C ∧ ∃ (d : Addr) (m n : V), dd = some d ∧ G d = some (.xd [("number", n), ("mode", m)]) ∧ ∀ l, G l = none → Q (.ref l) (upd G l (lstR m n))
inductive EGood (K : PySem.W.Frag) (CB CG CM CI CE CR CU CS CN CL : Addr) (Q : VK) (cls : Value) (dd : Option Addr) (G : Hp) : Prop
  | c0 : XVal K CB "base" Q cls dd G → EGood K CB CG CM CI CE CR CU CS CN CL Q cls dd G
  | c1 : XNum CG "registers" Q cls dd G → EGood K CB CG CM CI CE CR CU CS CN CL Q cls dd G
  | c2 : XNum CM "modes" Q cls dd G → EGood K CB CG CM CI CE CR CU CS CN CL Q cls dd G
  | c3 : XRow CI Q cls dd G → EGood K CB CG CM CI CE CR CU CS CN CL Q cls dd G
  | c4 : XVal K CE "ends" Q cls dd G → EGood K CB CG CM CI CE CR CU CS CN CL Q cls dd G
  | c5 : XVal K CR "result" Q cls dd G → EGood K CB CG CM CI CE CR CU CS CN CL Q cls dd G
  | c6 : XVal K CU "name" Q cls dd G → EGood K CB CG CM CI CE CR CU CS CN CL Q cls dd G
  | c7 : XVal K CS "sign" Q cls dd G → EGood K CB CG CM CI CE CR CU CS CN CL Q cls dd G
  | c8 : XVal K CN "number" Q cls dd G → EGood K CB CG CM CI CE CR CU CS CN CL Q cls dd G
  | c9 : XVal K CL "rule" Q cls dd G → EGood K CB CG CM CI CE CR CU CS CN CL Q cls dd G
def toldT (K : PySem.W.Frag) (CB CG CM CI CE CR CU CS CN CL : Addr) : (XK → Hp → VK → Prop) → Hp → VK → Prop := fun tl H Q => tl (EGood K CB CG CM CI CE CR CU CS CN CL Q) H (fun _ G => Q (.str "made") G)
theorem told_handed {X : Cx} {k : Nat} {g aR : Addr} {cdv : Value} {CB CG CM CI CE CR CU CS CN CL : Addr} (T : Txt X.K X.mg aR) (ET : ETx X.K X.mg CB CG CM CI CE CR CU CS CN CL) (hG : X.A.guards = some []) (hr : Room (k + 2) X.A) : Handed X k "_law_told" "_law_call" N__law_told s__law_told g cdv (toldT X.K CB CG CM CI CE CR CU CS CN CL) := by
  intro d f c' s H Q tl kn act w
  have un := (hr.deeper (PyProof.Rows.envOfC "_law_told" (defScope s__law_told) s.heap.objs.size g cdv)).un
  rw [Nat.add_assoc] at un
  refine ⟨_, pss_one (ps_tryN rfl rfl sc__law_told.nd (out := fun _ _ _ _ => False) (l := [⟨.ref CB, some 1, tsV X.K CB "base"⟩, ⟨.ref CG, some 1, tsN CG "registers"⟩, ⟨.ref CM, some 1, tsN CM "modes"⟩, ⟨.ref CI, some 1, tsR CI⟩, ⟨.ref CE, some 1, tsV X.K CE "ends"⟩, ⟨.ref CR, some 1, tsV X.K CR "result"⟩, ⟨.ref CU, some 1, tsV X.K CU "name"⟩, ⟨.ref CS, some 1, tsV X.K CS "sign"⟩, ⟨.ref CN, some 1, tsV X.K CN "number"⟩, ⟨.ref CL, some 1, tsV X.K CL "rule"⟩]) ?tk (fun W ps xe tk _ => pss_cons (ps_expr (act W ps xe _ _ tk)) (pss_one (ps_ret pe_str)))
    (.named (i := 1) ⟨rfl, by decide +kernel, .inl ET.m0⟩ rfl rfl ?su0
    (.named (i := 1) ⟨rfl, by decide +kernel, .inl ET.m1⟩ rfl rfl ?su1
    (.named (i := 1) ⟨rfl, by decide +kernel, .inl ET.m2⟩ rfl rfl ?su2
    (.named (i := 1) ⟨rfl, by decide +kernel, .inl ET.m3⟩ rfl rfl ?su3
    (.named (i := 1) ⟨rfl, by decide +kernel, .inl ET.m4⟩ rfl rfl ?su4
    (.named (i := 1) ⟨rfl, by decide +kernel, .inl ET.m5⟩ rfl rfl ?su5
    (.named (i := 1) ⟨rfl, by decide +kernel, .inl ET.m6⟩ rfl rfl ?su6
    (.named (i := 1) ⟨rfl, by decide +kernel, .inl ET.m7⟩ rfl rfl ?su7
    (.named (i := 1) ⟨rfl, by decide +kernel, .inl ET.m8⟩ rfl rfl ?su8
    (.named (i := 1) ⟨rfl, by decide +kernel, .inl ET.m9⟩ rfl rfl ?su9
    .nil))))))))))), ?_⟩
  case tk => exact takes_none
  case su0 =>
    intro a ob kd dd ps zc isF
    refine PSs.imp (PSs.len (pss_one (ps_ret (pe_lst (pa_cons pe_str (pa_cons (pe_callB (call_repr hG (Nat.lt_of_le_of_lt (Nat.add_le_add_left (by omega) _) un)) (by rfl) T.repr bb_repr (pa_cons (pe_xf ET.x0 ET.n0 zc isF (pv 1)) pa_nil)) pa_nil)))))) ?_
    intro D τ G w1 len
    obtain ⟨e1, rfl, d1, v, pd, rfl, ed, ⟨dp, h2, h3, h4⟩, q⟩ := w1 len
    exact ⟨_, e1, rfl, rfl, d1, _, v, rfl, ed, rfl, v, pd, rfl, De.rds dp, h2, h3, h4, (by show 2 ≤ sizeLine; decide), fun l hl => q l hl⟩
  case su1 =>
    intro a ob kd dd ps zc isF
    refine PSs.imp (PSs.len (pss_one (ps_ret (pe_lst (pa_cons pe_str (pa_cons (pe_xf ET.x1 ET.n1 zc isF (pv 1)) pa_nil)))))) ?_
    intro D τ G w1 len
    obtain ⟨e1, rfl, d1, n, rfl, ed, q⟩ := w1 len
    exact ⟨_, e1, rfl, rfl, d1, _, n, rfl, ed, rfl, (by show 2 ≤ sizeLine; decide), fun l hl => q l hl⟩
  case su2 =>
    intro a ob kd dd ps zc isF
    refine PSs.imp (PSs.len (pss_one (ps_ret (pe_lst (pa_cons pe_str (pa_cons (pe_xf ET.x2 ET.n2 zc isF (pv 1)) pa_nil)))))) ?_
    intro D τ G w1 len
    obtain ⟨e1, rfl, d1, n, rfl, ed, q⟩ := w1 len
    exact ⟨_, e1, rfl, rfl, d1, _, n, rfl, ed, rfl, (by show 2 ≤ sizeLine; decide), fun l hl => q l hl⟩
  case su3 =>
    intro a ob kd dd ps zc isF
    refine PSs.imp (PSs.len (pss_one (ps_ret (pe_lst (pa_cons pe_str (pa_cons (pe_xf ET.x3 ET.o3 zc isF (pv 1)) (pa_cons (pe_xf ET.x3 ET.n3 zc isF (pv 1)) pa_nil))))))) ?_
    intro D τ G w1 len
    obtain ⟨e1, rfl, d1, m, n, rfl, ed, q⟩ := w1 len
    exact ⟨_, e1, rfl, rfl, d1, _, m, rfl, ed, rfl, _, e1, rfl, rfl, d1, _, n, rfl, ed, rfl, (by show 3 ≤ sizeLine; decide), fun l hl => q l hl⟩
  case su4 =>
    intro a ob kd dd ps zc isF
    refine PSs.imp (PSs.len (pss_one (ps_ret (pe_lst (pa_cons pe_str (pa_cons (pe_callB (call_repr hG (Nat.lt_of_le_of_lt (Nat.add_le_add_left (by omega) _) un)) (by rfl) T.repr bb_repr (pa_cons (pe_xf ET.x4 ET.n4 zc isF (pv 1)) pa_nil)) pa_nil)))))) ?_
    intro D τ G w1 len
    obtain ⟨e1, rfl, d1, v, pd, rfl, ed, ⟨dp, h2, h3, h4⟩, q⟩ := w1 len
    exact ⟨_, e1, rfl, rfl, d1, _, v, rfl, ed, rfl, v, pd, rfl, De.rds dp, h2, h3, h4, (by show 2 ≤ sizeLine; decide), fun l hl => q l hl⟩
  case su5 =>
    intro a ob kd dd ps zc isF
    refine PSs.imp (PSs.len (pss_one (ps_ret (pe_lst (pa_cons pe_str (pa_cons (pe_callB (call_repr hG (Nat.lt_of_le_of_lt (Nat.add_le_add_left (by omega) _) un)) (by rfl) T.repr bb_repr (pa_cons (pe_xf ET.x5 ET.n5 zc isF (pv 1)) pa_nil)) pa_nil)))))) ?_
    intro D τ G w1 len
    obtain ⟨e1, rfl, d1, v, pd, rfl, ed, ⟨dp, h2, h3, h4⟩, q⟩ := w1 len
    exact ⟨_, e1, rfl, rfl, d1, _, v, rfl, ed, rfl, v, pd, rfl, De.rds dp, h2, h3, h4, (by show 2 ≤ sizeLine; decide), fun l hl => q l hl⟩
  case su6 =>
    intro a ob kd dd ps zc isF
    refine PSs.imp (PSs.len (pss_one (ps_ret (pe_lst (pa_cons pe_str (pa_cons (pe_callB (call_repr hG (Nat.lt_of_le_of_lt (Nat.add_le_add_left (by omega) _) un)) (by rfl) T.repr bb_repr (pa_cons (pe_xf ET.x6 ET.n6 zc isF (pv 1)) pa_nil)) pa_nil)))))) ?_
    intro D τ G w1 len
    obtain ⟨e1, rfl, d1, v, pd, rfl, ed, ⟨dp, h2, h3, h4⟩, q⟩ := w1 len
    exact ⟨_, e1, rfl, rfl, d1, _, v, rfl, ed, rfl, v, pd, rfl, De.rds dp, h2, h3, h4, (by show 2 ≤ sizeLine; decide), fun l hl => q l hl⟩
  case su7 =>
    intro a ob kd dd ps zc isF
    refine PSs.imp (PSs.len (pss_one (ps_ret (pe_lst (pa_cons pe_str (pa_cons (pe_callB (call_repr hG (Nat.lt_of_le_of_lt (Nat.add_le_add_left (by omega) _) un)) (by rfl) T.repr bb_repr (pa_cons (pe_xf ET.x7 ET.n7 zc isF (pv 1)) pa_nil)) pa_nil)))))) ?_
    intro D τ G w1 len
    obtain ⟨e1, rfl, d1, v, pd, rfl, ed, ⟨dp, h2, h3, h4⟩, q⟩ := w1 len
    exact ⟨_, e1, rfl, rfl, d1, _, v, rfl, ed, rfl, v, pd, rfl, De.rds dp, h2, h3, h4, (by show 2 ≤ sizeLine; decide), fun l hl => q l hl⟩
  case su8 =>
    intro a ob kd dd ps zc isF
    refine PSs.imp (PSs.len (pss_one (ps_ret (pe_lst (pa_cons pe_str (pa_cons (pe_callB (call_repr hG (Nat.lt_of_le_of_lt (Nat.add_le_add_left (by omega) _) un)) (by rfl) T.repr bb_repr (pa_cons (pe_xf ET.x8 ET.n8 zc isF (pv 1)) pa_nil)) pa_nil)))))) ?_
    intro D τ G w1 len
    obtain ⟨e1, rfl, d1, v, pd, rfl, ed, ⟨dp, h2, h3, h4⟩, q⟩ := w1 len
    exact ⟨_, e1, rfl, rfl, d1, _, v, rfl, ed, rfl, v, pd, rfl, De.rds dp, h2, h3, h4, (by show 2 ≤ sizeLine; decide), fun l hl => q l hl⟩
  case su9 =>
    intro a ob kd dd ps zc isF
    refine PSs.imp (PSs.len (pss_one (ps_ret (pe_lst (pa_cons pe_str (pa_cons (pe_callB (call_repr hG (Nat.lt_of_le_of_lt (Nat.add_le_add_left (by omega) _) un)) (by rfl) T.repr bb_repr (pa_cons (pe_xf ET.x9 ET.n9 zc isF (pv 1)) pa_nil)) pa_nil)))))) ?_
    intro D τ G w1 len
    obtain ⟨e1, rfl, d1, v, pd, rfl, ed, ⟨dp, h2, h3, h4⟩, q⟩ := w1 len
    exact ⟨_, e1, rfl, rfl, d1, _, v, rfl, ed, rfl, v, pd, rfl, De.rds dp, h2, h3, h4, (by show 2 ≤ sizeLine; decide), fun l hl => q l hl⟩
  refine ⟨EGood X.K CB CG CM CI CE CR CU CS CN CL Q, f, c', fun cls dd τ G h => ?_, rfl, kn, w⟩
  have fin : ∀ a : Addr, (τ.set 1 (some (V.ref a))).length = 2 → (τ.set 1 (some (V.ref a)))[1]? = some (some (V.ref a)) := fun a len => by
    obtain ⟨x, y, e⟩ := two_of (show τ.length = 2 by simpa using len)
    subst e
    rfl
  cases h with
  | c0 h =>
    obtain ⟨rfl, h⟩ := h
    exact ⟨true, ET.e0_0, fun _ a na len => ⟨fin a len, rfl, h⟩, (fun z => nomatch z)⟩
  | c1 h =>
    obtain ⟨rfl, h⟩ := h
    exact ⟨false, ET.e1_0, (fun z => nomatch z), fun _ => ⟨true, ET.e1_1, fun _ a na len => ⟨fin a len, rfl, h⟩, (fun z => nomatch z)⟩⟩
  | c2 h =>
    obtain ⟨rfl, h⟩ := h
    exact ⟨false, ET.e2_0, (fun z => nomatch z), fun _ => ⟨false, ET.e2_1, (fun z => nomatch z), fun _ => ⟨true, ET.e2_2, fun _ a na len => ⟨fin a len, rfl, h⟩, (fun z => nomatch z)⟩⟩⟩
  | c3 h =>
    obtain ⟨rfl, h⟩ := h
    exact ⟨false, ET.e3_0, (fun z => nomatch z), fun _ => ⟨false, ET.e3_1, (fun z => nomatch z), fun _ => ⟨false, ET.e3_2, (fun z => nomatch z), fun _ => ⟨true, ET.e3_3, fun _ a na len => ⟨fin a len, rfl, h⟩, (fun z => nomatch z)⟩⟩⟩⟩
  | c4 h =>
    obtain ⟨rfl, h⟩ := h
    exact ⟨false, ET.e4_0, (fun z => nomatch z), fun _ => ⟨false, ET.e4_1, (fun z => nomatch z), fun _ => ⟨false, ET.e4_2, (fun z => nomatch z), fun _ => ⟨false, ET.e4_3, (fun z => nomatch z), fun _ => ⟨true, ET.e4_4, fun _ a na len => ⟨fin a len, rfl, h⟩, (fun z => nomatch z)⟩⟩⟩⟩⟩
  | c5 h =>
    obtain ⟨rfl, h⟩ := h
    exact ⟨false, ET.e5_0, (fun z => nomatch z), fun _ => ⟨false, ET.e5_1, (fun z => nomatch z), fun _ => ⟨false, ET.e5_2, (fun z => nomatch z), fun _ => ⟨false, ET.e5_3, (fun z => nomatch z), fun _ => ⟨false, ET.e5_4, (fun z => nomatch z), fun _ => ⟨true, ET.e5_5, fun _ a na len => ⟨fin a len, rfl, h⟩, (fun z => nomatch z)⟩⟩⟩⟩⟩⟩
  | c6 h =>
    obtain ⟨rfl, h⟩ := h
    exact ⟨false, ET.e6_0, (fun z => nomatch z), fun _ => ⟨false, ET.e6_1, (fun z => nomatch z), fun _ => ⟨false, ET.e6_2, (fun z => nomatch z), fun _ => ⟨false, ET.e6_3, (fun z => nomatch z), fun _ => ⟨false, ET.e6_4, (fun z => nomatch z), fun _ => ⟨false, ET.e6_5, (fun z => nomatch z), fun _ => ⟨true, ET.e6_6, fun _ a na len => ⟨fin a len, rfl, h⟩, (fun z => nomatch z)⟩⟩⟩⟩⟩⟩⟩
  | c7 h =>
    obtain ⟨rfl, h⟩ := h
    exact ⟨false, ET.e7_0, (fun z => nomatch z), fun _ => ⟨false, ET.e7_1, (fun z => nomatch z), fun _ => ⟨false, ET.e7_2, (fun z => nomatch z), fun _ => ⟨false, ET.e7_3, (fun z => nomatch z), fun _ => ⟨false, ET.e7_4, (fun z => nomatch z), fun _ => ⟨false, ET.e7_5, (fun z => nomatch z), fun _ => ⟨false, ET.e7_6, (fun z => nomatch z), fun _ => ⟨true, ET.e7_7, fun _ a na len => ⟨fin a len, rfl, h⟩, (fun z => nomatch z)⟩⟩⟩⟩⟩⟩⟩⟩
  | c8 h =>
    obtain ⟨rfl, h⟩ := h
    exact ⟨false, ET.e8_0, (fun z => nomatch z), fun _ => ⟨false, ET.e8_1, (fun z => nomatch z), fun _ => ⟨false, ET.e8_2, (fun z => nomatch z), fun _ => ⟨false, ET.e8_3, (fun z => nomatch z), fun _ => ⟨false, ET.e8_4, (fun z => nomatch z), fun _ => ⟨false, ET.e8_5, (fun z => nomatch z), fun _ => ⟨false, ET.e8_6, (fun z => nomatch z), fun _ => ⟨false, ET.e8_7, (fun z => nomatch z), fun _ => ⟨true, ET.e8_8, fun _ a na len => ⟨fin a len, rfl, h⟩, (fun z => nomatch z)⟩⟩⟩⟩⟩⟩⟩⟩⟩
  | c9 h =>
    obtain ⟨rfl, h⟩ := h
    exact ⟨false, ET.e9_0, (fun z => nomatch z), fun _ => ⟨false, ET.e9_1, (fun z => nomatch z), fun _ => ⟨false, ET.e9_2, (fun z => nomatch z), fun _ => ⟨false, ET.e9_3, (fun z => nomatch z), fun _ => ⟨false, ET.e9_4, (fun z => nomatch z), fun _ => ⟨false, ET.e9_5, (fun z => nomatch z), fun _ => ⟨false, ET.e9_6, (fun z => nomatch z), fun _ => ⟨false, ET.e9_7, (fun z => nomatch z), fun _ => ⟨false, ET.e9_8, (fun z => nomatch z), fun _ => ⟨true, ET.e9_9, fun _ a na len => ⟨fin a len, rfl, h⟩, (fun z => nomatch z)⟩⟩⟩⟩⟩⟩⟩⟩⟩⟩
end
/-! ### parts that are bent, by data -/
section
def strLn (d : PyData) : Bool := match d with | .str s => decide (s.length ≤ 1000) | _ => true
theorem strLn_of {d : PyData} (h : strLn d = true) : ∀ s, d = .str s → s.length ≤ 1000 := fun s e => by
  subst e
  exact of_decide_eq_true h
def szB : Nat → PyData → Bool
  | 0, d => decide ((itemsD d).length ≤ 1000) && strLn d
  | n + 1, d => decide ((itemsD d).length ≤ 1000) && (strLn d && (itemsD d).all (szB n))
theorem szB_sz : ∀ {n : Nat} {d : PyData}, szB n d = true → Sz n d
  | 0, _, h => by
    obtain ⟨a, b⟩ := Bool.and_eq_true_iff.mp h
    exact ⟨of_decide_eq_true a, strLn_of b⟩
  | n + 1, _, h => by
    obtain ⟨a, b⟩ := Bool.and_eq_true_iff.mp h
    obtain ⟨b, c⟩ := Bool.and_eq_true_iff.mp b
    exact ⟨of_decide_eq_true a, strLn_of b, fun x hx => szB_sz (List.all_eq_true.mp c x hx)⟩
theorem inV_yes {s : Str} {ns : List Str} (h : s ∈ ns) : inV (.str s) (ns.map V.str) = true := by
  cases e : inV (.str s) (ns.map V.str) with
  | true => rfl
  | false => exact absurd h (inV_strs e)
variable {part : PyData → Bool}
theorem wrongAt_app : ∀ {xs ys : List PyData} {ns : List Str} {i : Nat}, wrongAt part xs ns i = none → wrongAt part (xs ++ ys) ns i = wrongAt part ys (ns ++ xs.map nmOf) (i + xs.length)
  | [], ys, ns, i, _ => by simp
  | x :: xs, ys, ns, i, h => by
    rw [wrongAt] at h
    rw [List.cons_append, wrongAt]
    split at h
    · cases h
    · rename_i c
      rw [if_neg c, wrongAt_app h]
      simp only [List.map_cons, List.append_assoc, List.cons_append, List.nil_append, List.length_cons]
      congr 1
      omega
theorem wrongAt_pre : ∀ {xs ys : List PyData} {ns : List Str} {i : Nat}, wrongAt part (xs ++ ys) ns i = none → wrongAt part xs ns i = none
  | [], _, _, _, _ => rfl
  | x :: xs, ys, ns, i, h => by
    rw [List.cons_append, wrongAt] at h
    rw [wrongAt]
    split at h
    · cases h
    · rename_i c
      rw [if_neg c]
      exact wrongAt_pre h
theorem wrongAt_put {good : List PyData} {odd : PyData} {at_ : Nat} (h : wrongAt part good [] 0 = none) (l : at_ < good.length) (b : part odd = false) (ys : List PyData) : wrongAt part (good.take at_ ++ odd :: ys) [] 0 = some at_ := by
  have h1 : wrongAt part (good.take at_) [] 0 = none := wrongAt_pre (ys := good.drop at_) (by rw [List.take_append_drop]; exact h)
  rw [wrongAt_app h1, wrongAt, b, Bool.not_false, Bool.true_or, if_pos rfl, List.length_take, Nat.min_eq_left (Nat.le_of_lt l), Nat.zero_add]
theorem wrongAt_dup {good : List PyData} {g : PyData} (h : wrongAt part good [] 0 = none) (m : g ∈ good) : wrongAt part (good ++ [g]) [] 0 = some good.length := by
  rw [wrongAt_app h, wrongAt, List.nil_append, inV_yes (List.mem_map.mpr ⟨g, m, rfl⟩), Bool.or_true, if_pos rfl, Nat.zero_add]
/-- the parts are wrong; the number that is told -/
def BadParts (part : PyData → Bool) (hi : Int) (odd due : PyData) : Prop := partsD part hi odd = false ∧ ((due = .none ∧ partsN part hi odd = .non) ∨ ∃ i : Nat, due = .int (i : Nat) ∧ partsN part hi odd = .int (i : Nat))
theorem bad_whole {hi : Int} {odd : PyData} (h : listD odd 1 hi = false) : BadParts part hi odd .none := ⟨by unfold partsD; rw [h]; rfl, .inl ⟨rfl, by unfold partsN; rw [h]; rfl⟩⟩
theorem bad_at {hi : Int} {ds : List PyData} {i : Nat} (h1 : 1 ≤ ds.length) (h2 : (ds.length : Int) ≤ hi) (h : wrongAt part ds [] 0 = some i) : BadParts part hi (.list ds) (.int (i : Nat)) := by
  have l : listD (.list ds) 1 hi = true := by
    show (true && (decide ((1 : Int) ≤ (ds.length : Int)) && decide ((ds.length : Int) ≤ hi))) = true
    rw [decide_eq_true (by omega), decide_eq_true h2]
    rfl
  refine ⟨?_, .inr ⟨i, rfl, ?_⟩⟩
  · unfold partsD
    rw [l]
    show (true && (wrongAt part ds [] 0).isNone) = false
    rw [h]
    rfl
  · unfold partsN
    rw [l, if_pos rfl]
    show atV (wrongAt part ds [] 0) = _
    rw [h]
    rfl
/-- parts as they are drawn -/
structure GoodL (part : PyData → Bool) (n : Nat) (hi : Nat) (good : List PyData) : Prop where
  l0 : 1 ≤ good.length
  l1 : good.length ≤ hi
  w : wrongAt part good [] 0 = none
  sz : Sz n (.list good)
theorem partsD_wrong {hi : Int} {ds : List PyData} (h : partsD part hi (.list ds) = true) : wrongAt part ds [] 0 = none := by
  unfold partsD at h
  have h := (Bool.and_eq_true_iff.mp h).2
  exact Option.isNone_iff_eq_none.mp h
theorem sz_list {n : Nat} {ds : List PyData} (l : ds.length ≤ 1000) (h : ∀ d ∈ ds, Sz n d) : Sz (n + 1) (.list ds) := ⟨l, fun s e => (by cases e), h⟩
theorem sz_tuple {n : Nat} {ds : List PyData} (l : ds.length ≤ 1000) (h : ∀ d ∈ ds, Sz n d) : Sz (n + 1) (.tuple ds) := ⟨l, fun s e => (by cases e), h⟩
theorem sz_put {n : Nat} {good : List PyData} {odd : PyData} (h : Sz (n + 1) (.list good)) (l : good.length < 400) (o : Sz n odd) (a b : Nat) : Sz (n + 1) (.list (good.take a ++ [odd] ++ good.drop b)) := by
  refine sz_list ?_ fun d hd => ?_
  · simp only [List.length_append, List.length_take, List.length_drop, List.length_cons, List.length_nil]
    omega
  · simp only [List.mem_append, List.mem_singleton] at hd
    rcases hd with (hd | rfl) | hd
    · exact h.2.2 d (List.mem_of_mem_take hd)
    · exact o
    · exact h.2.2 d (List.mem_of_mem_drop hd)
end
/-! ### a tuple times one -/
section
theorem tuple_mul1 (l : Addr) (items : Array Value) (n : Nat) (dd : Option Addr) (sl : Array (Option Value)) (x : Int) (u : Tok) (c0 : (decide (x < -(2 ^ 63)) || decide (x ≥ 2 ^ 63)) = false) (c1 : (items.isEmpty || x == 1) = true) :
    Meets (Builtin.«tuple.__mul__» ⟨[.ref l, .int x u], []⟩) (fun _ R s => s.heap.get? l = some { cls := .type "tuple", dict := dd, data := .seq items n, slots := sl } ∧
      R (.ok (.ret (Value.ref l))) s) :=
  .of_wp fun prog w A R s h => by
    obtain ⟨hp, g, d, tk, os⟩ := s
    obtain ⟨hl, h⟩ := h
    have f1 := AutoSeq1.idx_int
    wp_walk using wpAny_loadPart' hl
    repeat (first
      | (refine wpAny_ite_false (decide_eq_false (by rw [c0]; exact Bool.false_ne_true)) ?_; wp_walk using wpAny_loadPart' hl)
      | (refine wpAny_ite_true (decide_eq_true c1) ?_; wp_walk using wpAny_loadPart' hl))
    exact ⟨_, rfl, h⟩
def rRepTA : R2 := fun x y H Q => ∃ l k xs, x = .ref l ∧ y = .int k ∧ H l = some (.tup xs) ∧ xs ≠ [] ∧ 1 ≤ k ∧ k ≤ 1000 ∧ xs.length ≤ 1000 ∧ (k = 1 → Q (.ref l) H) ∧ (2 ≤ k → ∀ p, H p = none → Q (.ref p) (upd H p (.tup (List.replicate k.toNat xs).flatten)))
theorem op_repTA {X : Cx} : OpR X (binaryOp .Mult) rRepTA := by
  intro pins s σ H x y v u Q I rx ry h
  obtain ⟨l, k, xs, rfl, rfl, hT, hne, h1, h2, hz, q1, q2⟩ := h
  by_cases c : 2 ≤ k
  · exact op_repT pins s σ H _ _ v u Q I rx ry ⟨l, k, xs, rfl, rfl, SqT.of hT, hne, c, h2, hz, q2 c⟩
  · have e : k = 1 := by omega
    subst e
    cases rx
    obtain ⟨t, rfl⟩ := ry
    obtain ⟨its, r, ⟨⟨cls, dd, data, sl⟩, ho, hc, n, hd⟩, hs⟩ := I.tuple (SqT.of (K := X.K) hT)
    simp only at hc hd
    subst hc hd
    refine wpAny_binaryOp_repeat_ref (T := "tuple") (U := "int") (by decide) ⟨_, ho, rfl⟩ (fun s' => typeIs_int s' 1 t) noFill_tuple_mul F.fills_int_mul F.slot_int_rmul repeat_tuple F.slot_int_index.lookup
      (call_meets F.slot_int_rmul (typeIs_int s 1 t) F.entry_int_rmul (F.args_int_rmul_2 _ _) (int_rmul_tuple 1 t l its.toArray n dd sl)
        ⟨ho, rfl, ⟨_, ho, rfl⟩, call_meets F.slot_tuple_mul ⟨_, ho, rfl⟩ F.entry_tuple_mul (F.args_tuple_mul_2 _ _) (tuple_mul1 l its.toArray n dd sl 1 t (by decide) (by simp)) ⟨ho, ?_⟩⟩)
    exact ⟨.ref l, H, I, rfl, q1 rfl⟩
end
/-! ### expressions whose values are data -/
section
theorem PA.imp {X : Cx} {es : List Expr} {t t' : TA} (h : PA X es t) (k : ∀ σ H Q, t' σ H Q → t σ H Q) : PA X es t' := ⟨fun pos pins s σ H Q I w => h.run pos pins s σ H Q I (k _ _ _ w)⟩
theorem PO.imp {X : Cx} {e : Option Expr} {t t' : TO} (h : PO X e t) (k : ∀ σ H Q, t' σ H Q → t σ H Q) : PO X e t' := ⟨fun pins s σ H Q I w => h.run pins s σ H Q I (k _ _ _ w)⟩
/-- the data of the locals -/
abbrev Env := Nat → Option PyData
/-- what data avoid is there -/
def ZN (Z : Addr → Prop) (H : Hp) : Prop := ∀ x, Z x → H x ≠ none
def Us (pp : Addr → Prop) (σ : St) (H : Hp) (ρ : Env) : Prop := ∀ i d, ρ i = some d → ∃ v, σ[i]? = some (some v) ∧ Dt pp H v d
theorem Us.same {pp : Addr → Prop} {σ : St} {H H' : Hp} {ρ : Env} (h : Us pp σ H ρ) (s : Same H H') : Us pp σ H' ρ := fun i d e => by
  obtain ⟨v, e1, dt⟩ := h i d e
  exact ⟨v, e1, dt.fr (Fm.of s)⟩
abbrev ρ0 : Env := fun _ => none
abbrev ρc (ρ : Env) (i : Nat) (d : PyData) : Env := fun j => if j = i then some d else ρ j
theorem us0 {pp : Addr → Prop} {σ : St} {H : Hp} : Us pp σ H ρ0 := fun i d e => by cases e
theorem Us.add {pp : Addr → Prop} {σ : St} {H : Hp} {ρ : Env} {i : Nat} {v : V} {d : PyData} (h : Us pp σ H ρ) (e : σ[i]? = some (some v)) (dt : Dt pp H v d) : Us pp σ H (ρc ρ i d) := fun j d' e' => by
  by_cases c : j = i
  · subst c
    have e' : (if j = j then some d else ρ j) = some d' := e'
    rw [if_pos rfl] at e'
    cases e'
    exact ⟨v, e, dt⟩
  · have e' : (if j = i then some d else ρ j) = some d' := e'
    rw [if_neg c] at e'
    exact h j d' e'
def tDE (d : Env → Option PyData) : TE := fun σ H Q => ∃ pp ρ D, ZN pp H ∧ Us pp σ H ρ ∧ d ρ = some D ∧ ∀ v H', Same H H' → Dt pp H' v D → Q v H'
def tDA (d : Env → Option (List PyData)) : TA := fun σ H Q => ∃ pp ρ ds, ZN pp H ∧ Us pp σ H ρ ∧ d ρ = some ds ∧ ∀ vs H', Same H H' → DtAll pp H' vs ds → Q vs H'
def tDO (d : Env → Option (Option Int)) : TO := fun σ H Q => ∃ pp ρ o, ZN pp H ∧ Us pp σ H ρ ∧ d ρ = some o ∧ ∀ H', Same H H' → Q o H'
abbrev DE (X : Cx) (e : Expr) (d : Env → Option PyData) : Prop := PE X e (tDE d)
structure DA (X : Cx) (es : List Expr) (d : Env → Option (List PyData)) (n : Nat) : Prop where
  pa : PA X es (tDA d)
  len : ∀ ρ ds, d ρ = some ds → ds.length = n
abbrev DO (X : Cx) (e : Option Expr) (d : Env → Option (Option Int)) : Prop := PO X e (tDO d)
variable {X : Cx}
theorem some_ne {pp : Addr → Prop} {H H' : Hp} (n : ZN pp H) (s : Same H H') : ZN pp H' := fun x hx => by
  cases e : H x with
  | none => exact absurd e (n x hx)
  | some o => rw [s _ _ e]; exact fun z => by cases z
theorem zp_new {pp : Addr → Prop} {l : Addr} {H : Hp} (n : ZN pp H) (e : H l = none) : ¬ pp l := fun m => n l m e
/-- a value that needs no heap -/
theorem de_leaf {e : Expr} {v : V} {d : PyData} (h : PE X e (tC v)) (dt : ∀ Z H, Dt Z H v d) : DE X e (fun _ => some d) := PE.imp h fun σ H Q ⟨pp, ρ, D, np, hu, hd, q⟩ => by
  cases hd
  exact q _ _ (Same.refl _) (dt _ _)
theorem de_int {i : Int} {j : Nat} {pos : Pos} : DE X (.Constant (.int i) j pos) (fun _ => some (.int i)) := de_leaf pe_int fun _ _ => .int _
theorem de_str {x : Str} {j : Nat} {pos : Pos} : DE X (.Constant (.str x) j pos) (fun _ => some (.str x)) := de_leaf pe_str fun _ _ => .str _
theorem de_non {j : Nat} {pos : Pos} : DE X (.Constant .none j pos) (fun _ => some .none) := de_leaf pe_non fun _ _ => .non
theorem de_bl {b : Bool} {j : Nat} {pos : Pos} : DE X (.Constant (.bool b) j pos) (fun _ => some (.bool b)) := de_leaf pe_bl fun _ _ => .bl _
theorem de_dic {pos : Pos} : DE X (.Dict [] [] pos) (fun _ => some (.dict [])) := PE.imp pe_dnewK fun σ H Q ⟨pp, ρ, D, np, hu, hd, q⟩ => by
  cases hd
  exact fun p hp => q _ _ (Same.new hp) (.emp upd_same (zp_new np hp))
theorem de_pv {e : Expr} {i : Nat} (h : PE X e (tVar i)) : DE X e (fun ρ => ρ i) := PE.imp h fun σ H Q ⟨pp, ρ, D, np, hu, hd, q⟩ => by
  obtain ⟨v, e1, dt⟩ := hu i D hd
  exact ⟨v, e1, q v H (Same.refl _) dt⟩
abbrev consE (a : Option PyData) (b : Option (List PyData)) : Option (List PyData) := a.bind fun x => b.bind fun xs => some (x :: xs)
theorem da_nil : DA X [] (fun _ => some []) 0 := ⟨PA.imp pa_nil fun σ H Q ⟨pp, ρ, D, np, hu, hd, q⟩ => by
  cases hd
  exact q _ _ (Same.refl _) .nil, fun ρ ds e => by cases e; rfl⟩
theorem da_cons {e : Expr} {es : List Expr} {d : Env → Option PyData} {ds : Env → Option (List PyData)} {n : Nat} (h : DE X e d) (g : DA X es ds n) (st : starEach (e :: es) X.env = (false, eval e X.env) :: starEach es X.env := by rfl) : DA X (e :: es) (fun ρ => consE (d ρ) (ds ρ)) (n + 1) :=
  ⟨PA.imp (pa_cons h g.pa st) fun σ H Q ⟨pp, ρ, D, np, hu, hd, q⟩ => by
    obtain ⟨x, e1, hd⟩ := Option.bind_eq_some_iff.mp hd
    obtain ⟨xs, e2, hd⟩ := Option.bind_eq_some_iff.mp hd
    cases hd
    exact ⟨pp, ρ, x, np, hu, e1, fun v H1 s1 dv => ⟨pp, ρ, xs, some_ne np s1, hu.same s1, e2, fun vs H2 s2 dvs => q _ _ (s1.trans s2) (.cons (dv.fr (Fm.of s2)) dvs)⟩⟩,
  fun ρ D hd => by
    obtain ⟨x, e1, hd⟩ := Option.bind_eq_some_iff.mp hd
    obtain ⟨xs, e2, hd⟩ := Option.bind_eq_some_iff.mp hd
    cases hd
    rw [List.length_cons, g.len ρ xs e2]⟩
theorem de_lst {es : List Expr} {d : Env → Option (List PyData)} {n : Nat} {pos : Pos} (h : DA X es d n) (l : n ≤ 1000 := by decide) : DE X (.List es pos) (fun ρ => (d ρ).map PyData.list) := PE.imp (pe_lst h.pa) fun σ H Q ⟨pp, ρ, D, np, hu, hd, q⟩ => by
  obtain ⟨ds, e1, rfl⟩ := Option.map_eq_some_iff.mp hd
  refine ⟨pp, ρ, ds, np, hu, e1, fun vs H1 s1 dv => ⟨?_, fun p hp => q _ _ (s1.trans (Same.new hp)) (.lst upd_same (zp_new (some_ne np s1) hp) (dv.fr (Fm.of (Same.new hp))))⟩⟩
  rw [dv.len, h.len ρ ds e1]
  exact Nat.le_trans l (by decide)
theorem de_tup {es : List Expr} {d : Env → Option (List PyData)} {n : Nat} {pos : Pos} {x1 : Nat} (h : DA X es d n) (l : n ≤ 1000 := by decide) : DE X (.Tuple es x1 pos) (fun ρ => (d ρ).map PyData.tuple) := PE.imp (pe_tup h.pa) fun σ H Q ⟨pp, ρ, D, np, hu, hd, q⟩ => by
  obtain ⟨ds, e1, rfl⟩ := Option.map_eq_some_iff.mp hd
  refine ⟨pp, ρ, ds, np, hu, e1, fun vs H1 s1 dv => ⟨?_, fun p hp => q _ _ (s1.trans (Same.new hp)) (.tup upd_same (zp_new (some_ne np s1) hp) (dv.fr (Fm.of (Same.new hp))))⟩⟩
  rw [dv.len, h.len ρ ds e1]
  exact Nat.le_trans l (by decide)
abbrev int2 (f : Int → Int → PyData) (a b : Option PyData) : Option PyData := match a, b with
  | some (.int i), some (.int j) => some (f i j)
  | _, _ => none
theorem int2_some {f : Int → Int → PyData} {a b : Option PyData} {D : PyData} (h : int2 f a b = some D) : ∃ i j, a = some (.int i) ∧ b = some (.int j) ∧ D = f i j := by
  unfold int2 at h
  split at h
  · exact ⟨_, _, rfl, rfl, (Option.some.inj h).symm⟩
  · cases h
theorem de_i2 {a b : Expr} {da db : Env → Option PyData} {pos : Pos} {op : Operator} {f : Int → Int → Int} (o : OpR X (binaryOp op) (rI0 fun i j => .int (f i j))) (ha : DE X a da) (hb : DE X b db) : DE X (.BinOp a op b pos) (fun ρ => int2 (fun i j => .int (f i j)) (da ρ) (db ρ)) := PE.imp (pe_op o ha hb) fun σ H Q ⟨pp, ρ, D, np, hu, hd, q⟩ => by
  obtain ⟨i, j, e1, e2, rfl⟩ := int2_some hd
  refine ⟨pp, ρ, _, np, hu, e1, fun v H1 s1 dv => ⟨pp, ρ, _, some_ne np s1, hu.same s1, e2, fun u H2 s2 du => ?_⟩⟩
  cases dv
  cases du
  exact ⟨_, _, rfl, rfl, q _ _ (s1.trans s2) (.int _)⟩
/-- a power of two small numbers -/
theorem de_pow {i j : Int} {k1 k2 : Nat} {p1 p2 pos : Pos} (c : CPow i j) : DE X (.BinOp (.Constant (.int i) k1 p1) .Pow (.Constant (.int j) k2 p2) pos) (fun _ => some (.int (i ^ j.toNat))) := PE.imp (pe_op op_pow pe_int pe_int) fun σ H Q ⟨pp, ρ, D, np, hu, hd, q⟩ => by
  cases hd
  exact ⟨_, _, rfl, rfl, c, q _ _ (Same.refl _) (.int _)⟩
theorem de_neg {a : Expr} {da : Env → Option PyData} {pos : Pos} (ha : DE X a da) : DE X (.UnaryOp .USub a pos) (fun ρ => int2 (fun i _ => .int (-i)) (da ρ) (some (.int 0))) := PE.imp (pe_un un_neg ha) fun σ H Q ⟨pp, ρ, D, np, hu, hd, q⟩ => by
  obtain ⟨i, j, e1, e2, rfl⟩ := int2_some hd
  refine ⟨pp, ρ, _, np, hu, e1, fun v H1 s1 dv => ?_⟩
  cases dv
  exact ⟨_, rfl, q _ _ s1 (.int _)⟩
abbrev catL (a b : Option PyData) : Option PyData := match a, b with
  | some (.list xs), some (.list ys) => if xs.length + ys.length ≤ 1000 then some (.list (xs ++ ys)) else none
  | _, _ => none
theorem catL_of {xs ys : List PyData} (h : xs.length + ys.length ≤ 1000) : catL (some (.list xs)) (some (.list ys)) = some (.list (xs ++ ys)) := if_pos h
theorem catL_some {a b : Option PyData} {D : PyData} (h : catL a b = some D) : ∃ xs ys, a = some (.list xs) ∧ b = some (.list ys) ∧ xs.length + ys.length ≤ 1000 ∧ D = .list (xs ++ ys) := by
  unfold catL at h
  split at h
  · split at h
    · exact ⟨_, _, rfl, rfl, by assumption, (Option.some.inj h).symm⟩
    · cases h
  · cases h
theorem de_cat {a b : Expr} {da db : Env → Option PyData} {pos : Pos} (ha : DE X a da) (hb : DE X b db) : DE X (.BinOp a .Add b pos) (fun ρ => catL (da ρ) (db ρ)) := PE.imp (pe_op op_cat ha hb) fun σ H Q ⟨pp, ρ, D, np, hu, hd, q⟩ => by
  obtain ⟨xs, ys, e1, e2, le, rfl⟩ := catL_some hd
  refine ⟨pp, ρ, _, np, hu, e1, fun v H1 s1 dv => ⟨pp, ρ, _, some_ne np s1, hu.same s1, e2, fun u H2 s2 du => ?_⟩⟩
  have dv := dv.fr (Fm.of s2)
  cases dv with
  | lst h1 z1 a1 =>
    cases du with
    | lst h2 z2 a2 =>
      exact ⟨_, _, _, _, rfl, rfl, h1, h2, by rw [a1.len, a2.len]; exact Nat.le_trans le (by decide), fun p hp => q _ _ ((s1.trans s2).trans (Same.new hp)) (.lst upd_same (zp_new (some_ne np (s1.trans s2)) hp) ((a1.append a2).fr (Fm.of (Same.new hp))))⟩
abbrev catT (a b : Option PyData) : Option PyData := match a, b with
  | some (.tuple xs), some (.tuple ys) => if xs.length + ys.length ≤ 1000 then some (.tuple (xs ++ ys)) else none
  | _, _ => none
theorem catT_some {a b : Option PyData} {D : PyData} (h : catT a b = some D) : ∃ xs ys, a = some (.tuple xs) ∧ b = some (.tuple ys) ∧ xs.length + ys.length ≤ 1000 ∧ D = .tuple (xs ++ ys) := by
  unfold catT at h
  split at h
  · split at h
    · exact ⟨_, _, rfl, rfl, by assumption, (Option.some.inj h).symm⟩
    · cases h
  · cases h
theorem de_catT {a b : Expr} {da db : Env → Option PyData} {pos : Pos} (ha : DE X a da) (hb : DE X b db) : DE X (.BinOp a .Add b pos) (fun ρ => catT (da ρ) (db ρ)) := PE.imp (pe_op op_catA ha hb) fun σ H Q ⟨pp, ρ, D, np, hu, hd, q⟩ => by
  obtain ⟨xs, ys, e1, e2, le, rfl⟩ := catT_some hd
  refine ⟨pp, ρ, _, np, hu, e1, fun v H1 s1 dv => ⟨pp, ρ, _, some_ne np s1, hu.same s1, e2, fun u H2 s2 du => ?_⟩⟩
  have dv := dv.fr (Fm.of s2)
  cases dv with
  | tup h1 z1 a1 =>
    cases du with
    | tup h2 z2 a2 =>
      refine ⟨_, _, _, _, rfl, rfl, SqT.of h1, SqT.of h2, by rw [a1.len, a2.len]; exact Nat.le_trans le (by decide), fun e => ?_, fun n e => ?_, fun _ _ p hp => q _ _ ((s1.trans s2).trans (Same.new hp)) (.tup upd_same (zp_new (some_ne np (s1.trans s2)) hp) ((a1.append a2).fr (Fm.of (Same.new hp))))⟩
      · subst e
        cases a1
        exact q _ _ (s1.trans s2) (.tup h2 z2 a2)
      · subst e
        cases a2
        rw [List.append_nil] at q
        exact q _ _ (s1.trans s2) (.tup h1 z1 a1)
theorem DtAll.rep {Z : Addr → Prop} {H : Hp} {vs : List V} {ds : List PyData} (h : DtAll Z H vs ds) : ∀ n, DtAll Z H (List.replicate n vs).flatten (List.replicate n ds).flatten
  | 0 => .nil
  | n + 1 => by
    rw [List.replicate_succ, List.replicate_succ, List.flatten_cons, List.flatten_cons]
    exact h.append (DtAll.rep h n)
abbrev repL (a b : Option PyData) : Option PyData := match a, b with
  | some (.list xs), some (.int k) => if k ≤ 100 ∧ xs.length ≤ 100 ∧ 0 ≤ k then some (.list (List.replicate k.toNat xs).flatten) else none
  | _, _ => none
theorem repL_of {xs : List PyData} {k : Int} (h : k ≤ 100 ∧ xs.length ≤ 100 ∧ 0 ≤ k) : repL (some (.list xs)) (some (.int k)) = some (.list (List.replicate k.toNat xs).flatten) := if_pos h
theorem repL_some {a b : Option PyData} {D : PyData} (h : repL a b = some D) : ∃ xs k, a = some (.list xs) ∧ b = some (.int k) ∧ (k ≤ 100 ∧ xs.length ≤ 100 ∧ 0 ≤ k) ∧ D = .list (List.replicate k.toNat xs).flatten := by
  unfold repL at h
  split at h
  · split at h
    · exact ⟨_, _, rfl, rfl, by assumption, (Option.some.inj h).symm⟩
    · cases h
  · cases h
theorem de_repL {a b : Expr} {da db : Env → Option PyData} {pos : Pos} (ha : DE X a da) (hb : DE X b db) : DE X (.BinOp a .Mult b pos) (fun ρ => repL (da ρ) (db ρ)) := PE.imp (pe_op op_rep ha hb) fun σ H Q ⟨pp, ρ, D, np, hu, hd, q⟩ => by
  obtain ⟨xs, k, e1, e2, ⟨c1, c2, c3⟩, rfl⟩ := repL_some hd
  refine ⟨pp, ρ, _, np, hu, e1, fun v H1 s1 dv => ⟨pp, ρ, _, some_ne np s1, hu.same s1, e2, fun u H2 s2 du => ?_⟩⟩
  have dv := dv.fr (Fm.of s2)
  cases du
  cases dv with
  | lst h1 z1 a1 =>
    refine ⟨_, _, _, rfl, rfl, h1, by omega, by omega, ?_, fun p hp => q _ _ ((s1.trans s2).trans (Same.new hp)) (.lst upd_same (zp_new (some_ne np (s1.trans s2)) hp) ((a1.rep _).fr (Fm.of (Same.new hp))))⟩
    rw [a1.len]
    exact Nat.le_trans (Nat.mul_le_mul c2 (show k.toNat ≤ 100 by omega)) (by decide)
abbrev repT (a b : Option PyData) : Option PyData := match a, b with
  | some (.tuple (x :: xs)), some (.int k) => if 1 ≤ k ∧ k ≤ 1000 ∧ (x :: xs).length ≤ 1000 then some (.tuple (List.replicate k.toNat (x :: xs)).flatten) else none
  | _, _ => none
theorem repT_some {a b : Option PyData} {D : PyData} (h : repT a b = some D) : ∃ x xs k, a = some (.tuple (x :: xs)) ∧ b = some (.int k) ∧ (1 ≤ k ∧ k ≤ 1000 ∧ (x :: xs).length ≤ 1000) ∧ D = .tuple (List.replicate k.toNat (x :: xs)).flatten := by
  unfold repT at h
  split at h
  · split at h
    · exact ⟨_, _, _, rfl, rfl, by assumption, (Option.some.inj h).symm⟩
    · cases h
  · cases h
theorem de_repT {a b : Expr} {da db : Env → Option PyData} {pos : Pos} (ha : DE X a da) (hb : DE X b db) : DE X (.BinOp a .Mult b pos) (fun ρ => repT (da ρ) (db ρ)) := PE.imp (pe_op op_repTA ha hb) fun σ H Q ⟨pp, ρ, D, np, hu, hd, q⟩ => by
  obtain ⟨x, xs, k, e1, e2, ⟨c1, c2, c3⟩, rfl⟩ := repT_some hd
  refine ⟨pp, ρ, _, np, hu, e1, fun v H1 s1 dv => ⟨pp, ρ, _, some_ne np s1, hu.same s1, e2, fun u H2 s2 du => ?_⟩⟩
  have dv := dv.fr (Fm.of s2)
  cases du
  cases dv with
  | tup h1 z1 a1 =>
    refine ⟨_, _, _, rfl, rfl, h1, fun e => ?_, c1, c2, by rw [a1.len]; exact c3, fun e => ?_, fun _ p hp => q _ _ ((s1.trans s2).trans (Same.new hp)) (.tup upd_same (zp_new (some_ne np (s1.trans s2)) hp) ((a1.rep _).fr (Fm.of (Same.new hp))))⟩
    · subst e
      cases a1
    · subst e
      have z : (List.replicate (1 : Int).toNat (x :: xs)).flatten = x :: xs := by simp
      rw [z] at q
      exact q _ _ (s1.trans s2) (.tup h1 z1 a1)
def cutD (ds : List PyData) (lo hi : Option Int) : List PyData := (ds.drop (HT.sIx ds.length 0 lo)).take (HT.sIx ds.length ds.length hi - HT.sIx ds.length 0 lo)
theorem DtAll.cut {Z : Addr → Prop} {H : Hp} {vs : List V} {ds : List PyData} (h : DtAll Z H vs ds) (lo hi : Option Int) : DtAll Z H (cutV vs lo hi) (cutD ds lo hi) := by
  unfold cutV cutD
  rw [h.len]
  exact (h.drop _).take _
theorem cutD_to {ds : List PyData} {k : Nat} : cutD ds none (some (k : Int)) = ds.take k := by
  unfold cutD
  rw [HT.sIx_none, HT.sIx_nat, List.drop_zero, Nat.sub_zero]
  rcases Nat.le_total k ds.length with h | h
  · rw [Nat.min_eq_left h]
  · rw [Nat.min_eq_right h, List.take_of_length_le h, List.take_of_length_le (Nat.le_refl _)]
theorem cutD_from {ds : List PyData} {k : Nat} : cutD ds (some (k : Int)) none = ds.drop k := by
  unfold cutD
  rw [HT.sIx_none, HT.sIx_nat]
  rcases Nat.le_total k ds.length with h | h
  · rw [Nat.min_eq_left h]
    exact List.take_of_length_le (by rw [List.length_drop]; exact Nat.le_refl _)
  · rw [Nat.min_eq_right h, List.drop_eq_nil_of_le h, List.drop_eq_nil_of_le (Nat.le_refl _), List.take_nil]
theorem do_none : DO X none (fun _ => some none) := PO.imp po_none fun σ H Q ⟨pp, ρ, D, np, hu, hd, q⟩ => by
  cases hd
  exact q _ (Same.refl _)
abbrev optI (a : Option PyData) : Option (Option Int) := match a with
  | some (.int i) => some (some i)
  | _ => none
theorem do_some {e : Expr} {d : Env → Option PyData} (h : DE X e d) : DO X (some e) (fun ρ => optI (d ρ)) := PO.imp (po_some h) fun σ H Q ⟨pp, ρ, D, np, hu, hd, q⟩ => by
  have hd : optI (d ρ) = some D := hd
  unfold optI at hd
  split at hd
  · rename_i i e1
    cases hd
    refine ⟨pp, ρ, _, np, hu, e1, fun v H1 s1 dv => ?_⟩
    cases dv
    exact ⟨i, rfl, q _ s1⟩
  · cases hd
abbrev sliL (a : Option PyData) (lo hi : Option (Option Int)) : Option PyData := match a, lo, hi with
  | some (.list xs), some l, some u => some (.list (cutD xs l u))
  | _, _, _ => none
theorem de_slL {e : Expr} {d : Env → Option PyData} {lo hi : Option Expr} {tl th : Env → Option (Option Int)} {pos p2 : Pos} (h : DE X e d) (hl : DO X lo tl) (hh : DO X hi th) : DE X (.Subscript e (.Slice lo hi none p2) pos) (fun ρ => sliL (d ρ) (tl ρ) (th ρ)) := PE.imp (pe_slice sll h hl hh) fun σ H Q ⟨pp, ρ, D, np, hu, hd, q⟩ => by
  have hd : sliL (d ρ) (tl ρ) (th ρ) = some D := hd
  unfold sliL at hd
  split at hd
  · rename_i xs l u e1 e2 e3
    cases hd
    refine ⟨pp, ρ, _, np, hu, e1, fun v H1 s1 dv => ⟨pp, ρ, _, some_ne np s1, hu.same s1, e2, fun H2 s2 => ⟨pp, ρ, _, some_ne np (s1.trans s2), hu.same (s1.trans s2), e3, fun H3 s3 => ?_⟩⟩⟩
    have dv := dv.fr (Fm.of (s2.trans s3))
    have s := s1.trans (s2.trans s3)
    cases dv with
    | lst h1 z1 a1 => exact ⟨_, _, rfl, h1, fun p hp => q _ _ (s.trans (Same.new hp)) (.lst upd_same (zp_new (some_ne np s) hp) ((a1.cut l u).fr (Fm.of (Same.new hp))))⟩
  · cases hd
abbrev sliT (a : Option PyData) (lo hi : Option (Option Int)) : Option PyData := match a, lo, hi with
  | some (.tuple xs), some l, some u => some (.tuple (cutD xs l u))
  | _, _, _ => none
theorem de_slT {e : Expr} {d : Env → Option PyData} {lo hi : Option Expr} {tl th : Env → Option (Option Int)} {pos p2 : Pos} (h : DE X e d) (hl : DO X lo tl) (hh : DO X hi th) : DE X (.Subscript e (.Slice lo hi none p2) pos) (fun ρ => sliT (d ρ) (tl ρ) (th ρ)) := PE.imp (pe_slice sl_tupA h hl hh) fun σ H Q ⟨pp, ρ, D, np, hu, hd, q⟩ => by
  have hd : sliT (d ρ) (tl ρ) (th ρ) = some D := hd
  unfold sliT at hd
  split at hd
  · rename_i xs l u e1 e2 e3
    cases hd
    refine ⟨pp, ρ, _, np, hu, e1, fun v H1 s1 dv => ⟨pp, ρ, _, some_ne np s1, hu.same s1, e2, fun H2 s2 => ⟨pp, ρ, _, some_ne np (s1.trans s2), hu.same (s1.trans s2), e3, fun H3 s3 => ?_⟩⟩⟩
    have dv := dv.fr (Fm.of (s2.trans s3))
    have s := s1.trans (s2.trans s3)
    cases dv with
    | tup h1 z1 a1 =>
      refine ⟨_, _, rfl, SqT.of h1, fun c => q _ _ s ?_, fun _ p hp => q _ _ (s.trans (Same.new hp)) (.tup upd_same (zp_new (some_ne np s) hp) ((a1.cut l u).fr (Fm.of (Same.new hp))))⟩
      have z : cutD xs l u = xs := by
        rw [a1.len] at c
        unfold cutD
        rw [c.1, c.2]
        simp
      rw [z]
      exact .tup h1 z1 a1
  · cases hd
theorem DtAll.atI {Z : Addr → Prop} {H : Hp} {vs : List V} {ds : List PyData} (h : DtAll Z H vs ds) {i : Int} {d : PyData} (e : L2.atI ds i = some d) : ∃ v, L2.atI vs i = some v ∧ Dt Z H v d := by
  unfold L2.atI at e ⊢
  rw [h.len]
  obtain ⟨j, e1, e2⟩ := Option.bind_eq_some_iff.mp e
  have lt : j < vs.length := by
    rw [h.len]
    exact (List.getElem?_eq_some_iff.mp e2).1
  obtain ⟨d', g1, g2⟩ := h.get (List.getElem?_eq_getElem lt)
  rw [e2] at g1
  cases g1
  exact ⟨_, by rw [e1]; exact List.getElem?_eq_getElem lt, g2⟩
abbrev ixD (a b : Option PyData) : Option PyData := match a, b with
  | some (.list xs), some (.int i) => atI xs i
  | _, _ => none
theorem de_ixL {a b : Expr} {da db : Env → Option PyData} {pos : Pos} (ha : DE X a da) (hb : DE X b db) (pl : PlainIx b := by exact fun _ _ => rfl) : DE X (.Subscript a b pos) (fun ρ => ixD (da ρ) (db ρ)) := PE.imp (pe_ix ixl ha hb pl) fun σ H Q ⟨pp, ρ, D, np, hu, hd, q⟩ => by
  have hd : ixD (da ρ) (db ρ) = some D := hd
  unfold ixD at hd
  split at hd
  · rename_i xs i e1 e2
    refine ⟨pp, ρ, _, np, hu, e1, fun v H1 s1 dv => ⟨pp, ρ, _, some_ne np s1, hu.same s1, e2, fun u H2 s2 du => ?_⟩⟩
    have dv := dv.fr (Fm.of s2)
    cases du
    cases dv with
    | lst h1 z1 a1 =>
      obtain ⟨v, g1, g2⟩ := a1.atI hd
      exact ⟨_, _, _, v, rfl, rfl, h1, g1, q _ _ (s1.trans s2) g2⟩
  · cases hd
abbrev ixT (a b : Option PyData) : Option PyData := match a, b with
  | some (.tuple xs), some (.int i) => atI xs i
  | _, _ => none
theorem de_ixT {a b : Expr} {da db : Env → Option PyData} {pos : Pos} (ha : DE X a da) (hb : DE X b db) (pl : PlainIx b := by exact fun _ _ => rfl) : DE X (.Subscript a b pos) (fun ρ => ixT (da ρ) (db ρ)) := PE.imp (pe_ix ixt ha hb pl) fun σ H Q ⟨pp, ρ, D, np, hu, hd, q⟩ => by
  have hd : ixT (da ρ) (db ρ) = some D := hd
  unfold ixT at hd
  split at hd
  · rename_i xs i e1 e2
    refine ⟨pp, ρ, _, np, hu, e1, fun v H1 s1 dv => ⟨pp, ρ, _, some_ne np s1, hu.same s1, e2, fun u H2 s2 du => ?_⟩⟩
    have dv := dv.fr (Fm.of s2)
    cases du
    cases dv with
    | tup h1 z1 a1 =>
      obtain ⟨v, g1, g2⟩ := a1.atI hd
      exact ⟨_, _, _, v, rfl, rfl, h1, g1, q _ _ (s1.trans s2) g2⟩
  · cases hd
end
/-! ### calls whose values are data -/
section
variable {X : Cx}
abbrev lenD (a : Option PyData) : Option PyData := match a with
  | some (.list xs) => some (.int (xs.length : Nat))
  | _ => none
theorem de_len {e : Expr} {d : Env → Option PyData} {p pos : Pos} (g : Gl X "len") (m : X.mg "len" = none) (h : DE X e d) (st : starEach [e] X.env = (false, eval e X.env) :: starEach [] X.env := by rfl) : DE X (.Call (.Name "len" p) [e] [] pos) (fun ρ => lenD (d ρ)) := PE.imp (pe_callB lenT g m bb_len (pa_cons h pa_nil st) (by decide) (by rfl) st (by rfl)) fun σ H Q ⟨pp, ρ, D, np, hu, hd, q⟩ => by
  have hd : lenD (d ρ) = some D := hd
  unfold lenD at hd
  split at hd
  · rename_i xs e1
    cases hd
    refine ⟨pp, ρ, _, np, hu, e1, fun v H1 s1 dv => ?_⟩
    cases dv with
    | lst h1 z1 a1 => exact ⟨_, _, rfl, .inl h1, by rw [a1.len]; exact q _ _ s1 (.int _)⟩
  · cases hd
abbrev listD' (a : Option PyData) : Option PyData := match a with
  | some (.tuple xs) => some (.list xs)
  | _ => none
theorem de_list {e : Expr} {d : Env → Option PyData} {p pos : Pos} (g : Gl X "list") (m : X.mg "list" = none) (h : DE X e d) (st : starEach [e] X.env = (false, eval e X.env) :: starEach [] X.env := by rfl) : DE X (.Call (.Name "list" p) [e] [] pos) (fun ρ => listD' (d ρ)) := PE.imp (pe_callTy listT g m bb_list (pa_cons h pa_nil st) (by decide) (by rfl) st (by rfl)) fun σ H Q ⟨pp, ρ, D, np, hu, hd, q⟩ => by
  have hd : listD' (d ρ) = some D := hd
  unfold listD' at hd
  split at hd
  · rename_i xs e1
    cases hd
    refine ⟨pp, ρ, _, np, hu, e1, fun v H1 s1 dv => ?_⟩
    cases dv with
    | tup h1 z1 a1 => exact ⟨_, _, rfl, .inr h1, fun l hl => q _ _ (s1.trans (Same.new hl)) (.lst upd_same (zp_new (some_ne np s1) hl) (a1.fr (Fm.of (Same.new hl))))⟩
  · cases hd
theorem Dt.de {K : PySem.W.Frag} {Z : Addr → Prop} {H : Hp} {v : V} {d : PyData} (h : Dt Z H v d) (c : d.canLay0 = true ∨ d = .dict []) : De K H v d := by
  rcases c with c | c
  · exact .dp (h.dp c) (PyData.hasDict_of_canLay d c)
  · subst c
    cases h with
    | emp e n => exact .dic e
/-- the data can be shown -/
def ShwD (d : PyData) : Prop := (d.canLay0 = true ∨ d = .dict []) ∧ d.showable = true ∧ d.depth + 1 ≤ 64 ∧ d.shown.length ≤ sizeLine
theorem ShwD.shw {K : PySem.W.Frag} {Z : Addr → Prop} {H : Hp} {v : V} {d : PyData} (s : ShwD d) (h : Dt Z H v d) : Shw K H v d := ⟨h.de s.1, s.2⟩
/-- repr of data: its text -/
theorem pe_reprD {e : Expr} {d : Env → Option PyData} {p pos : Pos} (hG : X.A.guards = some []) (hu : X.A.units + 64 < cLine) (g : Gl X "repr") (m : X.mg "repr" = none) (h : DE X e d) (st : starEach [e] X.env = (false, eval e X.env) :: starEach [] X.env := by rfl) :
    PE X (.Call (.Name "repr" p) [e] [] pos) (fun σ H Q => ∃ pp ρ D, ZN pp H ∧ Us pp σ H ρ ∧ d ρ = some D ∧ ShwD D ∧ ∀ H', Same H H' → Q (.str D.shown) H') := PE.imp (pe_callB (call_repr hG hu) g m bb_repr (pa_cons h pa_nil st) (by decide) (by rfl) st (by rfl)) fun σ H Q ⟨pp, ρ, D, np, hu, hd, sd, q⟩ =>
  ⟨pp, ρ, D, np, hu, hd, fun v H1 s1 dv => ⟨v, D, rfl, De.rds (dv.de sd.1), sd.2.1, sd.2.2.1, sd.2.2.2, q H1 s1⟩⟩
theorem DtAll.mem {Z : Addr → Prop} {H : Hp} {vs : List V} {ds : List PyData} (h : DtAll Z H vs ds) {v : V} (m : v ∈ vs) : ∃ d ∈ ds, Dt Z H v d := by
  obtain ⟨i, e⟩ := List.mem_iff_getElem?.mp m
  obtain ⟨d, e1, e2⟩ := h.get e
  exact ⟨d, List.mem_of_getElem? e1, e2⟩
theorem PoolAt.some {H : Hp} {pp : Addr} (P : PoolAt H pp) : H pp ≠ none := by
  obtain ⟨c, s, _, _, e⟩ := P
  rw [e]
  exact fun z => by cases z
/-- a pool; the data avoid it, and all that they avoid is there -/
structure PoolZ (Z : Addr → Prop) (H : Hp) (pp : Addr) : Prop where
  at_ : PoolAt H pp
  zp : Z pp
  some : ZN Z H
theorem PoolZ.of {H : Hp} {pp : Addr} (P : PoolAt H pp) : PoolZ (Zp pp) H pp := ⟨P, rfl, fun x hx => by rw [show x = pp from hx]; exact P.some⟩
theorem PoolZ.same {Z : Addr → Prop} {H H' : Hp} {pp : Addr} (P : PoolZ Z H pp) (s : Same H H') : PoolZ Z H' pp := ⟨P.at_.same s, P.zp, some_ne P.some s⟩
theorem PoolZ.keep {Z : Addr → Prop} {H H' : Hp} {pp : Addr} (P : PoolZ Z H pp) (k : Keep pp H H') (P' : PoolAt H' pp) : PoolZ Z H' pp := ⟨P', P.zp, fun x hx => by
  by_cases c : x = pp
  · rw [c]
    exact P'.some
  · cases e : H x with
    | none => exact absurd e (P.some x hx)
    | some o => rw [k _ _ e c]; exact fun z => by cases z⟩
theorem Keep.frz {Z : Addr → Prop} {H H' : Hp} {pp : Addr} (k : Keep pp H H') (z : Z pp) : Fm Z H H' := fun p o e n => k p o e fun m => n (m ▸ z)
/-- one of the data of a list is chosen -/
def tChoose (d : Env → Option PyData) : TE := fun σ H Q => ∃ Z ρ ds pp, σ[0]? = some (some (.ref pp)) ∧ PoolZ Z H pp ∧ Us Z σ H ρ ∧ d ρ = some (.list ds) ∧ 0 < ds.length ∧ ds.length ≤ 1000 ∧ ∀ v D H', D ∈ ds → PoolZ Z H' pp → Keep pp H H' → Dt Z H' v D → Q v H'
theorem tch_of {K : PySem.W.Frag} {E : XK} {d : Env → Option PyData} {σ : St} {H : Hp} {Q : VK} (w : tChoose d σ H Q) : tCall (spChoose K) [] E (tCons (tVar 0) (tCons (tDE d) tNil)) σ H Q := by
  obtain ⟨Z, ρ, ds, pp, e0, P, hu, hd, l0, l1, q⟩ := w
  refine ⟨_, e0, Z, ρ, _, P.some, hu, hd, fun v H1 s1 dv => ?_⟩
  cases dv with
  | lst h1 z1 a1 =>
    refine ⟨pp, _, _, rfl, SqL.of h1, fun e => z1 (e ▸ P.zp), by rw [a1.len]; exact l0, by rw [a1.len]; omega, P.at_.same s1, fun u H2 m P2 k2 => ?_⟩
    obtain ⟨D, md, du⟩ := a1.mem m
    exact q u D H2 md ((P.same s1).keep k2 P2) ((Same.keep s1).trans k2) (du.fr (k2.frz P.zp))
end
/-! ### draws by data; texts "q", "qq", .. -/
section
variable {X : Cx}
def tDraw (d : Env → Option PyData) : TE := fun σ H Q => ∃ Z ρ n pp, σ[0]? = some (some (.ref pp)) ∧ PoolZ Z H pp ∧ Us Z σ H ρ ∧ d ρ = some (.int n) ∧ 0 < n ∧ n ≤ 1000 ∧ ∀ (k : Nat) H', (k : Int) < n → PoolZ Z H' pp → Keep pp H H' → Q (.int (k : Nat)) H'
theorem tdr_of {E : XK} {d : Env → Option PyData} {σ : St} {H : Hp} {Q : VK} (w : tDraw d σ H Q) : tCall spDraw [] E (tCons (tVar 0) (tCons (tDE d) tNil)) σ H Q := by
  obtain ⟨Z, ρ, n, pp, e0, P, hu, hd, l0, l1, q⟩ := w
  refine ⟨_, e0, Z, ρ, _, P.some, hu, hd, fun v H1 s1 dv => ?_⟩
  cases dv
  refine ⟨pp, n, rfl, l0, Sm.of (by omega) (by omega), P.at_.same s1, fun k H2 k0 k1 P2 k2 => ?_⟩
  obtain ⟨m, rfl⟩ : ∃ m : Nat, k = m := ⟨k.toNat, by omega⟩
  exact q m H2 k1 ((P.same s1).keep k2 P2) ((Same.keep s1).trans k2)
abbrev sg (z : Str) : List Nat := z.cps.toList
theorem sg_len (x : Str) : (sg x).length = x.length := by simp [sg, Str.length]
theorem fold_arr (a : Array Nat) : ∀ (k : Nat) (acc : Array Nat), ((List.replicate k a).foldl (· ++ ·) acc).toList = acc.toList ++ (List.replicate k a.toList).flatten
  | 0, acc => by simp
  | k + 1, acc => by
    rw [List.replicate_succ, List.foldl_cons, fold_arr a k, List.replicate_succ, List.flatten_cons]
    simp [List.append_assoc]
/-- a short text, many times -/
def rRepS1 : R2 := fun x y H Q => ∃ (z : Str) (n : Int), x = .str z ∧ y = .int n ∧ 0 ≤ n ∧ n ≤ 1000 ∧ z.length ≤ 1000 ∧ ∀ r : Str, sg r = (List.replicate n.toNat (sg z)).flatten → Q (.str r) H
theorem op_repS1 : OpR X (binaryOp .Mult) rRepS1 := by
  intro pins s σ H x y v u Q I rx ry h
  obtain ⟨z, n, rfl, rfl, n0, n1, zl, q⟩ := h
  obtain ⟨t, rfl⟩ := rx
  obtain ⟨t', rfl⟩ := ry
  have big : z.length * n.toNat ≤ sizeLine := Nat.le_trans (Nat.mul_le_mul zl (show n.toNat ≤ 1000 by omega)) (by decide)
  refine PySem.P.mul_str ?_ (fun h1 h2 => ?_) (fun h1 h2 => ?_) ?_
  · rw [decide_eq_false (by omega), decide_eq_false (by omega)]
    rfl
  · have h3 : (1000 : Int) ≤ (2 ^ 63 - 1) / n := Int.le_ediv_of_mul_le (by omega) (by omega)
    omega
  · exact decide_eq_false (by omega)
  · by_cases e0 : n < 1
    · rw [if_pos e0]
      refine ⟨by show 0 ≤ sizeLine; decide, .str _, H, I.tok _, ⟨_, rfl⟩, q _ ?_⟩
      rw [show n.toNat = 0 by omega]
      rfl
    · rw [if_neg e0]
      by_cases e1 : (n == 1 || z.length == 0) = true
      · rw [if_pos e1]
        refine ⟨.str z, H, I, ⟨_, rfl⟩, q _ ?_⟩
        rcases Bool.or_eq_true _ _ ▸ e1 with e2 | e2
        · rw [show n.toNat = 1 by have := eq_of_beq e2; omega]
          simp
        · have : sg z = [] := List.eq_nil_of_length_eq_zero (by rw [sg_len]; exact eq_of_beq e2)
          rw [this]
          simp
      · rw [if_neg e1]
        have hf : sg (⟨(List.replicate n.toNat z.cps).foldl (· ++ ·) #[]⟩ : Str) = (List.replicate n.toNat (sg z)).flatten := by
          show ((List.replicate n.toNat z.cps).foldl (· ++ ·) #[]).toList = _
          rw [fold_arr]
          simp [sg]
        refine ⟨?_, .str _, H, I.tok _, ⟨_, rfl⟩, q _ hf⟩
        rw [← sg_len, hf]
        simp only [List.length_flatten, List.map_replicate, List.sum_replicate_nat, sg_len]
        rw [Nat.mul_comm]
        exact big
theorem sg_inj {r z : Str} (h : sg r = sg z) : r = z := by
  cases r with
  | mk a =>
    cases z with
    | mk b =>
      have h : a.toList = b.toList := h
      rw [Array.toList_inj.mp h]
def qD : List PyData := [.tuple [.str "q", .int 0], .tuple [.str "qq", .int 0], .tuple [.str "qqq", .int 0], .tuple [.str "qqqq", .int 0]]
theorem PE.len {X : Cx} {e : Expr} {t : TE} (h : PE X e t) : PE X e (fun σ H Q => σ.length = X.N.length → t σ H Q) := ⟨fun pins s σ H Q I w => h.run pins s σ H Q I (w I.len)⟩
theorem qs_of {σ : St} {H : Hp} {Q : VK} (l5 : 5 < σ.length) (w : tDE (fun _ => some (.list qD)) σ H Q) : tLc (iRng1 (tCons (tC (.int 4)) tNil)) (gName 5) tYes (tTup (tCons (tOp rRepS1 (tC (.str "q")) (tOp (rI0 fun i j => .int (i + j)) (tC (.int 1)) (tVar 5))) (tCons (tC (.int 0)) tNil))) [5] σ H Q := by
  obtain ⟨pp, ρ, D, np, hu, hd, q⟩ := w
  cases hd
  refine ⟨_, rfl, by decide, by decide, fun D hD => ?_⟩
  refine lc_dat walk_range pp (fun G => Same H G) qD rfl hD (zp_new np hD) (Same.refl _) (fun G l n z b o e => ?_) (by decide) (fun _ _ => True.intro) ?_ ?_
  · rw [upd_ne (ne_of_none e hD)]
    exact n b o e
  · intro i x d G0 G Qk ed f iG ne y z
    obtain ⟨rfl, rfl⟩ := y
    refine ⟨by simp [wipe], ?_⟩
    have e5 : ∀ v : V, (List.set (wipe σ [5]) 5 (some v))[5]? = some (some v) := fun v => List.getElem?_set_self (by simpa [wipe] using l5)
    have go : ∀ (r : Str), d = .tuple [.str r, .int 0] → ∀ t, G t = none → Qk (.ref t) (upd G t (.tup [.str r, .int 0])) := fun r e t nt => by
      subst e
      exact z _ _ (Fm.new nt) (iG.trans (Same.new nt)) (.tup upd_same (zu_ne (zp_new (some_ne np iG) nt) (ne t nt)) (.cons (.str _) (.cons (.int _) .nil)))
    have four : i < 4 := (List.getElem?_eq_some_iff.mp ed).1
    have cs : i = 0 ∨ i = 1 ∨ i = 2 ∨ i = 3 := by omega
    rcases cs with rfl | rfl | rfl | rfl <;> cases ed
    · refine ⟨_, e5 _, _, _, rfl, rfl, ?_⟩
      refine ⟨_, _, rfl, rfl, by decide, by decide, by decide, fun r hr => ⟨by show 2 ≤ sizeLine; decide, go r ?_⟩⟩
      rw [show r = "q" from sg_inj hr]
    · refine ⟨_, e5 _, _, _, rfl, rfl, ?_⟩
      refine ⟨_, _, rfl, rfl, by decide, by decide, by decide, fun r hr => ⟨by show 2 ≤ sizeLine; decide, go r ?_⟩⟩
      rw [show r = "qq" from sg_inj hr]
    · refine ⟨_, e5 _, _, _, rfl, rfl, ?_⟩
      refine ⟨_, _, rfl, rfl, by decide, by decide, by decide, fun r hr => ⟨by show 2 ≤ sizeLine; decide, go r ?_⟩⟩
      rw [show r = "qqq" from sg_inj hr]
    · refine ⟨_, e5 _, _, _, rfl, rfl, ?_⟩
      refine ⟨_, _, rfl, rfl, by decide, by decide, by decide, fun r hr => ⟨by show 2 ≤ sizeLine; decide, go r ?_⟩⟩
      rw [show r = "qqqq" from sg_inj hr]
  · intro G xs f iG eD dD
    exact q _ _ iG (.lst eD (zp_new np hD) (dD.mono' fun _ m => .inl m))
end
/-! ### rows that are bent, by data -/
section
variable {size : Int} {many : Nat} {zs : List Str}
theorem wrongRow_app : ∀ {xs ws ks : List PyData} {i : Nat}, wrongRow size many zs (xs ++ ws) ks i = none → ∀ ys, wrongRow size many zs (xs ++ ys) ks i = wrongRow size many zs ys (ks ++ xs.map keyD) (i + xs.length)
  | [], _, ks, i, _, ys => by simp
  | x :: xs, ws, ks, i, h, ys => by
    rw [List.cons_append, wrongRow] at h
    rw [List.cons_append, wrongRow]
    split at h
    · cases h
    · rename_i c
      rw [if_neg c, wrongRow_app h ys]
      simp only [List.map_cons, List.append_assoc, List.cons_append, List.nil_append, List.length_cons]
      congr 1
      omega
theorem wrongRow_put {rows : List PyData} {odd : PyData} {at_ : Nat} (h : wrongRow size many zs rows [] 0 = none) (l : at_ < rows.length) (b : rowD odd size many zs = false) (ys : List PyData) : wrongRow size many zs (rows.take at_ ++ odd :: ys) [] 0 = some at_ := by
  rw [wrongRow_app (ws := rows.drop at_) (by rw [List.take_append_drop]; exact h), wrongRow, b, Bool.not_false, Bool.true_or, if_pos rfl, List.length_take, Nat.min_eq_left (Nat.le_of_lt l), Nat.zero_add]
theorem keyIn_yes {k : PyData} {ks : List PyData} (n : NIK k) (m : k ∈ ks) : keyIn k ks = true := List.any_eq_true.mpr ⟨k, m, PySem.SeqAt.eqv_refl k n.shp.1⟩
theorem wrongRow_dup {rows : List PyData} {r : PyData} (h : wrongRow size many zs rows [] 0 = none) (m : r ∈ rows) : wrongRow size many zs (rows ++ [r]) [] 0 = some rows.length := by
  have ok := (wrongRow_rows h).1 r m
  rw [wrongRow_app (ws := []) (by rw [List.append_nil]; exact h), wrongRow, List.nil_append, keyIn_yes (RowS.nik (rowD_NI ok)) (List.mem_map.mpr ⟨r, m, rfl⟩), Bool.or_true, if_pos rfl, Nat.zero_add]
theorem wrongRow_less {ini : List PyData} {last : PyData} (h : wrongRow size many zs (ini ++ [last]) [] 0 = none) (k : keyD last = nnD) : wrongRow size many zs ini [] 0 = some ini.length := by
  obtain ⟨r1, r2⟩ := wrongRow_rows h
  have nd := r2 List.nodup_nil
  rw [List.nil_append, List.map_append, List.nodup_append] at nd
  have nin : nnD ∉ ini.map keyD := fun m => nd.2.2 _ m _ (List.mem_singleton.mpr k.symm) rfl
  have e := wrongRow_app h []
  rw [List.append_nil] at e
  rw [e, List.nil_append, Nat.zero_add, wrongRow]
  have no : keyIn (.tuple [.none, .none]) (ini.map keyD) = false := keyIn_no (fun z hz => by
    obtain ⟨r, hr, rfl⟩ := List.mem_map.mp hz
    exact RowS.nik (rowD_NI (r1 r (List.mem_append_left _ hr)))) ⟨_, _, rfl, .inl rfl, .inl rfl⟩ nin
  rw [no, if_neg (by decide)]
/-- modes with a mode whose rows are wrong -/
def BadRows (size : Int) (many : Nat) (odd : PyData) (nm : Str) (i : Nat) : Prop := partsD modeD 4 odd = true ∧ rowsErr size many ((itemsD odd).map nmOf) (itemsD odd) = some (.row (.str nm) i)
theorem map_put {α β : Type} {f : α → β} {xs : List α} {at_ : Nat} {x y : α} (e : xs[at_]? = some x) (h : f y = f x) : (xs.take at_ ++ [y] ++ xs.drop (at_ + 1)).map f = xs.map f := by
  obtain ⟨l, e⟩ := List.getElem?_eq_some_iff.mp e
  have z : xs = xs.take at_ ++ [x] ++ xs.drop (at_ + 1) := by
    rw [← e, List.append_assoc, List.singleton_append, ← List.drop_eq_getElem_cons l, List.take_append_drop]
  conv => rhs; rw [z]
  simp only [List.map_append, List.map_cons, List.map_nil, h]
theorem mem_put {α : Type} {xs : List α} {at_ : Nat} {y z : α} (m : z ∈ xs.take at_ ++ [y] ++ xs.drop (at_ + 1)) : z = y ∨ z ∈ xs := by
  simp only [List.mem_append, List.mem_singleton] at m
  rcases m with (m | m) | m
  · exact .inr (List.mem_of_mem_take m)
  · exact .inl m
  · exact .inr (List.mem_of_mem_drop m)
theorem Drawn.badRows {b : Int} {regs modes ends goal : List PyData} (h : Drawn size b many zs regs modes ends goal) {at_ i : Nat} {z r : Str} {rows rows' : List PyData} (e : modes[at_]? = some (.tuple [.str z, .str r, .list rows])) (w : wrongRow size many zs rows' [] 0 = some i) :
    BadRows size many (.list (modes.take at_ ++ [.tuple [.str z, .str r, .list rows']] ++ modes.drop (at_ + 1))) z i := by
  have ok := h.ok
  obtain ⟨s2, m4, all2⟩ := partsD_all ok.modes
  have md := all2 _ (List.mem_of_getElem? e)
  have nms : (modes.take at_ ++ [PyData.tuple [.str z, .str r, .list rows']] ++ modes.drop (at_ + 1)).map nmOf = modes.map nmOf := map_put e rfl
  have wA := partsD_wrong ok.modes
  have len : (modes.take at_ ++ [PyData.tuple [.str z, .str r, .list rows']] ++ modes.drop (at_ + 1)).length = modes.length := by
    have z := congrArg List.length nms
    rw [List.length_map, List.length_map] at z
    exact z
  have mds : ∀ m ∈ modes.take at_ ++ [.tuple [.str z, .str r, .list rows']] ++ modes.drop (at_ + 1), modeD m = true := fun m hm => by
    rcases mem_put hm with rfl | hm
    · exact md
    · exact all2 m hm
  refine ⟨?_, ?_⟩
  · have nn := ok.names
    have zz := ok.modes
    unfold partsD listD at zz ⊢
    have zz := (Bool.and_eq_true_iff.mp zz).1
    show (true && (decide ((1 : Int) ≤ (((modes.take at_ ++ [PyData.tuple [.str z, .str r, .list rows']] ++ modes.drop (at_ + 1))).length : Int)) && decide ((((modes.take at_ ++ [PyData.tuple [.str z, .str r, .list rows']] ++ modes.drop (at_ + 1))).length : Int) ≤ 4)) && (wrongAt modeD (modes.take at_ ++ [PyData.tuple [.str z, .str r, .list rows']] ++ modes.drop (at_ + 1)) [] 0).isNone) = true
    rw [wrongAt_of mds (by rw [List.nil_append, nms]; exact nn), len]
    exact Bool.and_eq_true_iff.mpr ⟨zz, rfl⟩
  · show rowsErr size many ((modes.take at_ ++ [PyData.tuple [.str z, .str r, .list rows']] ++ modes.drop (at_ + 1)).map nmOf) (modes.take at_ ++ [PyData.tuple [.str z, .str r, .list rows']] ++ modes.drop (at_ + 1)) = _
    rw [nms, h.names]
    refine rowsErr_bad (fun m hm => ?_) ⟨PyData.tuple [.str z, .str r, .list rows'], by simp, rfl, w⟩
    rcases mem_put hm with rfl | hm
    · exact .inl ⟨rfl, w⟩
    · obtain ⟨j, ej⟩ := mem_ix hm
      obtain ⟨z, r, rows, ez, rfl, hr, _, _, hw⟩ := h.modes j m ej
      exact .inr hw.1
end
/-! ### registers and modes that are bent -/
section
variable {P : Program} {w : World} {K : PySem.W.Frag} {mg : Str → Option Value} {base : Heap} {aR : Addr}
abbrev s__law_bent_registers : Stmt := top 60
abbrev N__law_bent_registers : List Str := ["_law_pool_here", "_law_good", "_law_at", "_law_odd", "_law_whole", "_law_place"]
theorem sc__law_bent_registers : FnScope N__law_bent_registers ["_law_pool_here", "_law_good"] (defScope s__law_bent_registers) := ⟨rfl, rfl, rfl, by decide +kernel, rfl, by decide +kernel, by decide +kernel⟩
def regOdds : List PyData := [.none, .str "s", .tuple [.str "s"], .tuple [.str "s", .int 1, .int 1], .tuple [.str "", .int 0], .tuple [.str "ninesigns", .int 0], .tuple [.str "A", .int 0], .tuple [.str "a b", .int 0], .tuple [.str "ab1", .int 0]]
def regOdds2 : List PyData := [.tuple [.str "a_b", .int 0], .tuple [.str "q", .bool true], .tuple [.str "q", .int (10 ^ 6 + 1)], .list [.str "q", .int 0], .tuple [.str "q", .none], .tuple [.int 5, .int 0]]
theorem regOdds_bad : ((regOdds ++ regOdds2).all fun d => !regD d && szB 1 d) = true := by decide +kernel
def regWholes : List PyData := [.none, .int 5, .list [], .str "s", .dict [], .list qD]
theorem regWholes_bad : (regWholes.all fun d => !listD d 1 3 && szB 2 d) = true := by decide +kernel
/-- a bent part and what is told of it -/
def BentL (part : PyData → Bool) (hi : Int) (n : Nat) (kind : Str) (odd due : PyData) : Prop := ∃ d, due = .list [.str kind, d] ∧ BadParts part hi odd d ∧ Sz n odd
def spBentRegs : Sp := fun vs H Q _ => ∃ Z pp g good, vs = [.ref pp, .ref g] ∧ PoolZ Z H pp ∧ Dt Z H (.ref g) (.list good) ∧ GoodL regD 2 2 good ∧ ∀ v H' odd due, PoolZ Z H' pp → Keep pp H H' → Dt Z H' v (.list [odd, due]) → BentL regD 3 2 "registers" odd due → Q v H'
theorem ok__law_bent_registers (h : Has K mg "_law_bent_registers" s__law_bent_registers ["_law_pool_here", "_law_good"]) (T : Txt K mg aR) (O__law_draw : Ok P w K mg base 1 "_law_draw" ["_law_pool_here", "_law_many"] spDraw) (O__law_choose : Ok P w K mg base 2 "_law_choose" ["_law_pool_here", "_law_items"] (spChoose K)) : Ok P w K mg base 3 "_law_bent_registers" ["_law_pool_here", "_law_good"] spBentRegs := by
  obtain ⟨f, fd, g, b, F⟩ := h
  refine ⟨f, fd, g, F.kp, b, F.ok sc__law_bent_registers (fun vs H Q E h => ?_) (fun cdv A outer s H vs Q E hr h => ?_)⟩
  · obtain ⟨Z, pp, g, good, rfl, _⟩ := h
    rfl
  · obtain ⟨Z, pp, g, good, rfl, P0, hg, GL, q⟩ := h
    have len : good.length < 400 := Nat.lt_of_le_of_lt GL.l1 (by decide)
    refine ⟨_, (pss_cons (ps_set (i := 2) sc__law_bent_registers.nd rfl (.inl rfl) (PE.imp (pe_cO O__law_draw (hr.mono (by decide)) pass0 rfl (pa_cons (pv 0) (pa_cons (de_len (by rfl) T.len (de_pv (pv 1))) pa_nil))) (fun _ _ _ => tdr_of))) (pss_cons (ps_set (i := 3) sc__law_bent_registers.nd rfl (.inl rfl) (de_lst (da_cons de_non (da_cons de_str (da_cons (de_tup (da_cons de_str da_nil)) (da_cons (de_tup (da_cons de_str (da_cons de_int (da_cons de_int da_nil)))) (da_cons (de_tup (da_cons de_str (da_cons de_int da_nil))) (da_cons (de_tup (da_cons de_str (da_cons de_int da_nil))) (da_cons (de_tup (da_cons de_str (da_cons de_int da_nil))) (da_cons (de_tup (da_cons de_str (da_cons de_int da_nil))) (da_cons (de_tup (da_cons de_str (da_cons de_int da_nil))) da_nil))))))))))) (pss_cons (ps_set (i := 3) sc__law_bent_registers.nd rfl (.inl rfl) (de_cat (de_pv (pv 3)) (de_lst (da_cons (de_tup (da_cons de_str (da_cons de_int da_nil))) (da_cons (de_tup (da_cons de_str (da_cons de_bl da_nil))) (da_cons (de_tup (da_cons de_str (da_cons (de_i2 op_add (de_pow ⟨by decide, by decide, by decide⟩) de_int) da_nil))) (da_cons (de_lst (da_cons de_str (da_cons de_int da_nil))) (da_cons (de_tup (da_cons de_str (da_cons de_non da_nil))) (da_cons (de_tup (da_cons de_int (da_cons de_int da_nil))) da_nil))))))))) (pss_cons (ps_set (i := 3) sc__law_bent_registers.nd rfl (.inl rfl) (PE.imp (pe_cO O__law_choose (hr.mono (by decide)) pass0 rfl (pa_cons (pv 0) (pa_cons (de_pv (pv 3)) pa_nil))) (fun _ _ _ => tch_of))) (pss_cons (ps_set (i := 4) sc__law_bent_registers.nd rfl (.inl rfl) (PE.imp (pe_cO O__law_choose (hr.mono (by decide)) pass0 rfl (pa_cons (pv 0) (pa_cons (de_lst (da_cons de_non (da_cons de_int (da_cons (de_lst da_nil) (da_cons de_str (da_cons de_dic (da_cons (PE.imp (PE.len (pe_lc (own := [("_law_place", 5)]) (g := (gName 5)) (tt := tYes) rfl sc__law_bent_registers.nd (pi_range1 (by rfl) T.range (pa_cons pe_int pa_nil)) (blkOk_by (N := N__law_bent_registers) (sc := defScope s__law_bent_registers) (by decide +kernel)) (fun _ _ _ _ _ => (pg_name (i := 5) sc__law_bent_registers.nd rfl (by first | exact Or.inl rfl | exact Or.inr rfl))) (fun _ _ _ _ _ => pts_nil) (fun _ _ _ _ _ => (pe_tup (pa_cons (pe_op op_repS1 pe_str (pe_op op_add pe_int (pv 5))) (pa_cons pe_int pa_nil)))))) (fun _ _ _ w l => qs_of (Nat.lt_of_lt_of_eq (by decide : 5 < 6) l.symm) w)) da_nil))))))) pa_nil))) (fun _ _ _ => tch_of))) (pss_cons (ps_if (pt_cmpR op_eq (PE.imp (pe_cO O__law_draw (hr.mono (by decide)) pass0 rfl (pa_cons (pv 0) (pa_cons de_int pa_nil))) (fun _ _ _ => tdr_of)) pe_int (nomark _)) (pss_one (ps_ret (de_lst (da_cons (de_pv (pv 4)) (da_cons (de_lst (da_cons de_str (da_cons de_non da_nil))) da_nil))))) pss_nil) (pss_cons (ps_if (pt_cmpR op_eq (PE.imp (pe_cO O__law_draw (hr.mono (by decide)) pass0 rfl (pa_cons (pv 0) (pa_cons de_int pa_nil))) (fun _ _ _ => tdr_of)) pe_int (nomark _)) (pss_one (ps_ret (de_lst (da_cons (de_cat (de_pv (pv 1)) (de_lst (da_cons (de_ixL (de_pv (pv 1)) de_int) da_nil))) (da_cons (de_lst (da_cons de_str (da_cons (de_len (by rfl) T.len (de_pv (pv 1))) da_nil))) da_nil))))) pss_nil) (pss_one (ps_ret (de_lst (da_cons (de_cat (de_cat (de_slL (de_pv (pv 1)) do_none (do_some (de_pv (pv 2)))) (de_lst (da_cons (de_pv (pv 3)) da_nil))) (de_slL (de_pv (pv 1)) (do_some (de_i2 op_add (de_pv (pv 2)) de_int)) do_none)) (da_cons (de_lst (da_cons de_str (da_cons (de_pv (pv 2)) da_nil))) da_nil)))))))))))), ?_⟩
    refine ⟨Z, ρc ρ0 1 (.list good), good.length, pp, rfl, P0, us0.add rfl hg, rfl, by have := GL.l0; omega, by have := GL.l1; omega, fun at_ H1 lt P1 k1 => ?_⟩
    have hg1 := hg.fr (k1.frz P0.zp)
    refine ⟨Z, ρ0, .list regOdds, P1.some, us0, rfl, fun v2 H2 s2 d2 => ?_⟩
    refine ⟨Z, ρc ρ0 3 (.list regOdds), .list (regOdds ++ regOdds2), (P1.same s2).some, us0.add rfl d2, rfl, fun v3 H3 s3 d3 => ?_⟩
    refine ⟨Z, ρc ρ0 3 (.list (regOdds ++ regOdds2)), _, pp, rfl, P1.same (s2.trans s3), us0.add rfl d3, rfl, by decide, by decide, fun v4 odd H4 m4 P4 k4 d4 => ?_⟩
    refine ⟨Z, ρ0, regWholes, pp, rfl, P4, us0, rfl, by decide, by decide, fun v5 wh H5 m5 P5 k5 d5 => ?_⟩
    have k05 := k1.trans (((Same.keep (s2.trans s3)).trans k4).trans k5)
    have hg5 := hg.fr (k05.frz P0.zp)
    have d45 := d4.fr (k5.frz P0.zp)
    refine ⟨Z, ρ0, 4, pp, rfl, P5, us0, rfl, by decide, by decide, fun r6 H6 l6 P6 k6 => ?_⟩
    have k06 := k05.trans k6
    refine ⟨rfl, _, rfl, ite2 (fun c => ?_) (fun c => ?_)⟩
    · refine ⟨Z, ρc ρ0 4 wh, .list [wh, .list [.str "registers", .none]], P6.some, us0.add rfl (d5.fr (k6.frz P0.zp)), rfl, fun v H7 s7 d7 => q v H7 _ _ (P6.same s7) (k06.trans (Same.keep s7)) d7 ⟨_, rfl, ?_⟩⟩
      have z := List.all_eq_true.mp regWholes_bad wh m5
      simp only [Bool.and_eq_true, Bool.not_eq_true'] at z
      exact ⟨bad_whole z.1, szB_sz z.2⟩
    refine ⟨Z, ρ0, 4, pp, rfl, P6, us0, rfl, by decide, by decide, fun r7 H7 l7 P7 k7 => ?_⟩
    have k07 := k06.trans k7
    have hg7 := hg5.fr ((k6.trans k7).frz P0.zp)
    refine ⟨rfl, _, rfl, ite2 (fun c => ?_) (fun c => ?_)⟩
    · obtain ⟨x0, t, eg⟩ : ∃ x0 t, good = x0 :: t := by
        cases good with
        | nil => exact absurd GL.l0 (by decide)
        | cons a b => exact ⟨a, b, rfl⟩
      refine ⟨Z, ρc ρ0 1 (.list good), .list [.list (good ++ [x0]), .list [.str "registers", .int (good.length : Nat)]], P7.some, us0.add rfl hg7, ?_, fun v H8 s8 d8 => q v H8 _ _ (P7.same s8) (k07.trans (Same.keep s8)) d8 ⟨_, rfl, bad_at ?_ ?_ (wrongAt_dup GL.w ?_), ?_⟩⟩
      · subst eg
        show (consE (catL (some (.list (x0 :: t))) ((consE (atI (x0 :: t) 0) (some [])).map PyData.list)) _).map PyData.list = _
        rw [atI0]
        show (consE (catL (some (.list (x0 :: t))) (some (.list [x0]))) _).map PyData.list = _
        rw [catL_of (by simp only [List.length_cons, List.length_nil] at len ⊢; omega)]
        rfl
      · rw [List.length_append]
        have := GL.l0
        omega
      · have := GL.l1
        simp only [List.length_append, List.length_cons, List.length_nil]
        omega
      · rw [eg]
        exact List.mem_cons_self
      · refine sz_list ?_ fun d hd => ?_
        · have := GL.l1
          simp only [List.length_append, List.length_cons, List.length_nil]
          omega
        · rcases List.mem_append.mp hd with hd | hd
          · exact GL.sz.2.2 d hd
          · rw [List.mem_singleton.mp hd, ← show good.headD .none = x0 by rw [eg]; rfl]
            exact GL.sz.2.2 _ (by rw [eg]; exact List.mem_cons_self)
    refine ⟨Z, ρc (ρc (ρc ρ0 1 (.list good)) 2 (.int (at_ : Nat))) 3 odd, .list [.list (good.take at_ ++ [odd] ++ good.drop (at_ + 1)), .list [.str "registers", .int (at_ : Nat)]], P7.some, ((us0.add rfl hg7).add rfl (.int _)).add rfl (d45.fr ((k6.trans k7).frz P0.zp)), ?_, fun v H8 s8 d8 => q v H8 _ _ (P7.same s8) (k07.trans (Same.keep s8)) d8 ⟨_, rfl, bad_at ?_ ?_ ?_, ?_⟩⟩
    · show (consE (catL (catL (some (.list (cutD good none (some (at_ : Int))))) (some (.list [odd]))) (some (.list (cutD good (some ((at_ : Int) + 1)) none)))) _).map PyData.list = _
      rw [cutD_to, show ((at_ : Int) + 1) = ((at_ + 1 : Nat) : Int) by omega, cutD_from, catL_of (by simp only [List.length_take, List.length_cons, List.length_nil]; omega), catL_of (by simp only [List.length_append, List.length_take, List.length_drop, List.length_cons, List.length_nil]; omega)]
      rfl
    · simp only [List.length_append, List.length_cons, List.length_nil]
      omega
    · have := GL.l1
      simp only [List.length_append, List.length_take, List.length_drop, List.length_cons, List.length_nil]
      omega
    · rw [List.append_assoc, List.singleton_append]
      have z := List.all_eq_true.mp regOdds_bad odd m4
      simp only [Bool.and_eq_true, Bool.not_eq_true'] at z
      exact wrongAt_put GL.w (by omega) z.1 _
    · have z := List.all_eq_true.mp regOdds_bad odd m4
      simp only [Bool.and_eq_true, Bool.not_eq_true'] at z
      exact sz_put GL.sz len (szB_sz z.2) _ _
abbrev s__law_bent_modes : Stmt := top 61
abbrev N__law_bent_modes : List Str := ["_law_pool_here", "_law_good", "_law_at", "_law_odd"]
theorem sc__law_bent_modes : FnScope N__law_bent_modes ["_law_pool_here", "_law_good"] (defScope s__law_bent_modes) := ⟨rfl, rfl, rfl, by decide +kernel, rfl, by decide +kernel, by decide +kernel⟩
def modeOdds : List PyData := [.none, .tuple [.str "m"], .tuple [.str "M", .str "up", .list []], .tuple [.str "a b", .str "up", .list []], .tuple [.str "m2", .str "up", .list []], .tuple [.str "q", .str "Up", .list []]]
def modeOdds2 : List PyData := [.tuple [.str "q", .str "up", .none], .tuple [.str "q", .str "up", .dict []], .list [.str "q", .str "up", .list []], .tuple [.str "q", .none, .list []], .tuple [.str "q", .str "up", .list [], .int 1]]
def modeOdds3 : List PyData := [.tuple [.list [.str "q"], .str "up", .list []]]
theorem modeOdds_bad : ((modeOdds ++ modeOdds2 ++ modeOdds3).all fun d => !modeD d && szB 4 d) = true := by decide +kernel
def modeWholes : List PyData := [.none, .list [], .int 5, .str "m", .dict []]
theorem modeWholes_bad : (modeWholes.all fun d => !listD d 1 4 && szB 5 d) = true := by decide +kernel
def spBentModes : Sp := fun vs H Q _ => ∃ Z pp g good, vs = [.ref pp, .ref g] ∧ PoolZ Z H pp ∧ Dt Z H (.ref g) (.list good) ∧ GoodL modeD 5 3 good ∧ ∀ v H' odd due, PoolZ Z H' pp → Keep pp H H' → Dt Z H' v (.list [odd, due]) → BentL modeD 4 5 "modes" odd due → Q v H'
theorem ok__law_bent_modes (h : Has K mg "_law_bent_modes" s__law_bent_modes ["_law_pool_here", "_law_good"]) (T : Txt K mg aR) (O__law_draw : Ok P w K mg base 1 "_law_draw" ["_law_pool_here", "_law_many"] spDraw) (O__law_choose : Ok P w K mg base 2 "_law_choose" ["_law_pool_here", "_law_items"] (spChoose K)) : Ok P w K mg base 3 "_law_bent_modes" ["_law_pool_here", "_law_good"] spBentModes := by
  obtain ⟨f, fd, g, b, F⟩ := h
  refine ⟨f, fd, g, F.kp, b, F.ok sc__law_bent_modes (fun vs H Q E h => ?_) (fun cdv A outer s H vs Q E hr h => ?_)⟩
  · obtain ⟨Z, pp, g, good, rfl, _⟩ := h
    rfl
  · obtain ⟨Z, pp, g, good, rfl, P0, hg, GL, q⟩ := h
    have len : good.length < 400 := Nat.lt_of_le_of_lt GL.l1 (by decide)
    refine ⟨_, (pss_cons (ps_set (i := 2) sc__law_bent_modes.nd rfl (.inl rfl) (PE.imp (pe_cO O__law_draw (hr.mono (by decide)) pass0 rfl (pa_cons (pv 0) (pa_cons (de_len (by rfl) T.len (de_pv (pv 1))) pa_nil))) (fun _ _ _ => tdr_of))) (pss_cons (ps_set (i := 3) sc__law_bent_modes.nd rfl (.inl rfl) (de_lst (da_cons de_non (da_cons (de_tup (da_cons de_str da_nil)) (da_cons (de_tup (da_cons de_str (da_cons de_str (da_cons (de_lst da_nil) da_nil)))) (da_cons (de_tup (da_cons de_str (da_cons de_str (da_cons (de_lst da_nil) da_nil)))) (da_cons (de_tup (da_cons de_str (da_cons de_str (da_cons (de_lst da_nil) da_nil)))) (da_cons (de_tup (da_cons de_str (da_cons de_str (da_cons (de_lst da_nil) da_nil)))) da_nil)))))))) (pss_cons (ps_set (i := 3) sc__law_bent_modes.nd rfl (.inl rfl) (de_cat (de_pv (pv 3)) (de_lst (da_cons (de_tup (da_cons de_str (da_cons de_str (da_cons de_non da_nil)))) (da_cons (de_tup (da_cons de_str (da_cons de_str (da_cons de_dic da_nil)))) (da_cons (de_lst (da_cons de_str (da_cons de_str (da_cons (de_lst da_nil) da_nil)))) (da_cons (de_tup (da_cons de_str (da_cons de_non (da_cons (de_lst da_nil) da_nil)))) (da_cons (de_tup (da_cons de_str (da_cons de_str (da_cons (de_lst da_nil) (da_cons de_int da_nil))))) da_nil)))))))) (pss_cons (ps_set (i := 3) sc__law_bent_modes.nd rfl (.inl rfl) (PE.imp (pe_cO O__law_choose (hr.mono (by decide)) pass0 rfl (pa_cons (pv 0) (pa_cons (de_cat (de_pv (pv 3)) (de_lst (da_cons (de_tup (da_cons (de_lst (da_cons de_str da_nil)) (da_cons de_str (da_cons (de_lst da_nil) da_nil)))) da_nil))) pa_nil))) (fun _ _ _ => tch_of))) (pss_cons (ps_if (pt_cmpR op_eq (PE.imp (pe_cO O__law_draw (hr.mono (by decide)) pass0 rfl (pa_cons (pv 0) (pa_cons de_int pa_nil))) (fun _ _ _ => tdr_of)) pe_int (nomark _)) (pss_one (ps_ret (pe_lst (pa_cons (PE.imp (pe_cO O__law_choose (hr.mono (by decide)) pass0 rfl (pa_cons (pv 0) (pa_cons (de_lst (da_cons de_non (da_cons (de_lst da_nil) (da_cons de_int (da_cons de_str (da_cons de_dic (da_cons (de_repL (de_pv (pv 1)) de_int) da_nil))))))) pa_nil))) (fun _ _ _ => tch_of)) (pa_cons (de_lst (da_cons de_str (da_cons de_non da_nil))) pa_nil))))) pss_nil) (pss_one (ps_ret (de_lst (da_cons (de_cat (de_cat (de_slL (de_pv (pv 1)) do_none (do_some (de_pv (pv 2)))) (de_lst (da_cons (de_pv (pv 3)) da_nil))) (de_slL (de_pv (pv 1)) (do_some (de_i2 op_add (de_pv (pv 2)) de_int)) do_none)) (da_cons (de_lst (da_cons de_str (da_cons (de_pv (pv 2)) da_nil))) da_nil)))))))))), ?_⟩
    refine ⟨Z, ρc ρ0 1 (.list good), good.length, pp, rfl, P0, us0.add rfl hg, rfl, by have := GL.l0; omega, by have := GL.l1; omega, fun at_ H1 lt P1 k1 => ?_⟩
    have hg1 := hg.fr (k1.frz P0.zp)
    refine ⟨Z, ρ0, .list modeOdds, P1.some, us0, rfl, fun v2 H2 s2 d2 => ?_⟩
    refine ⟨Z, ρc ρ0 3 (.list modeOdds), .list (modeOdds ++ modeOdds2), (P1.same s2).some, us0.add rfl d2, rfl, fun v3 H3 s3 d3 => ?_⟩
    refine ⟨Z, ρc ρ0 3 (.list (modeOdds ++ modeOdds2)), modeOdds ++ modeOdds2 ++ modeOdds3, pp, rfl, P1.same (s2.trans s3), us0.add rfl d3, rfl, by decide, by decide, fun v4 odd H4 m4 P4 k4 d4 => ?_⟩
    have k04 := k1.trans ((Same.keep (s2.trans s3)).trans k4)
    have hg4 := hg.fr (k04.frz P0.zp)
    refine ⟨Z, ρ0, 4, pp, rfl, P4, us0, rfl, by decide, by decide, fun r6 H6 l6 P6 k6 => ?_⟩
    have k06 := k04.trans k6
    have hg6 := hg4.fr (k6.frz P0.zp)
    refine ⟨rfl, _, rfl, ite2 (fun c => ?_) (fun c => ?_)⟩
    · refine ⟨Z, ρc ρ0 1 (.list good), modeWholes ++ [.list (List.replicate 5 good).flatten], pp, rfl, P6, us0.add rfl hg6, ?_, by rw [List.length_append]; exact Nat.lt_of_lt_of_le (by decide : 0 < modeWholes.length) (Nat.le_add_right _ _), by rw [List.length_append]; show 5 + 1 ≤ 1000; decide, fun v7 wh H7 m7 P7 k7 d7 => ?_⟩
      · show (consE (some .none) (consE (some (.list [])) (consE (some (.int 5)) (consE (some (.str "m")) (consE (some (.dict [])) (consE (repL (some (.list good)) (some (.int 5))) (some []))))))).map PyData.list = _
        rw [repL_of (by have := GL.l1; omega)]
        rfl
      refine ⟨Z, ρ0, .list [.str "modes", .none], P7.some, us0, rfl, fun v8 H8 s8 d8 => ?_⟩
      refine ⟨by show 2 ≤ sizeLine; decide, fun l nl => ?_⟩
      have s9 : Same H8 (upd H8 l (.lst [v7, v8])) := Same.new nl
      refine q _ _ wh _ (P7.same (s8.trans s9)) ((k06.trans k7).trans (Same.keep (s8.trans s9))) (.lst upd_same (zp_new (some_ne P7.some s8) nl) (.cons (d7.fr (Fm.of (s8.trans s9))) (.cons (d8.fr (Fm.of s9)) .nil))) ⟨_, rfl, ?_⟩
      rcases List.mem_append.mp m7 with m7 | m7
      · have z := List.all_eq_true.mp modeWholes_bad wh m7
        simp only [Bool.and_eq_true, Bool.not_eq_true'] at z
        exact ⟨bad_whole z.1, szB_sz z.2⟩
      · rw [List.mem_singleton.mp m7]
        have l5 : (List.replicate 5 good).flatten.length = 5 * good.length := by simp [List.length_flatten]; omega
        refine ⟨bad_whole ?_, sz_list ?_ fun d hd => ?_⟩
        · show (true && (decide ((1 : Int) ≤ ((List.replicate 5 good).flatten.length : Int)) && decide (((List.replicate 5 good).flatten.length : Int) ≤ 4))) = false
          rw [decide_eq_false (p := ((List.replicate 5 good).flatten.length : Int) ≤ 4) (by have := GL.l0; omega), Bool.and_false, Bool.and_false]
        · have := GL.l1
          omega
        · obtain ⟨l, hl, hd⟩ := List.mem_flatten.mp hd
          rw [List.eq_of_mem_replicate hl] at hd
          exact GL.sz.2.2 d hd
    refine ⟨Z, ρc (ρc (ρc ρ0 1 (.list good)) 2 (.int (at_ : Nat))) 3 odd, .list [.list (good.take at_ ++ [odd] ++ good.drop (at_ + 1)), .list [.str "modes", .int (at_ : Nat)]], P6.some, ((us0.add rfl hg6).add rfl (.int _)).add rfl (d4.fr (k6.frz P0.zp)), ?_, fun v H8 s8 d8 => q v H8 _ _ (P6.same s8) (k06.trans (Same.keep s8)) d8 ⟨_, rfl, bad_at ?_ ?_ ?_, ?_⟩⟩
    · show (consE (catL (catL (some (.list (cutD good none (some (at_ : Int))))) (some (.list [odd]))) (some (.list (cutD good (some ((at_ : Int) + 1)) none)))) _).map PyData.list = _
      rw [cutD_to, show ((at_ : Int) + 1) = ((at_ + 1 : Nat) : Int) by omega, cutD_from, catL_of (by simp only [List.length_take, List.length_cons, List.length_nil]; omega), catL_of (by simp only [List.length_append, List.length_take, List.length_drop, List.length_cons, List.length_nil]; omega)]
      rfl
    · simp only [List.length_append, List.length_cons, List.length_nil]
      omega
    · have := GL.l1
      simp only [List.length_append, List.length_take, List.length_drop, List.length_cons, List.length_nil]
      omega
    · rw [List.append_assoc, List.singleton_append]
      have z := List.all_eq_true.mp modeOdds_bad odd m4
      simp only [Bool.and_eq_true, Bool.not_eq_true'] at z
      exact wrongAt_put GL.w (by omega) z.1 _
    · have z := List.all_eq_true.mp modeOdds_bad odd m4
      simp only [Bool.and_eq_true, Bool.not_eq_true'] at z
      exact sz_put GL.sz len (szB_sz z.2) _ _
end
/-! ### rows that are bent: the values that are no rows -/
section
theorem sz_four {a b c d : PyData} {n : Nat} (ha : Sz n a) (hb : Sz n b) (hc : Sz n c) (hd : Sz n d) : Sz (n + 1) (.tuple [a, b, c, d]) := sz_tuple (by show 4 ≤ 1000; decide) fun x hx => by
  simp only [List.mem_cons, List.not_mem_nil, or_false] at hx
  rcases hx with rfl | rfl | rfl | rfl
  · exact ha
  · exact hb
  · exact hc
  · exact hd
theorem sz_bl {b : Bool} : ∀ n, Sz n (.bool b)
  | 0 => ⟨by show 0 ≤ 1000; decide, fun x e => by cases e⟩
  | _ + 1 => ⟨by show 0 ≤ 1000; decide, fun x e => (by cases e), fun x hx => by cases hx⟩
theorem sz_non : ∀ n, Sz n .none
  | 0 => ⟨by show 0 ≤ 1000; decide, fun x e => by cases e⟩
  | _ + 1 => ⟨by show 0 ≤ 1000; decide, fun x e => (by cases e), fun x hx => by cases hx⟩
def upT (fs : List Int) : PyData := .tuple (fs.map PyData.int)
/-- the values that the law puts in as a row: u the updates of the last row, t its next mode -/
def rowOdds1 (size : Int) (u t : PyData) : List PyData := [.none, .tuple [.none, .none, u], .list [.none, .none, u, t], .tuple [.int 2, .int 0, u, t], .tuple [.bool true, .int 0, u, t], .tuple [.int 0, .int size, u, t]]
def rowOdds2 (u u2 t : PyData) : List PyData := [.tuple [.int 0, .bool true, u, t], .tuple [.int 1, .int 0, u2, .none], .tuple [.int 1, .int 0, u, .str "none"], .tuple [.int 1, .int 0, u, .int 5]]
def repD (many k : Nat) (x : PyData) : PyData := .tuple (List.replicate many [PyData.tuple (List.replicate k [x]).flatten]).flatten
def rowOdds3 (many : Nat) : List PyData := [.tuple [.int 1, .int 0, repD many (many + 1) (.int 0), .none], .tuple [.int 1, .int 0, repD many (many + 2) (.int (10 ^ 6 + 1)), .none]]
def rowOdds4 (many : Nat) (f : PyData) : List PyData := [.tuple [.int 1, .int 0, repD many (many + 2) (.bool true), .none], .tuple [.int 1, .int 0, .list (List.replicate many [f]).flatten, .none]]
theorem rowD_len {ds : List PyData} {size : Int} {many : Nat} {zs : List Str} (h : ds.length ≠ 4) : rowD (.tuple ds) size many zs = false := by
  unfold rowD
  rw [show (itemsD (.tuple ds)).length = ds.length from rfl, decide_eq_false h, Bool.false_and, Bool.and_false]
theorem rowD_sign {a b c d : PyData} {size : Int} {many : Nat} {zs : List Str} (h : optD a (betw a (-1) 1) = false) : rowD (.tuple [a, b, c, d]) size many zs = false := by
  show (isTup (.tuple [a, b, c, d]) && (decide (4 = 4) && ((optD a (betw a (-1) 1) && optD b (remD b size)) && (upsD c many && thenD d zs)))) = false
  rw [h, Bool.false_and, Bool.false_and, Bool.and_false, Bool.and_false]
theorem rowD_rem {a b c d : PyData} {size : Int} {many : Nat} {zs : List Str} (h : optD b (remD b size) = false) : rowD (.tuple [a, b, c, d]) size many zs = false := by
  show (isTup (.tuple [a, b, c, d]) && (decide (4 = 4) && ((optD a (betw a (-1) 1) && optD b (remD b size)) && (upsD c many && thenD d zs)))) = false
  rw [h, Bool.and_false, Bool.false_and, Bool.and_false, Bool.and_false]
theorem rowD_ups {a b c d : PyData} {size : Int} {many : Nat} {zs : List Str} (h : upsD c many = false) : rowD (.tuple [a, b, c, d]) size many zs = false := by
  show (isTup (.tuple [a, b, c, d]) && (decide (4 = 4) && ((optD a (betw a (-1) 1) && optD b (remD b size)) && (upsD c many && thenD d zs)))) = false
  rw [h, Bool.false_and, Bool.and_false, Bool.and_false, Bool.and_false]
theorem rowD_then {a b c d : PyData} {size : Int} {many : Nat} {zs : List Str} (h : thenD d zs = false) : rowD (.tuple [a, b, c, d]) size many zs = false := by
  show (isTup (.tuple [a, b, c, d]) && (decide (4 = 4) && ((optD a (betw a (-1) 1) && optD b (remD b size)) && (upsD c many && thenD d zs)))) = false
  rw [h, Bool.and_false, Bool.and_false, Bool.and_false, Bool.and_false]
theorem upsD_len {ds : List PyData} {many : Nat} (h : ds.length ≠ many) : upsD (.tuple ds) many = false := by
  unfold upsD
  rw [show (itemsD (.tuple ds)).length = ds.length from rfl, decide_eq_false h, Bool.false_and, Bool.and_false]
theorem none_in : ∀ k, ("none" : Str) ∉ modeNames.take k := fun k m => absurd (List.mem_of_mem_take m) (by decide +kernel)
theorem rowOdds1_bad {size : Int} {many : Nat} {zs : List Str} {u t : PyData} (hu : Sz 1 u) (ht : Sz 1 t) : ∀ d ∈ rowOdds1 size u t, rowD d size many zs = false ∧ Sz 2 d := fun d hd => by
  simp only [rowOdds1, List.mem_cons, List.not_mem_nil, or_false] at hd
  rcases hd with rfl | rfl | rfl | rfl | rfl | rfl
  · exact ⟨rfl, sz_non _⟩
  · refine ⟨rowD_len (by show 3 ≠ 4; decide), sz_tuple (by show 3 ≤ 1000; decide) fun x hx => ?_⟩
    simp only [List.mem_cons, List.not_mem_nil, or_false] at hx
    rcases hx with rfl | rfl | rfl
    · exact sz_non _
    · exact sz_non _
    · exact hu
  · refine ⟨rfl, sz_list (by show 4 ≤ 1000; decide) fun x hx => ?_⟩
    simp only [List.mem_cons, List.not_mem_nil, or_false] at hx
    rcases hx with rfl | rfl | rfl | rfl
    · exact sz_non _
    · exact sz_non _
    · exact hu
    · exact ht
  · exact ⟨rowD_sign rfl, sz_four (sz_int _) (sz_int _) hu ht⟩
  · exact ⟨rowD_sign rfl, sz_four (sz_bl _) (sz_int _) hu ht⟩
  · refine ⟨rowD_rem ?_, sz_four (sz_int _) (sz_int _) hu ht⟩
    show (decide (1 - size ≤ size) && decide (size ≤ size - 1)) = false
    rw [decide_eq_false (p := size ≤ size - 1) (by omega), Bool.and_false]
theorem rowOdds2_bad {size : Int} {many k : Nat} {us : List PyData} {t : PyData} (hu : Sz 1 (.tuple us)) (ht : Sz 1 t) (l : us.length = many) (m : 1 ≤ many) (m3 : many ≤ 3) : ∀ d ∈ rowOdds2 (.tuple us) (.tuple (us ++ us)) t, rowD d size many (modeNames.take k) = false ∧ Sz 2 d := fun d hd => by
  simp only [rowOdds2, List.mem_cons, List.not_mem_nil, or_false] at hd
  have h2 : Sz 1 (.tuple (us ++ us)) := sz_tuple (by rw [List.length_append]; omega) fun x hx => by
    rcases List.mem_append.mp hx with hx | hx <;> exact hu.2.2 x hx
  rcases hd with rfl | rfl | rfl | rfl
  · exact ⟨rowD_rem rfl, sz_four (sz_int _) (sz_bl _) hu ht⟩
  · exact ⟨rowD_ups (upsD_len (by rw [List.length_append]; omega)), sz_four (sz_int _) (sz_int _) h2 (sz_non _)⟩
  · exact ⟨rowD_then (inV_no (none_in k)), sz_four (sz_int _) (sz_int _) hu (sz_str (by decide +kernel) _)⟩
  · exact ⟨rowD_then rfl, sz_four (sz_int _) (sz_int _) hu (sz_int _)⟩
theorem rowOdds3_bad {size : Int} {many : Nat} {zs : List Str} (m : 1 ≤ many) (m3 : many ≤ 3) : ∀ d ∈ rowOdds3 many, rowD d size many zs = false ∧ Sz 2 d := fun d hd => by
  have cs : many = 1 ∨ many = 2 ∨ many = 3 := by omega
  simp only [rowOdds3, List.mem_cons, List.not_mem_nil, or_false] at hd
  rcases cs with rfl | rfl | rfl <;> rcases hd with rfl | rfl <;> exact ⟨rowD_ups (by decide +kernel), szB_sz (by decide +kernel)⟩
theorem rowOdds4_bad {size : Int} {many : Nat} {zs : List Str} {f : PyData} (hf : Sz 0 f) (m : 1 ≤ many) (m3 : many ≤ 3) : ∀ d ∈ rowOdds4 many f, rowD d size many zs = false ∧ Sz 2 d := fun d hd => by
  have cs : many = 1 ∨ many = 2 ∨ many = 3 := by omega
  simp only [rowOdds4, List.mem_cons, List.not_mem_nil, or_false] at hd
  rcases hd with rfl | rfl
  · rcases cs with rfl | rfl | rfl <;> exact ⟨rowD_ups (by decide +kernel), szB_sz (by decide +kernel)⟩
  · refine ⟨rowD_ups rfl, sz_four (sz_int _) (sz_int _) (sz_list ?_ fun x hx => ?_) (sz_non _)⟩
    · simp only [List.length_flatten, List.map_replicate, List.sum_replicate_nat, List.length_cons, List.length_nil]
      omega
    · obtain ⟨l, hl, hx⟩ := List.mem_flatten.mp hx
      rw [List.eq_of_mem_replicate hl, List.mem_singleton] at hx
      rw [hx]
      exact hf
end
/-! ### _law_bent_rows -/
section
variable {P : Program} {w : World} {K : PySem.W.Frag} {mg : Str → Option Value} {base : Heap} {aR : Addr}
abbrev s__law_bent_rows : Stmt := top 62
abbrev N__law_bent_rows : List Str := ["_law_pool_here", "_law_good", "_law_size", "_law_many", "_law_at", "_law_name", "_law_rule", "_law_rows_here", "_law_spot", "_law_last", "_law_some", "_law_bent_here", "_law_due", "_law_way"]
theorem sc__law_bent_rows : FnScope N__law_bent_rows ["_law_pool_here", "_law_good", "_law_size", "_law_many"] (defScope s__law_bent_rows) := ⟨rfl, rfl, rfl, by decide +kernel, rfl, by decide +kernel, by decide +kernel⟩
def BentR (size : Int) (many : Nat) (odd due : PyData) : Prop := ∃ nm i, due = .list [.str "row", .str nm, .int (i : Nat)] ∧ nm ∈ modeNames ∧ BadRows size many odd nm i ∧ Sz 5 odd
def spBentRows : Sp := fun vs H Q _ => ∃ Z pp g size b many zs regs modes ends goal, vs = [.ref pp, .ref g, .int size, .int (many : Nat)] ∧ PoolZ Z H pp ∧ Dt Z H (.ref g) (.list modes) ∧ Drawn size b many zs regs modes ends goal ∧ ∀ v H' odd due, PoolZ Z H' pp → Keep pp H H' → Dt Z H' v (.list [odd, due]) → BentR size many odd due → Q v H'
theorem Dt.lstOf {Z : Addr → Prop} {H : Hp} {v : V} {ds : List PyData} (h : Dt Z H v (.list ds)) : ∃ a xs, v = .ref a ∧ H a = some (.lst xs) ∧ ¬ Z a ∧ DtAll Z H xs ds := by
  cases h with
  | lst e n t => exact ⟨_, _, rfl, e, n, t⟩
theorem DtAll.one {Z : Addr → Prop} {H : Hp} {v : V} {d : PyData} (h : Dt Z H v d) : DtAll Z H [v] [d] := .cons h .nil
theorem atI_last {α : Type} (xs : List α) (v : α) : atI (xs ++ [v]) (-1) = some v := by
  unfold atI ixN
  rw [if_neg (by decide), if_pos (by simp; omega)]
  have e : ((-1 : Int) + ((xs ++ [v]).length : Int)).toNat = xs.length := by simp; omega
  rw [e]
  simp
theorem cutD_but (xs : List PyData) (v : PyData) : cutD (xs ++ [v]) none (some (-1)) = xs := by
  have e : HT.sIx (xs ++ [v]).length (xs ++ [v]).length (some (-1)) = xs.length := by
    show (if (-1 : Int) < 0 then ((-1 : Int) + ((xs ++ [v]).length : Int)).toNat else min (-1 : Int).toNat (xs ++ [v]).length) = _
    rw [if_pos (by decide)]
    simp
    omega
  unfold cutD
  rw [HT.sIx_none, e]
  simp
theorem sz_mode {z r : Str} {rows : List PyData} (hz : z ∈ modeNames) (hr : r ∈ five) (l : rows.length ≤ 1000) (h : ∀ x ∈ rows, Sz 2 x) : Sz 4 (.tuple [.str z, .str r, .list rows]) := sz_tuple (by show 3 ≤ 1000; decide) fun x hx => by
  simp only [List.mem_cons, List.not_mem_nil, or_false] at hx
  rcases hx with rfl | rfl | rfl
  · refine sz_str ?_ _
    simp only [modeNames, List.mem_cons, List.not_mem_nil, or_false] at hz
    rcases hz with rfl | rfl | rfl <;> decide +kernel
  · exact sz_str (five_len hr) _
  · exact sz_list l h
theorem ok__law_bent_rows (h : Has K mg "_law_bent_rows" s__law_bent_rows ["_law_pool_here", "_law_good", "_law_size", "_law_many"]) (T : Txt K mg aR) (O__law_draw : Ok P w K mg base 1 "_law_draw" ["_law_pool_here", "_law_many"] spDraw) (O__law_choose : Ok P w K mg base 2 "_law_choose" ["_law_pool_here", "_law_items"] (spChoose K)) : Ok P w K mg base 3 "_law_bent_rows" ["_law_pool_here", "_law_good", "_law_size", "_law_many"] spBentRows := by
  obtain ⟨f, fd, g, b, F⟩ := h
  refine ⟨f, fd, g, F.kp, b, F.ok sc__law_bent_rows (fun vs H Q E h => ?_) (fun cdv A outer s H vs Q E hr h => ?_)⟩
  · obtain ⟨Z, pp, g, size, b, many, zs, regs, modes, ends, goal, rfl, _⟩ := h
    rfl
  · obtain ⟨Z, pp, g, size, b, many, zs, regs, modes, ends, goal, rfl, P0, hg, DR, q⟩ := h
    have ml : modes.length ≤ 3 := by
      rw [DR.lm]
      obtain ⟨k, e⟩ := DR.z
      rw [e, List.length_take]
      exact Nat.min_le_right _ _
    have m1 : 1 ≤ modes.length := by rw [DR.lm]; exact DR.z0
    refine ⟨_, (pss_cons (ps_set (i := 4) sc__law_bent_rows.nd rfl (.inl rfl) (PE.imp (pe_cO O__law_draw (hr.mono (by decide)) pass0 rfl (pa_cons (pv 0) (pa_cons (de_len (by rfl) T.len (de_pv (pv 1))) pa_nil))) (fun _ _ _ => tdr_of))) (pss_cons (ps_asg (de_ixL (de_pv (pv 1)) (de_pv (pv 4))) (pgT (n := 3) (by rfl) (pgs_cons (pg_name (i := 5) sc__law_bent_rows.nd rfl (.inl rfl)) (pgs_cons (pg_name (i := 6) sc__law_bent_rows.nd rfl (.inl rfl)) (pgs_cons (pg_name (i := 7) sc__law_bent_rows.nd rfl (.inl rfl)) pgs_nil))))) (pss_cons (ps_par (by rfl) sc__law_bent_rows.nd (i := 8) (j := 9) rfl rfl (by decide) rfl rfl (pa_cons (PE.imp (pe_cO O__law_draw (hr.mono (by decide)) pass0 rfl (pa_cons (pv 0) (pa_cons (de_len (by rfl) T.len (de_pv (pv 7))) pa_nil))) (fun _ _ _ => tdr_of)) (pa_cons (de_ixL (de_pv (pv 7)) (de_neg de_int)) pa_nil)) (by rfl)) (pss_cons (ps_set (i := 10) sc__law_bent_rows.nd rfl (.inl rfl) (de_lst (da_cons de_non (da_cons (de_slT (de_pv (pv 9)) do_none (do_some de_int)) (da_cons (de_list (by rfl) T.list (de_pv (pv 9))) (da_cons (de_catT (de_tup (da_cons de_int (da_cons de_int da_nil))) (de_slT (de_pv (pv 9)) (do_some de_int) do_none)) (da_cons (de_catT (de_tup (da_cons de_bl (da_cons de_int da_nil))) (de_slT (de_pv (pv 9)) (do_some de_int) do_none)) (da_cons (de_catT (de_tup (da_cons de_int (da_cons (de_pv (pv 2)) da_nil))) (de_slT (de_pv (pv 9)) (do_some de_int) do_none)) da_nil)))))))) (pss_cons (ps_set (i := 10) sc__law_bent_rows.nd rfl (.inl rfl) (de_cat (de_pv (pv 10)) (de_lst (da_cons (de_catT (de_tup (da_cons de_int (da_cons de_bl da_nil))) (de_slT (de_pv (pv 9)) (do_some de_int) do_none)) (da_cons (de_tup (da_cons de_int (da_cons de_int (da_cons (de_repT (de_ixT (de_pv (pv 9)) de_int) de_int) (da_cons de_non da_nil))))) (da_cons (de_tup (da_cons de_int (da_cons de_int (da_cons (de_ixT (de_pv (pv 9)) de_int) (da_cons de_str da_nil))))) (da_cons (de_tup (da_cons de_int (da_cons de_int (da_cons (de_ixT (de_pv (pv 9)) de_int) (da_cons de_int da_nil))))) da_nil))))))) (pss_cons (ps_set (i := 10) sc__law_bent_rows.nd rfl (.inl rfl) (de_cat (de_pv (pv 10)) (de_lst (da_cons (de_tup (da_cons de_int (da_cons de_int (da_cons (de_repT (de_tup (da_cons (de_repT (de_tup (da_cons de_int da_nil)) (de_i2 op_add (de_pv (pv 3)) de_int)) da_nil)) (de_pv (pv 3))) (da_cons de_non da_nil))))) (da_cons (de_tup (da_cons de_int (da_cons de_int (da_cons (de_repT (de_tup (da_cons (de_repT (de_tup (da_cons (de_i2 op_add (de_pow ⟨by decide, by decide, by decide⟩) de_int) da_nil)) (de_i2 op_add (de_pv (pv 3)) de_int)) da_nil)) (de_pv (pv 3))) (da_cons de_non da_nil))))) da_nil))))) (pss_cons (ps_set (i := 10) sc__law_bent_rows.nd rfl (.inl rfl) (de_cat (de_pv (pv 10)) (de_lst (da_cons (de_tup (da_cons de_int (da_cons de_int (da_cons (de_repT (de_tup (da_cons (de_repT (de_tup (da_cons de_bl da_nil)) (de_i2 op_add (de_pv (pv 3)) de_int)) da_nil)) (de_pv (pv 3))) (da_cons de_non da_nil))))) (da_cons (de_tup (da_cons de_int (da_cons de_int (da_cons (de_repL (de_lst (da_cons (de_ixT (de_ixT (de_pv (pv 9)) de_int) de_int) da_nil)) (de_pv (pv 3))) (da_cons de_non da_nil))))) da_nil))))) (pss_cons (ps_par (by rfl) sc__law_bent_rows.nd (i := 11) (j := 12) rfl rfl (by decide) rfl rfl (pa_cons (pe_op op_cat (pe_op op_cat (de_slL (de_pv (pv 7)) do_none (do_some (de_pv (pv 8)))) (pe_lst (pa_cons (PE.imp (pe_cO O__law_choose (hr.mono (by decide)) pass0 rfl (pa_cons (pv 0) (pa_cons (de_pv (pv 10)) pa_nil))) (fun _ _ _ => tch_of)) pa_nil))) (de_slL (de_pv (pv 7)) (do_some (de_pv (pv 8))) do_none)) (pa_cons (pv 8) pa_nil)) (by rfl)) (pss_cons (ps_set (i := 13) sc__law_bent_rows.nd rfl (.inl rfl) (PE.imp (pe_cO O__law_draw (hr.mono (by decide)) pass0 rfl (pa_cons (pv 0) (pa_cons de_int pa_nil))) (fun _ _ _ => tdr_of))) (pss_cons (ps_if (pt_cmpR op_eq (pv 13) pe_int (nomark _)) (pss_one (ps_par (by rfl) sc__law_bent_rows.nd (i := 11) (j := 12) rfl rfl (by decide) rfl rfl (pa_cons (de_cat (de_pv (pv 7)) (de_lst (da_cons (de_ixL (de_pv (pv 7)) (de_pv (pv 8))) da_nil))) (pa_cons (de_len (by rfl) T.len (de_pv (pv 7))) pa_nil)) (by rfl))) pss_nil) (pss_cons (ps_if (pt_cmpR op_eq (pv 13) pe_int (nomark _)) (pss_one (ps_par (by rfl) sc__law_bent_rows.nd (i := 11) (j := 12) rfl rfl (by decide) rfl rfl (pa_cons (de_slL (de_pv (pv 7)) do_none (do_some (de_neg de_int))) (pa_cons (de_i2 op_sub (de_len (by rfl) T.len (de_pv (pv 7))) de_int) pa_nil)) (by rfl))) pss_nil) (pss_one (ps_ret (de_lst (da_cons (de_cat (de_cat (de_slL (de_pv (pv 1)) do_none (do_some (de_pv (pv 4)))) (de_lst (da_cons (de_tup (da_cons (de_pv (pv 5)) (da_cons (de_pv (pv 6)) (da_cons (de_pv (pv 11)) da_nil)))) da_nil))) (de_slL (de_pv (pv 1)) (do_some (de_i2 op_add (de_pv (pv 4)) de_int)) do_none)) (da_cons (de_lst (da_cons de_str (da_cons (de_pv (pv 5)) (da_cons (de_pv (pv 12)) da_nil)))) da_nil)))))))))))))))), ?_⟩
    refine ⟨Z, ρc ρ0 1 (.list modes), modes.length, pp, rfl, P0, us0.add rfl hg, rfl, by omega, by omega, fun at_ H1 lt P1 k1 => ?_⟩
    have hg1 := hg.fr (k1.frz P0.zp)
    obtain ⟨md, em⟩ : ∃ md, modes[at_]? = some md := ⟨_, List.getElem?_eq_getElem (by omega)⟩
    obtain ⟨z, r, rows, ez, rfl, hr5, rl, l4, wr⟩ := DR.modes at_ md em
    obtain ⟨wn, ini, last, erows, kl⟩ := wr
    refine ⟨Z, ρc (ρc ρ0 1 (.list modes)) 4 (.int (at_ : Nat)), .tuple [.str z, .str r, .list rows], P1.some, (us0.add rfl hg1).add rfl (.int _), atI_nat em, fun v5 H2 s2 d5 => ?_⟩
    obtain ⟨a5, ys, rfl, dy, ha5, nz5, _⟩ := d5.tupOf rfl
    obtain ⟨y0, y1, y2, c0, c1, c2, rfl, eds, w0, w1, w2⟩ := three_dt dy rfl
    cases eds
    cases w0
    cases w1
    refine ⟨a5, _, rfl, ha5, rfl, _, _, rfl, _, _, rfl, _, _, rfl, rfl, ?_⟩
    have P2 := P1.same s2
    have lr : rows.length = ini.length + 1 := by rw [erows]; simp
    refine ⟨Z, ρc ρ0 7 (.list rows), rows.length, pp, rfl, P2, us0.add rfl w2, rfl, by omega, by omega, fun spot H3 lt3 P3 k3 => ?_⟩
    have w23 := w2.fr (k3.frz P0.zp)
    refine ⟨Z, ρc ρ0 7 (.list rows), last, P3.some, us0.add rfl w23, ?_, fun v9 H4 s4 d9 => ?_⟩
    · show atI rows (-1) = some last
      rw [erows]
      exact atI_last _ _
    have rlast : RowL size many zs last := rl last (by rw [erows]; simp)
    have szr : ∀ x ∈ rows, Sz 2 x := fun x hx => ((rl x hx).sz DR.m1 DR.lz).less
    have szl := rlast.sz DR.m1 DR.lz
    obtain ⟨ka, kb, uss, t, rfl, na, nb, _, _, ht, lu, hb⟩ := rlast
    have kl0 := kl
    injection kl with kl
    injection kl with k1' kl
    injection kl with k2' _
    have k1' : ka = .none := k1'
    have k2' : kb = .none := k2'
    subst k1'
    subst k2'
    have lu' : (uss.map upT).length = many := by rw [List.length_map]; exact lu
    have us_e : updsD uss = .tuple (uss.map upT) := rfl
    have szu : Sz 2 (.tuple (uss.map upT)) := szl.2.2 _ (by rw [us_e]; simp [itemsD])
    have szt : Sz 2 t := szl.2.2 _ (by simp [itemsD])
    have m0 := DR.m0
    have m3 := DR.m1
    have cs : (many = 1 ∧ ∃ f0, uss = [f0]) ∨ (many = 2 ∧ ∃ f0 f1, uss = [f0, f1]) ∨ (many = 3 ∧ ∃ f0 f1 f2, uss = [f0, f1, f2]) := by
      match uss, lu with
      | [], l => simp at l; omega
      | [f0], l => exact .inl ⟨l.symm, f0, rfl⟩
      | [f0, f1], l => exact .inr (.inl ⟨l.symm, f0, f1, rfl⟩)
      | [f0, f1, f2], l => exact .inr (.inr ⟨l.symm, f0, f1, f2, rfl⟩)
      | _ :: _ :: _ :: _ :: _, l => simp at l; omega
    have zk : ∃ k, zs = modeNames.take k := DR.z
    have mz : z ∈ modeNames := by
      obtain ⟨k, e⟩ := zk
      have m := List.mem_of_getElem? ez
      rw [e] at m
      exact List.mem_of_mem_take m
    rw [us_e] at d9
    have P4 := P3.same s4
    refine ⟨_, _, rfl, ?_⟩
    show tSeq _ _ _ [some (.ref pp), some (.ref g), some (.int size), some (.int (many : Nat)), some (.int (at_ : Nat)), some (.str z), some (.str r), some y2, some (.int (spot : Nat)), some v9, none, none, none, none] H4
    refine ⟨Z, ρc (ρc ρ0 9 (.tuple [.none, .none, .tuple (uss.map upT), t])) 2 (.int size), .list (rowOdds1 size (.tuple (uss.map upT)) t), P4.some, (us0.add rfl d9).add rfl (.int _), rfl, fun v10 H5 s5 d10 => ?_⟩
    refine ⟨Z, ρc (ρc ρ0 9 (.tuple [.none, .none, .tuple (uss.map upT), t])) 10 (.list (rowOdds1 size (.tuple (uss.map upT)) t)), .list (rowOdds1 size (.tuple (uss.map upT)) t ++ rowOdds2 (.tuple (uss.map upT)) (.tuple (uss.map upT ++ uss.map upT)) t), (P4.same s5).some, (us0.add rfl (d9.fr (Fm.of s5))).add rfl d10, ?_, fun v11 H6 s6 d11 => ?_⟩
    · rcases cs with ⟨rfl, f0, rfl⟩ | ⟨rfl, f0, f1, rfl⟩ | ⟨rfl, f0, f1, f2, rfl⟩ <;> rfl
    refine ⟨Z, ρc (ρc ρ0 3 (.int (many : Nat))) 10 (.list (rowOdds1 size (.tuple (uss.map upT)) t ++ rowOdds2 (.tuple (uss.map upT)) (.tuple (uss.map upT ++ uss.map upT)) t)), .list (rowOdds1 size (.tuple (uss.map upT)) t ++ rowOdds2 (.tuple (uss.map upT)) (.tuple (uss.map upT ++ uss.map upT)) t ++ rowOdds3 many), (P4.same (s5.trans s6)).some, (us0.add rfl (.int _)).add rfl d11, ?_, fun v12 H7 s7 d12 => ?_⟩
    · rcases cs with ⟨rfl, f0, rfl⟩ | ⟨rfl, f0, f1, rfl⟩ | ⟨rfl, f0, f1, f2, rfl⟩ <;> rfl
    have s47 := (s5.trans s6).trans s7
    refine ⟨Z, ρc (ρc (ρc ρ0 3 (.int (many : Nat))) 9 (.tuple [.none, .none, .tuple (uss.map upT), t])) 10 (.list (rowOdds1 size (.tuple (uss.map upT)) t ++ rowOdds2 (.tuple (uss.map upT)) (.tuple (uss.map upT ++ uss.map upT)) t ++ rowOdds3 many)), .list (rowOdds1 size (.tuple (uss.map upT)) t ++ rowOdds2 (.tuple (uss.map upT)) (.tuple (uss.map upT ++ uss.map upT)) t ++ rowOdds3 many ++ rowOdds4 many ((uss.map upT).getD 0 .none)), (P4.same s47).some, ((us0.add rfl (.int _)).add rfl (d9.fr (Fm.of s47))).add rfl d12, ?_, fun v13 H8 s8 d13 => ?_⟩
    · rcases cs with ⟨rfl, f0, rfl⟩ | ⟨rfl, f0, f1, rfl⟩ | ⟨rfl, f0, f1, f2, rfl⟩ <;> rfl
    have s48 := s47.trans s8
    have P8 := P4.same s48
    have k08 : Keep pp H H8 := ((k1.trans (Same.keep s2)).trans k3).trans (Same.keep (s4.trans s48))
    have w28 := w23.fr (Fm.of (s4.trans s48))
    have obad : ∀ d ∈ (rowOdds1 size (.tuple (uss.map upT)) t ++ rowOdds2 (.tuple (uss.map upT)) (.tuple (uss.map upT ++ uss.map upT)) t ++ rowOdds3 many ++ rowOdds4 many ((uss.map upT).getD 0 .none)), rowD d size many zs = false ∧ Sz 2 d := fun d hd => by
      obtain ⟨k, ek⟩ := zk
      rcases List.mem_append.mp hd with hd | hd
      · rcases List.mem_append.mp hd with hd | hd
        · rcases List.mem_append.mp hd with hd | hd
          · exact rowOdds1_bad szu.less szt.less d hd
          · rw [ek]
            exact rowOdds2_bad szu.less szt.less lu' m0 m3 d hd
        · exact rowOdds3_bad m0 m3 d hd
      · refine rowOdds4_bad ?_ m0 m3 d hd
        rcases cs with ⟨_, f0, e⟩ | ⟨_, f0, f1, e⟩ | ⟨_, f0, f1, f2, e⟩ <;> subst e <;> exact (szu.2.2 (upT f0) (by simp [itemsD])).less
    have olen : 0 < ((rowOdds1 size (.tuple (uss.map upT)) t ++ rowOdds2 (.tuple (uss.map upT)) (.tuple (uss.map upT ++ uss.map upT)) t ++ rowOdds3 many ++ rowOdds4 many ((uss.map upT).getD 0 .none))).length ∧ ((rowOdds1 size (.tuple (uss.map upT)) t ++ rowOdds2 (.tuple (uss.map upT)) (.tuple (uss.map upT ++ uss.map upT)) t ++ rowOdds3 many ++ rowOdds4 many ((uss.map upT).getD 0 .none))).length ≤ 1000 := ⟨Nat.lt_of_lt_of_le (by decide : 0 < 14) (Nat.le_of_eq rfl), by show 14 ≤ 1000; decide⟩
    generalize eod : (rowOdds1 size (.tuple (uss.map upT)) t ++ rowOdds2 (.tuple (uss.map upT)) (.tuple (uss.map upT ++ uss.map upT)) t ++ rowOdds3 many ++ rowOdds4 many ((uss.map upT).getD 0 .none)) = ods at d13 obad olen
    show tSeq _ _ _ [some (.ref pp), some (.ref g), some (.int size), some (.int (many : Nat)), some (.int (at_ : Nat)), some (.str z), some (.str r), some y2, some (.int (spot : Nat)), some v9, some v13, none, none, none] H8
    refine ⟨Z, ρc (ρc ρ0 7 (.list rows)) 8 (.int (spot : Nat)), .list (rows.take spot), P8.some, (us0.add rfl w28).add rfl (.int _), ?_, fun vA HA sA dA => ?_⟩
    · show some (PyData.list (cutD rows none (some (spot : Int)))) = _
      rw [cutD_to]
    refine ⟨Z, ρc ρ0 10 (.list ods), ods, pp, rfl, P8.same sA, us0.add rfl (d13.fr (Fm.of sA)), rfl, olen.1, olen.2, fun vc odd HB mB PB kB dB => ?_⟩
    refine ⟨by show 1 ≤ sizeLine; decide, fun l nl => ?_⟩
    have sl : Same HB (upd HB l (.lst [vc])) := Same.new nl
    have el : (upd HB l (.lst [vc])) l = some (.lst [vc]) := upd_same
    generalize upd HB l (.lst [vc]) = HB2 at sl el ⊢
    obtain ⟨aA, xsA, rfl, hA, zA, xA⟩ := dA.lstOf
    have hA2 := sl _ _ (kB _ _ hA (fun e => zA (e ▸ P0.zp)))
    have xA2 := (xA.fr (kB.frz P0.zp)).fr (Fm.of sl)
    have lA := xA2.len
    rw [List.length_take] at lA
    refine ⟨aA, l, xsA, [vc], rfl, rfl, hA2, el, Nat.le_trans (show xsA.length + 1 ≤ 1000 by omega) (by decide), fun p np => ?_⟩
    have sp : Same HB2 (upd HB2 p (.lst (xsA ++ [vc]))) := Same.new np
    have ep : (upd HB2 p (.lst (xsA ++ [vc]))) p = some (.lst (xsA ++ [vc])) := upd_same
    generalize upd HB2 p (.lst (xsA ++ [vc])) = HC at sp ep ⊢
    have kC : Keep pp H8 HC := ((Same.keep sA).trans kB).trans (Same.keep (sl.trans sp))
    have PC := PB.same (sl.trans sp)
    have w2C := w28.fr (kC.frz P0.zp)
    refine ⟨Z, ρc (ρc ρ0 7 (.list rows)) 8 (.int (spot : Nat)), .list (rows.drop spot), PC.some, (us0.add rfl w2C).add rfl (.int _), ?_, fun vD HD sD dD => ?_⟩
    · show some (PyData.list (cutD rows (some (spot : Int)) none)) = _
      rw [cutD_from]
    obtain ⟨aD, xsD, rfl, hD, zD, xD⟩ := dD.lstOf
    have lD := xD.len
    rw [List.length_drop] at lD
    refine ⟨p, aD, xsA ++ [vc], xsD, rfl, rfl, sD _ _ ep, hD, Nat.le_trans (show (xsA ++ [vc]).length + xsD.length ≤ 1000 by rw [List.length_append]; show xsA.length + 1 + xsD.length ≤ 1000; omega) (by decide), fun p2 np2 => ⟨_, rfl, _, _, rfl, ?_⟩⟩
    show tSeq _ _ _ [some (.ref pp), some (.ref g), some (.int size), some (.int (many : Nat)), some (.int (at_ : Nat)), some (.str z), some (.str r), some y2, some (.int (spot : Nat)), some v9, some v13, some (.ref p2), some (.int (spot : Nat)), none] _
    have s2' : Same HD (upd HD p2 (.lst (xsA ++ [vc] ++ xsD))) := Same.new np2
    have sB : Same HB HD := (sl.trans sp).trans sD
    have dE : Dt Z (upd HD p2 (.lst (xsA ++ [vc] ++ xsD))) (.ref p2) (.list (rows.take spot ++ [odd] ++ rows.drop spot)) :=
      .lst upd_same (zp_new (some_ne PC.some sD) np2) (DtAll.fr (((xA2.fr (Fm.of (sp.trans sD))).append (.one (dB.fr (Fm.of sB)))).append xD) (Fm.of s2'))
    have PE := PC.same (sD.trans s2')
    have kE := (k08.trans kC).trans (Same.keep (sD.trans s2'))
    have w2E := w2C.fr (Fm.of (sD.trans s2'))
    generalize upd HD p2 (.lst (xsA ++ [vc] ++ xsD)) = HE at dE PE kE w2E ⊢
    refine ⟨Z, ρ0, 4, pp, rfl, PE, us0, rfl, by decide, by decide, fun way HF lF PF kF => ?_⟩
    show tSeq _ _ _ [some (.ref pp), some (.ref g), some (.int size), some (.int (many : Nat)), some (.int (at_ : Nat)), some (.str z), some (.str r), some y2, some (.int (spot : Nat)), some v9, some v13, some (.ref p2), some (.int (spot : Nat)), some (.int (way : Nat))] HF
    have kF0 := kE.trans kF
    have dF := dE.fr (kF.frz P0.zp)
    have w2F := w2E.fr (kF.frz P0.zp)
    refine ⟨_, rfl, rfl, _, rfl, ite2 (fun c => ?_) (fun c => ?_)⟩
    · have w0 : way = 0 := by
        have := of_decide_eq_true c
        injection this with this
        omega
      subst w0
      obtain ⟨rs, ers⟩ : ∃ rs, rows[spot]? = some rs := ⟨_, List.getElem?_eq_getElem (by omega)⟩
      have mrs := List.mem_of_getElem? ers
      refine ⟨Z, ρc (ρc ρ0 7 (.list rows)) 8 (.int (spot : Nat)), .list (rows ++ [rs]), PF.some, (us0.add rfl w2F).add rfl (.int _), ?_, fun vG HG sG dG => ?_⟩
      · show catL (some (.list rows)) ((consE (atI rows (spot : Nat)) (some [])).map PyData.list) = _
        rw [atI_nat ers]
        exact catL_of (by show rows.length + 1 ≤ 1000; omega)
      refine ⟨Z, ρc ρ0 7 (.list rows), .int (rows.length : Nat), some_ne PF.some sG, us0.add rfl (w2F.fr (Fm.of sG)), rfl, fun vL HL sL dL => ?_⟩
      cases dL
      refine ⟨_, _, rfl, ?_⟩
      refine ⟨_, rfl, rfl, _, rfl, iteN (vne (by decide)) ?_⟩
      have PL := PF.same (sG.trans sL)
      have kL := kF0.trans (Same.keep (sG.trans sL))
      refine ⟨Z, ρc (ρc (ρc (ρc (ρc (ρc ρ0 1 (.list modes)) 4 (.int (at_ : Nat))) 5 (.str z)) 6 (.str r)) 11 (.list (rows ++ [rs]))) 12 (.int (rows.length : Nat)), .list [.list (modes.take at_ ++ [.tuple [.str z, .str r, .list (rows ++ [rs])]] ++ modes.drop (at_ + 1)), .list [.str "row", .str z, .int (rows.length : Nat)]], PL.some, (((((us0.add rfl (hg.fr (kL.frz P0.zp))).add rfl (.int _)).add rfl (.str _)).add rfl (.str _)).add rfl (dG.fr (Fm.of sL))).add rfl (.int _), ?_, fun v H' s d => q v H' _ _ (PL.same s) (kL.trans (Same.keep s)) d ⟨z, rows.length, rfl, mz, DR.badRows em (wrongRow_dup wn mrs), sz_put DR.sz2 (by omega) (sz_mode mz hr5 (by rw [List.length_append]; show rows.length + 1 ≤ 1000; omega) (fun x hx => (List.mem_append.mp hx).elim (szr x) fun hx => by rw [List.mem_singleton.mp hx]; exact szr rs mrs)) _ _⟩⟩
      show (consE (catL (catL (some (.list (cutD modes none (some (at_ : Int))))) (some (.list [.tuple [.str z, .str r, .list (rows ++ [rs])]]))) (some (.list (cutD modes (some ((at_ : Int) + 1)) none)))) _).map PyData.list = _
      rw [cutD_to, show ((at_ : Int) + 1) = ((at_ + 1 : Nat) : Int) by omega, cutD_from, catL_of (by simp only [List.length_take, List.length_cons, List.length_nil]; omega), catL_of (by simp only [List.length_append, List.length_take, List.length_drop, List.length_cons, List.length_nil]; omega)]
      rfl
    refine ⟨_, rfl, rfl, _, rfl, ite2 (fun c => ?_) (fun c => ?_)⟩
    · refine ⟨Z, ρc ρ0 7 (.list rows), .list ini, PF.some, us0.add rfl w2F, ?_, fun vG HG sG dG => ?_⟩
      · show some (PyData.list (cutD rows none (some (-1)))) = _
        rw [erows, cutD_but]
      refine ⟨Z, ρc ρ0 7 (.list rows), .int ((rows.length : Nat) - 1), some_ne PF.some sG, us0.add rfl (w2F.fr (Fm.of sG)), rfl, fun vL HL sL dL => ?_⟩
      cases dL
      refine ⟨_, _, rfl, ?_⟩
      have PL := PF.same (sG.trans sL)
      have kL := kF0.trans (Same.keep (sG.trans sL))
      rw [show (((rows.length : Nat) : Int) - 1) = ((ini.length : Nat) : Int) by omega]
      refine ⟨Z, ρc (ρc (ρc (ρc (ρc (ρc ρ0 1 (.list modes)) 4 (.int (at_ : Nat))) 5 (.str z)) 6 (.str r)) 11 (.list ini)) 12 (.int (ini.length : Nat)), .list [.list (modes.take at_ ++ [.tuple [.str z, .str r, .list ini]] ++ modes.drop (at_ + 1)), .list [.str "row", .str z, .int (ini.length : Nat)]], PL.some, (((((us0.add rfl (hg.fr (kL.frz P0.zp))).add rfl (.int _)).add rfl (.str _)).add rfl (.str _)).add rfl (dG.fr (Fm.of sL))).add rfl (.int _), ?_, fun v H' s d => q v H' _ _ (PL.same s) (kL.trans (Same.keep s)) d ⟨z, ini.length, rfl, mz, DR.badRows em (wrongRow_less (by rw [← erows]; exact wn) kl0), sz_put DR.sz2 (by omega) (sz_mode mz hr5 (by omega) (fun x hx => szr x (by rw [erows]; exact List.mem_append_left _ hx))) _ _⟩⟩
      show (consE (catL (catL (some (.list (cutD modes none (some (at_ : Int))))) (some (.list [.tuple [.str z, .str r, .list ini]]))) (some (.list (cutD modes (some ((at_ : Int) + 1)) none)))) _).map PyData.list = _
      rw [cutD_to, show ((at_ : Int) + 1) = ((at_ + 1 : Nat) : Int) by omega, cutD_from, catL_of (by simp only [List.length_take, List.length_cons, List.length_nil]; omega), catL_of (by simp only [List.length_append, List.length_take, List.length_drop, List.length_cons, List.length_nil]; omega)]
      rfl
    refine ⟨Z, ρc (ρc (ρc (ρc (ρc (ρc ρ0 1 (.list modes)) 4 (.int (at_ : Nat))) 5 (.str z)) 6 (.str r)) 11 (.list (rows.take spot ++ [odd] ++ rows.drop spot))) 12 (.int (spot : Nat)), .list [.list (modes.take at_ ++ [.tuple [.str z, .str r, .list (rows.take spot ++ [odd] ++ rows.drop spot)]] ++ modes.drop (at_ + 1)), .list [.str "row", .str z, .int (spot : Nat)]], PF.some, (((((us0.add rfl (hg.fr (kF0.frz P0.zp))).add rfl (.int _)).add rfl (.str _)).add rfl (.str _)).add rfl dF).add rfl (.int _), ?_, fun v H' s d => q v H' _ _ (PF.same s) (kF0.trans (Same.keep s)) d ⟨z, spot, rfl, mz, DR.badRows em (by rw [List.append_assoc, List.singleton_append]; exact wrongRow_put wn (by omega) (obad odd mB).1 _), sz_put DR.sz2 (by omega) (sz_mode mz hr5 (by simp only [List.length_append, List.length_take, List.length_drop, List.length_cons, List.length_nil]; omega) (fun x hx => by
      rcases List.mem_append.mp hx with hx | hx
      · rcases List.mem_append.mp hx with hx | hx
        · exact szr x (List.mem_of_mem_take hx)
        · rw [List.mem_singleton.mp hx]
          exact (obad odd mB).2
      · exact szr x (List.mem_of_mem_drop hx))) _ _⟩⟩
    show (consE (catL (catL (some (.list (cutD modes none (some (at_ : Int))))) (some (.list [.tuple [.str z, .str r, .list (rows.take spot ++ [odd] ++ rows.drop spot)]]))) (some (.list (cutD modes (some ((at_ : Int) + 1)) none)))) _).map PyData.list = _
    rw [cutD_to, show ((at_ : Int) + 1) = ((at_ + 1 : Nat) : Int) by omega, cutD_from, catL_of (by simp only [List.length_take, List.length_cons, List.length_nil]; omega), catL_of (by simp only [List.length_append, List.length_take, List.length_drop, List.length_cons, List.length_nil]; omega)]
    rfl
end
/-! ### _law_bent -/
section
variable {X : Cx}
def empD : PyData → Bool
  | .dict [] => true
  | _ => false
def shwB (d : PyData) : Bool := (d.canLay0 || empD d) && (d.showable && (decide (d.depth + 1 ≤ 64) && (decide (d.shown.length ≤ sizeLine) && PyData.strOk d.shown)))
theorem shwB_of {d : PyData} (h : shwB d = true) : ShwD d := by
  unfold shwB at h
  simp only [Bool.and_eq_true, Bool.or_eq_true, decide_eq_true_eq] at h
  obtain ⟨a, b, c, e, _⟩ := h
  refine ⟨a.imp id fun z => ?_, b, c, e⟩
  unfold empD at z
  split at z
  · rfl
  · cases z
abbrev rprD (a : Option PyData) : Option PyData := a.bind fun d => if shwB d then some (.str d.shown) else none
theorem rprD_of {d : PyData} (h : shwB d = true) : rprD (some d) = some (.str d.shown) := if_pos h
theorem de_repr {e : Expr} {d : Env → Option PyData} {p pos : Pos} (hG : X.A.guards = some []) (hu : X.A.units + 64 < cLine) (g : Gl X "repr") (m : X.mg "repr" = none) (h : DE X e d) (st : starEach [e] X.env = (false, eval e X.env) :: starEach [] X.env := by rfl) :
    DE X (.Call (.Name "repr" p) [e] [] pos) (fun ρ => rprD (d ρ)) := PE.imp (pe_reprD hG hu g m h st) fun σ H Q ⟨Z, ρ, D, np, hu, hd, q⟩ => by
  have hd : rprD (d ρ) = some D := hd
  obtain ⟨d0, e1, e2⟩ := Option.bind_eq_some_iff.mp hd
  split at e2
  · rename_i c
    cases e2
    exact ⟨Z, ρ, d0, np, hu, e1, shwB_of c, fun H' s => q _ H' s (.str _)⟩
  · cases e2
end
section
variable {P : Program} {w : World} {K : PySem.W.Frag} {mg : Str → Option Value} {base : Heap} {aR : Addr}
abbrev s__law_bent : Stmt := top 63
abbrev N__law_bent : List Str := ["_law_pool_here", "_law_parts_here", "_law_at", "_law_size", "_law_many", "_law_odd"]
theorem sc__law_bent : FnScope N__law_bent ["_law_pool_here", "_law_parts_here", "_law_at"] (defScope s__law_bent) := ⟨rfl, rfl, rfl, by decide +kernel, rfl, by decide +kernel, by decide +kernel⟩
/-- a bent part and what is told of it, by its place -/
inductive BentA (size : Int) (many : Nat) : Nat → PyData → PyData → Prop
  | base (odd) : baseD odd = false → shwB odd = true → BentA size many 0 odd (.list [.str "base", .str odd.shown])
  | regs (odd due) : BentL regD 3 2 "registers" odd due → BentA size many 1 odd due
  | modes (odd due) : BentL modeD 4 5 "modes" odd due → BentA size many 2 odd due
  | ends (odd) : endsD odd size = false → shwB odd = true → (itemsD odd).length ≤ 1000 → BentA size many 3 odd (.list [.str "ends", .str odd.shown])
  | result (odd) : factD odd (many + 1) = false → shwB odd = true → (itemsD odd).length ≤ 1000 → BentA size many 4 odd (.list [.str "result", .str odd.shown])
def baseOdds : List PyData := [.none, .int 0, .int 1, .int (-1), .int 11, .int (-11), .bool true, .str "10", .list [.int 10]]
theorem baseOdds_bad : (baseOdds.all fun d => !baseD d && shwB d) = true := by decide +kernel
def endsOdds (size : Int) : List PyData := [.none, .int 0, .list [.int size], .list [.int (1 - size), .int (1 - size)], .list [.int 1, .int 0], .list [.bool true], .list [.str "0"], .dict [], .tuple [.int 0, .none], .list [.int (-size)]]
theorem endsOdds_bad {size : Int} (h2 : 2 ≤ size) (h10 : size ≤ 10) : ((endsOdds size).all fun d => !endsD d size && (shwB d && decide ((itemsD d).length ≤ 1000))) = true := by
  obtain rfl | rfl | rfl | rfl | rfl | rfl | rfl | rfl | rfl : size = 2 ∨ size = 3 ∨ size = 4 ∨ size = 5 ∨ size = 6 ∨ size = 7 ∨ size = 8 ∨ size = 9 ∨ size = 10 := by omega
  all_goals decide +kernel
def tupN (k : Nat) (x : PyData) : PyData := .tuple (List.replicate k [x]).flatten
def resOdds (many : Nat) : List PyData := [.none, .int 5, .list (List.replicate (many + 1) [PyData.int 0]).flatten, tupN many (.int 0), tupN (many + 2) (.int 0), tupN (many + 1) (.int (10 ^ 6 + 1)), tupN (many + 1) (.bool true), tupN (many + 1) (.str "0")]
theorem resOdds_bad {many : Nat} (h1 : 1 ≤ many) (h3 : many ≤ 3) : ((resOdds many).all fun d => !factD d (many + 1) && (shwB d && decide ((itemsD d).length ≤ 1000))) = true := by
  obtain rfl | rfl | rfl : many = 1 ∨ many = 2 ∨ many = 3 := by omega
  all_goals decide +kernel
def spBent : Sp := fun vs H Q _ => ∃ Z pp a at_ b size many zs regs modes ends goal, vs = [.ref pp, .ref a, .int (at_ : Nat)] ∧ at_ < 5 ∧ many ≤ 2 ∧ PoolZ Z H pp ∧ Dt Z H (.ref a) (.list [.int b, .list regs, .list modes, .list ends, .tuple goal]) ∧ Drawn size b many zs regs modes ends goal ∧
  ∀ v H' odd due, PoolZ Z H' pp → Keep pp H H' → Dt Z H' v (.list [odd, due]) → BentA size many at_ odd due → Q v H'
theorem okG__law_bent {f : Addr} {fd : FuncData} (F : Fun K "_law_bent" "_law_bent" s__law_bent f fd) (T : Txt K mg aR) (O__law_choose : Ok P w K mg base 2 "_law_choose" ["_law_pool_here", "_law_items"] (spChoose K)) (O__law_bent_registers : Ok P w K mg base 3 "_law_bent_registers" ["_law_pool_here", "_law_good"] spBentRegs)
    (O__law_bent_modes : Ok P w K mg base 3 "_law_bent_modes" ["_law_pool_here", "_law_good"] spBentModes) : FnG P w K mg base CX0 4 f fd ["_law_pool_here", "_law_parts_here", "_law_at"] spBent := by
  refine Fun.okG F sc__law_bent (fun vs H Q E h => ?_) (fun cdv A outer s0 H vs Q E hG hr h => ?_)
  · obtain ⟨Z, pp, a, at_, b, size, many, zs, regs, modes, ends, goal, rfl, _⟩ := h
    rfl
  · obtain ⟨Z, pp, a, at_, b, size, many, zs, regs, modes, ends, goal, rfl, l5, m2, P0, dv, DR, q⟩ := h
    have hu : (cxOf CX0 P w K mg base N__law_bent "_law_bent" (defScope s__law_bent) f cdv A outer s0 H E).A.units + 64 < cLine := hr.units
    have hb : (if b < 0 then -b else b) = size := by
      have := DR.s0
      rcases DR.b with rfl | rfl
      · rw [if_neg (by omega)]
      · rw [if_pos (by omega), Int.neg_neg]
    have P1 := P0
    have m1 := DR.m0
    have LR := DR.lr
    have ml : modes.length ≤ 3 := by
      rw [DR.lm]
      obtain ⟨k, e⟩ := DR.z
      rw [e, List.length_take]
      exact Nat.min_le_right _ _
    have m01 : 1 ≤ modes.length := by rw [DR.lm]; exact DR.z0
    refine ⟨_, (pss_cons (ps_par (by rfl) sc__law_bent.nd (i := 3) (j := 4) rfl rfl (by decide) rfl rfl (pa_cons (pe_callB call_abs (by rfl) T.abs bb_abs (pa_cons (de_ixL (de_pv (pv 1)) de_int) pa_nil)) (pa_cons (de_len (by rfl) T.len (de_ixL (de_pv (pv 1)) de_int)) pa_nil)) (by rfl)) (pss_cons (ps_if (pt_cmpR op_eq (pv 2) pe_int (nomark _)) (pss_cons (ps_set (i := 5) sc__law_bent.nd rfl (.inl rfl) (PE.imp (pe_cO O__law_choose (hr.mono (by decide)) pass0 rfl (pa_cons (pv 0) (pa_cons (de_lst (da_cons de_non (da_cons de_int (da_cons de_int (da_cons (de_neg de_int) (da_cons de_int (da_cons (de_neg de_int) (da_cons de_bl (da_cons de_str (da_cons (de_lst (da_cons de_int da_nil)) da_nil)))))))))) pa_nil))) (fun _ _ _ => tch_of))) (pss_one (ps_ret (de_lst (da_cons (de_pv (pv 5)) (da_cons (de_lst (da_cons de_str (da_cons (de_repr hG hu (by rfl) T.repr (de_pv (pv 5))) da_nil))) da_nil)))))) pss_nil) (pss_cons (ps_if (pt_cmpR op_eq (pv 2) pe_int (nomark _)) (pss_one (ps_ret (pe_cO O__law_bent_registers (hr.mono (by decide)) pass0 rfl (pa_cons (pv 0) (pa_cons (de_ixL (de_pv (pv 1)) de_int) pa_nil))))) pss_nil) (pss_cons (ps_if (pt_cmpR op_eq (pv 2) pe_int (nomark _)) (pss_one (ps_ret (pe_cO O__law_bent_modes (hr.mono (by decide)) pass0 rfl (pa_cons (pv 0) (pa_cons (de_ixL (de_pv (pv 1)) de_int) pa_nil))))) pss_nil) (pss_cons (ps_if (pt_cmpR op_eq (pv 2) pe_int (nomark _)) (pss_cons (ps_set (i := 5) sc__law_bent.nd rfl (.inl rfl) (PE.imp (pe_cO O__law_choose (hr.mono (by decide)) pass0 rfl (pa_cons (pv 0) (pa_cons (de_lst (da_cons de_non (da_cons de_int (da_cons (de_lst (da_cons (de_pv (pv 3)) da_nil)) (da_cons (de_lst (da_cons (de_i2 op_sub de_int (de_pv (pv 3))) (da_cons (de_i2 op_sub de_int (de_pv (pv 3))) da_nil))) (da_cons (de_lst (da_cons de_int (da_cons de_int da_nil))) (da_cons (de_lst (da_cons de_bl da_nil)) (da_cons (de_lst (da_cons de_str da_nil)) (da_cons de_dic (da_cons (de_tup (da_cons de_int (da_cons de_non da_nil))) (da_cons (de_lst (da_cons (de_neg (de_pv (pv 3))) da_nil)) da_nil))))))))))) pa_nil))) (fun _ _ _ => tch_of))) (pss_one (ps_ret (de_lst (da_cons (de_pv (pv 5)) (da_cons (de_lst (da_cons de_str (da_cons (de_repr hG hu (by rfl) T.repr (de_pv (pv 5))) da_nil))) da_nil)))))) pss_nil) (pss_cons (ps_set (i := 5) sc__law_bent.nd rfl (.inl rfl) (PE.imp (pe_cO O__law_choose (hr.mono (by decide)) pass0 rfl (pa_cons (pv 0) (pa_cons (de_lst (da_cons de_non (da_cons de_int (da_cons (de_repL (de_lst (da_cons de_int da_nil)) (de_i2 op_add (de_pv (pv 4)) de_int)) (da_cons (de_repT (de_tup (da_cons de_int da_nil)) (de_pv (pv 4))) (da_cons (de_repT (de_tup (da_cons de_int da_nil)) (de_i2 op_add (de_pv (pv 4)) de_int)) (da_cons (de_repT (de_tup (da_cons (de_i2 op_add (de_pow ⟨by decide, by decide, by decide⟩) de_int) da_nil)) (de_i2 op_add (de_pv (pv 4)) de_int)) (da_cons (de_repT (de_tup (da_cons de_bl da_nil)) (de_i2 op_add (de_pv (pv 4)) de_int)) (da_cons (de_repT (de_tup (da_cons de_str da_nil)) (de_i2 op_add (de_pv (pv 4)) de_int)) da_nil))))))))) pa_nil))) (fun _ _ _ => tch_of))) (pss_one (ps_ret (de_lst (da_cons (de_pv (pv 5)) (da_cons (de_lst (da_cons de_str (da_cons (de_repr hG hu (by rfl) T.repr (de_pv (pv 5))) da_nil))) da_nil))))))))))), ?_⟩
    refine ⟨Z, ρc ρ0 1 (.list [.int b, .list regs, .list modes, .list ends, .tuple goal]), .int b, P0.some, us0.add rfl dv, rfl, fun v1 H1 s1 d1 => ?_⟩
    cases d1
    refine ⟨_, rfl, Z, ρc ρ0 1 (.list [.int b, .list regs, .list modes, .list ends, .tuple goal]), .int (regs.length : Nat), some_ne P0.some s1, us0.add rfl (dv.fr (Fm.of s1)), rfl, fun v2 H2 s2 d2 => ?_⟩
    cases d2
    refine ⟨_, _, rfl, ?_⟩
    rw [hb, LR]
    show tSeq _ _ _ [some (.ref pp), some (.ref a), some (.int (at_ : Nat)), some (.int size), some (.int (many : Nat)), none] H2
    have P2 := P0.same (s1.trans s2)
    have k2 := Same.keep (s1.trans s2) (pp := pp)
    have dv2 := dv.fr (Fm.of (s1.trans s2))
    refine ⟨_, rfl, rfl, _, rfl, ite2 (fun c => ?_) (fun c => ?_)⟩
    · have w0 : at_ = 0 := by
        have := of_decide_eq_true c
        injection this with this
        omega
      subst w0
      refine ⟨Z, ρ0, baseOdds, pp, rfl, P2, us0, rfl, by decide, by decide, fun v3 odd H3 m3 P3 k3 d3 => ?_⟩
      have z := List.all_eq_true.mp baseOdds_bad odd m3
      simp only [Bool.and_eq_true, Bool.not_eq_true'] at z
      refine ⟨Z, ρc ρ0 5 odd, .list [odd, .list [.str "base", .str odd.shown]], P3.some, us0.add rfl d3, ?_, fun v H' s d => q v H' _ _ (P3.same s) (k2.trans (k3.trans (Same.keep s))) d (.base odd z.1 z.2)⟩
      show Option.map PyData.list (consE (some odd) (consE (Option.map PyData.list (consE (some (.str "base")) (consE (rprD (some odd)) (some [])))) (some []))) = _
      rw [rprD_of z.2]
      rfl
    have n0 : at_ ≠ 0 := fun e => by subst e; exact c (by rfl)
    refine ⟨_, rfl, rfl, _, rfl, ite2 (fun c => ?_) (fun c => ?_)⟩
    · have w0 : at_ = 1 := by
        have := of_decide_eq_true c
        injection this with this
        omega
      subst w0
      refine ⟨_, rfl, Z, ρc ρ0 1 (.list [.int b, .list regs, .list modes, .list ends, .tuple goal]), .list regs, P2.some, us0.add rfl dv2, rfl, fun v3 H3 s3 d3 => ?_⟩
      obtain ⟨g3, xs3, rfl, _⟩ := d3.lstOf
      exact ⟨Z, pp, g3, regs, rfl, P2.same s3, d3, ⟨by omega, by omega, partsD_wrong DR.ok.regs, DR.sz1⟩, fun v H' odd due P' k' d' hbb => q v H' odd due P' (k2.trans ((Same.keep s3).trans k')) d' (.regs _ _ hbb)⟩
    have n1 : at_ ≠ 1 := fun e => by subst e; exact c (by rfl)
    refine ⟨_, rfl, rfl, _, rfl, ite2 (fun c => ?_) (fun c => ?_)⟩
    · have w0 : at_ = 2 := by
        have := of_decide_eq_true c
        injection this with this
        omega
      subst w0
      refine ⟨_, rfl, Z, ρc ρ0 1 (.list [.int b, .list regs, .list modes, .list ends, .tuple goal]), .list modes, P2.some, us0.add rfl dv2, rfl, fun v3 H3 s3 d3 => ?_⟩
      obtain ⟨g3, xs3, rfl, _⟩ := d3.lstOf
      exact ⟨Z, pp, g3, modes, rfl, P2.same s3, d3, ⟨by omega, by omega, partsD_wrong DR.ok.modes, DR.sz2⟩, fun v H' odd due P' k' d' hbb => q v H' odd due P' (k2.trans ((Same.keep s3).trans k')) d' (.modes _ _ hbb)⟩
    have n2 : at_ ≠ 2 := fun e => by subst e; exact c (by rfl)
    refine ⟨_, rfl, rfl, _, rfl, ite2 (fun c => ?_) (fun c => ?_)⟩
    · have w0 : at_ = 3 := by
        have := of_decide_eq_true c
        injection this with this
        omega
      subst w0
      refine ⟨Z, ρc ρ0 3 (.int size), endsOdds size, pp, rfl, P2, us0.add rfl (.int _), rfl, by show 0 < 10; decide, by show 10 ≤ 1000; decide, fun v3 odd H3 m3 P3 k3 d3 => ?_⟩
      have z := List.all_eq_true.mp (endsOdds_bad DR.s0 DR.s1) odd m3
      simp only [Bool.and_eq_true, Bool.not_eq_true', decide_eq_true_eq] at z
      refine ⟨Z, ρc ρ0 5 odd, .list [odd, .list [.str "ends", .str odd.shown]], P3.some, us0.add rfl d3, ?_, fun v H' s d => q v H' _ _ (P3.same s) (k2.trans (k3.trans (Same.keep s))) d (.ends odd z.1 z.2.1 z.2.2)⟩
      show Option.map PyData.list (consE (some odd) (consE (Option.map PyData.list (consE (some (.str "ends")) (consE (rprD (some odd)) (some [])))) (some []))) = _
      rw [rprD_of z.2.1]
      rfl
    have n3 : at_ ≠ 3 := fun e => by subst e; exact c (by rfl)
    obtain rfl : at_ = 4 := by omega
    refine ⟨Z, ρc ρ0 4 (.int (many : Nat)), resOdds many, pp, rfl, P2, us0.add rfl (.int _), ?_, by show 0 < 8; decide, by show 8 ≤ 1000; decide, fun v3 odd H3 m3 P3 k3 d3 => ?_⟩
    · obtain rfl | rfl : many = 1 ∨ many = 2 := by omega
      · rfl
      · rfl
    have z := List.all_eq_true.mp (resOdds_bad DR.m0 DR.m1) odd m3
    simp only [Bool.and_eq_true, Bool.not_eq_true', decide_eq_true_eq] at z
    refine ⟨Z, ρc ρ0 5 odd, .list [odd, .list [.str "result", .str odd.shown]], P3.some, us0.add rfl d3, ?_, fun v H' s d => q v H' _ _ (P3.same s) (k2.trans (k3.trans (Same.keep s))) d (.result odd z.1 z.2.1 z.2.2)⟩
    show Option.map PyData.list (consE (some odd) (consE (Option.map PyData.list (consE (some (.str "result")) (consE (rprD (some odd)) (some [])))) (some []))) = _
    rw [rprD_of z.2.1]
    rfl
end
/-! ### a program stays where lists change (behind p22's lemmas) -/
section
variable {P : Program} {w : World} {CP : Addr}
theorem pr_mem {α β : Type} {F : α → β → Prop} : ∀ {l : List α} {m : List β}, Paired F l m → Paired (fun a b => F a b ∧ a ∈ l ∧ b ∈ m) l m
  | _, _, .nil => .nil
  | _, _, .cons h t => .cons ⟨h, List.mem_cons_self, List.mem_cons_self⟩ (L2.Paired.mapP (pr_mem t) fun a b z => ⟨z.1, List.mem_cons_of_mem _ z.2.1, List.mem_cons_of_mem _ z.2.2⟩)
theorem ProgOk.keepL {Z : Addr → Prop} {H H' : Hp} {p : Addr} {b : Int} {d1 d2 d3 d4 : PyData} (h : ProgOk P w CP H p b d1 d2 d3 d4) (n : ∀ q, Z q → ∃ xs, H q = some (.lst xs)) (f : Fm Z H H') : ProgOk P w CP H' p b d1 d2 d3 d4 := by
  obtain ⟨⟨dx, vr, vm, ve, va, vt, e, a1, a2, a3, a4, kvs, at_k, pr⟩, PO, z1, z2⟩ := h
  have go : ∀ {q : Addr} {o : HO}, H q = some o → (∀ xs, o ≠ .lst xs) → H' q = some o := fun {q o} g k => f q o g fun z => by
    obtain ⟨xs, l⟩ := n q z
    rw [g] at l
    exact k xs (Option.some.inj l)
  have up : ∀ {v : V} {d : PyData}, noL d = true → Dt Z0 H v d → Dt Z0 H' v d := fun l d => ((d.offL n l).fr f).z0
  obtain ⟨_, _, all2⟩ := partsD_all PO.modes
  refine ⟨⟨dx, vr, vm, ve, va, vt, go e (fun _ h => by cases h), up (by unfold noL; exact PO.regsNoL) a1, up (by
    unfold noL
    refine noLs_all fun x hx => ?_
    obtain ⟨md, hm, rfl⟩ := List.mem_map.mp hx
    have mk := all2 md hm
    have h0 : noL (itD md 0) = true := by rw [modeD_name mk]; exact str_noL
    have h1 := ruleD_noL (modeD_rule mk)
    have h2 : noL (.tuple (itemsD (itD md 2))) = true := by unfold noL; exact PO.rowNoL hm
    unfold normM noL noLs noLs noLs noLs
    rw [h0, h1, h2]
    rfl) a2, up (by unfold noL; exact PO.endsNoL) a3, up PO.resNoL a4, kvs, go at_k (fun _ h => by cases h), ?_⟩, PO, z1, z2⟩
  have nol : ∀ md ∈ itemsD d2, ∀ r ∈ itemsD (itD md 2), noL (valD r) = true := fun md hm r hr => by
    have rd := (wrongRow_rows (rowsErr_none PO.rows md hm)).1 r hr
    unfold rowD at rd
    simp only [Bool.and_eq_true] at rd
    obtain ⟨_, _, _, h1, h2⟩ := rd
    have e3 : noL (itD r 3) = true := by
      revert h2
      cases itD r 3 <;> intro h2 <;> first | (simp [noL]; done) | cases h2
    unfold valD noL noLs noLs noLs
    rw [upsD_noL h1, e3]
    rfl
  refine L2.Paired.mapP (pr_mem pr) fun md kv z => ?_
  obtain ⟨⟨e1, D, e2, kbs, ⟨t1, t2⟩, p2⟩, mm, _⟩ := z
  refine ⟨e1, D, e2, kbs, ⟨go t1 (fun _ h => by cases h), fun x hx => go (t2 x hx) (fun _ h => by cases h)⟩, ?_⟩
  exact L2.Paired.mapP (pr_mem p2) fun r x z => ⟨z.1.1, up (nol md mm r z.2.1) z.1.2⟩
theorem ProgOk.keepP {H H' : Hp} {pp p : Addr} {b : Int} {d1 d2 d3 d4 : PyData} (h : ProgOk P w CP H p b d1 d2 d3 d4) (Pl : PoolAt H pp) (k : Keep pp H H') : ProgOk P w CP H' p b d1 d2 d3 d4 := h.keepL (Z := Zp pp) (fun q z => by
  obtain ⟨c, s, _, _, e⟩ := Pl
  exact ⟨_, by rw [show q = pp from z]; exact e⟩) k.fr
end
/-! ### what stays when lambdas are made -/
section
open LamX
theorem ExtN.same {H H' : Hp} (e : Same H H') : ExtN H H' := fun b o h _ => e b o h
mutual
theorem Dt.extN' {Z : Addr → Prop} {H H' : Hp} (s : ExtN H H') {v : V} {d : PyData} (h : Dt Z H v d) : Dt Z H' v d :=
  match h with
  | .non => .non
  | .bl b => .bl b
  | .int i => .int i
  | .str x => .str x
  | .lst e n t => .lst (s _ _ e (fun ps z => by cases z)) n (DtAll.extN' s t)
  | .tup e n t => .tup (s _ _ e (fun ps z => by cases z)) n (DtAll.extN' s t)
  | .emp e n => .emp (s _ _ e (fun ps z => by cases z)) n
theorem DtAll.extN' {Z : Addr → Prop} {H H' : Hp} (s : ExtN H H') {vs : List V} {ds : List PyData} (h : DtAll Z H vs ds) : DtAll Z H' vs ds :=
  match h with
  | .nil => .nil
  | .cons a b => .cons (Dt.extN' s a) (DtAll.extN' s b)
end
theorem Dt.extN {Z : Addr → Prop} {H H' : Hp} {v : V} {d : PyData} (h : Dt Z H v d) (s : ExtN H H') : Dt Z H' v d := Dt.extN' s h
variable {P : Program} {w : World} {CP : Addr}
theorem TabR.extN {H H' : Hp} {D : Addr} {rs : List PyData} (t : TabR P w H D rs) (s : ExtN H H') : TabR P w H' D rs := by
  obtain ⟨kbs, ⟨a, b⟩, c⟩ := t
  exact ⟨kbs, ⟨s _ _ a (fun ps z => by cases z), fun x hx => s _ _ (b x hx) (fun ps z => by cases z)⟩, L2.Paired.mapP c fun p q z => ⟨z.1, z.2.extN s⟩⟩
theorem ProgAt.extN {H H' : Hp} {p : Addr} {b : Int} {d1 d2 d3 d4 : PyData} (h : ProgAt P w CP H p b d1 d2 d3 d4) (s : ExtN H H') : ProgAt P w CP H' p b d1 d2 d3 d4 := by
  obtain ⟨dx, vr, vm, ve, va, vt, e, g1, g2, g3, g4, kvs, ek, pk⟩ := h
  exact ⟨dx, vr, vm, ve, va, vt, s _ _ e (fun ps z => by cases z), g1.extN s, g2.extN s, g3.extN s, g4.extN s, kvs, s _ _ ek (fun ps z => by cases z), L2.Paired.mapP pk fun md kv z => ⟨z.1, by
    obtain ⟨D, e1, t⟩ := z.2
    exact ⟨D, e1, t.extN s⟩⟩⟩
theorem ProgOk.extN {H H' : Hp} {p : Addr} {b : Int} {d1 d2 d3 d4 : PyData} (h : ProgOk P w CP H p b d1 d2 d3 d4) (s : ExtN H H') : ProgOk P w CP H' p b d1 d2 d3 d4 := ⟨h.1.extN s, h.2⟩
theorem ProgOk.same {H H' : Hp} {p : Addr} {b : Int} {d1 d2 d3 d4 : PyData} (h : ProgOk P w CP H p b d1 d2 d3 d4) (s : Same H H') : ProgOk P w CP H' p b d1 d2 d3 d4 := ⟨h.1.same s, h.2⟩
theorem PoolAt.extN {H H' : Hp} {pp : Addr} (h : PoolAt H pp) (s : ExtN H H') : PoolAt H' pp := by
  obtain ⟨c, x, a, b, e⟩ := h
  exact ⟨c, x, a, b, s _ _ e (fun ps z => by cases z)⟩
theorem lamF_ext {X : Cx} {f c' : Addr} {G G' : Hp} {params : Arguments} {body : Expr} {scope : Scope} (h : LamF X f params body scope c' G) (e : ExtN G G') : LamF X f params body scope c' G' := ⟨e _ _ h.1 (fun ps => lamO_tbl ps), e _ _ h.2 (fun ps => codeO_ne ps)⟩
theorem lamF_but {X : Cx} {f c' z : Addr} {G G' : Hp} {params : Arguments} {body : Expr} {scope : Scope} {xs : List V} (h : LamF X f params body scope c' G) (l : G z = some (.lst xs)) (k : ∀ b o, G b = some o → b ≠ z → G' b = some o) : LamF X f params body scope c' G' :=
  ⟨k _ _ h.1 (fun m => by
    have e := h.1
    rw [m, l] at e
    have e2 := Option.some.inj e
    unfold LamO at e2
    cases e2), k _ _ h.2 (fun m => by
    have e := h.2
    rw [m, l] at e
    have e2 := Option.some.inj e
    unfold CodeO at e2
    cases e2)⟩
theorem Tabs.but {T : List (Addr × Str)} {H H' : Hp} {pp : Addr} {xs : List V} (t : Tabs T H) (h : H pp = some (.lst xs)) (k : ∀ b o, H b = some o → b ≠ pp → H' b = some o) : Tabs T H' := fun p hp => by
  obtain ⟨ps, a1, a2, a3⟩ := t p hp
  refine ⟨ps, k _ _ a1 (fun m => by rw [m, h] at a1; cases a1), a2, fun pos cv hc => ?_⟩
  obtain ⟨c0, e1, e2⟩ := a3 pos cv hc
  exact ⟨c0, e1, k _ _ e2 (fun m => by rw [m, h] at e2; exact absurd (Option.some.inj e2) (fun z => by unfold CodeO at z; cases z))⟩
theorem Tabs.pool {T : List (Addr × Str)} {H H' : Hp} {pp : Addr} (t : Tabs T H) (P : PoolAt H pp) (k : Keep pp H H') : Tabs T H' := by
  obtain ⟨c, x, _, _, e⟩ := P
  exact Tabs.but t e k
end
section
def OwnIx (P : Program) (w : World) (K : PySem.W.Frag) (mg : Str → Option Value) (base : Heap) (C : Addr) (k : Nat) (ps : List Str) (sp : Sp) : Prop := ∃ f fd, PySem.W.findIn K (.ref C) "__getitem__" = some (some (.ref f)) ∧ PySem.W.fnIn K f = true ∧ PySem.W.isFn K (.ref f) = true ∧ Binds K fd ps [] ∧ FnOk P w K mg base (L2.CX P w) k f fd ps sp
theorem pe_ixO {X : Cx} {C : Addr} {k : Nat} {ps : List Str} {sp : Sp} {E : XK} {a b : Expr} {ta tb : TE} {pos : Pos} (ha : PE X a ta) (hb : PE X b tb) (m : OwnIx X.prog X.w X.K X.mg X.base C k ps sp) (hr : Room (k + 1) X.A) (hx : Passes (L2.CX X.prog X.w) X E)
    (hsl : ∀ v u : Value, subscripted b true v u = runValue (.builtin "lifetime.subscript" ⟨[v, u], []⟩) := by intro _ _; with_unfolding_all rfl) : PE X (.Subscript a b pos) (tOp (rIxOwn C sp E) ta tb) := by
  obtain ⟨f, fd, h1, h2, h3, h4, F⟩ := m
  exact pe_ixOwn ha hb F hr h4 hx h1 h2 h3 hsl
end
/-! ### _law_doors_right: its lambdas -/
section
open LamX
variable {P : Program} {w : World} {K : PySem.W.Frag} {mg : Str → Option Value} {base : Heap} {aR CP CU CS CN CL CI : Addr}
abbrev s__law_doors_right : Stmt := top 64
abbrev N__law_doors_right : List Str := ["_law_pool_here", "_law_one", "_law_value", "_law_due", "_law_some", "_law_call"]
theorem sc__law_doors_right : FnScope N__law_doors_right ["_law_pool_here", "_law_one"] (defScope s__law_doors_right) := ⟨rfl, rfl, rfl, by decide +kernel, rfl, by decide +kernel, by decide +kernel⟩
def noStmt : Stmt := .Pass ⟨0, 0, 0, 0⟩
def noExpr : Expr := .Name "" ⟨0, 0, 0, 0⟩
def stBody : Stmt → List Stmt
  | .For _ _ b _ _ => b
  | _ => []
def stExpr : Stmt → Expr
  | .If t _ _ _ => t
  | .Assign _ e _ => e
  | .Expr e _ => e
  | .Return (some t) _ => t
  | _ => noExpr
def cmpL : Expr → Expr
  | .Compare l _ _ _ => l
  | e => e
def subL : Expr → Expr
  | .Subscript l _ _ => l
  | e => e
def arg0 : Expr → Expr
  | .Call _ (a :: _) _ _ => a
  | .List (a :: _) _ => a
  | e => e
def lamArgs : Expr → Arguments
  | .Lambda p _ _ _ => p
  | _ => defArgs noStmt
def lamBody : Expr → Expr
  | .Lambda _ b _ _ => b
  | e => e
def lamScope : Expr → Scope
  | .Lambda _ _ s _ => s
  | _ => defScope noStmt
def drSt (i : Nat) : Stmt := (defBody s__law_doors_right).getD i noStmt
def drTurn (i : Nat) : Stmt := (stBody (drSt 0)).getD i noStmt
def lamE1 : Expr := arg0 (stExpr (drTurn 1))
def lamE2 : Expr := arg0 (stExpr (drTurn 2))
def lamE3 : Expr := arg0 (stExpr (drTurn 3))
def lamE4 : Expr := arg0 (stExpr (drTurn 4))
def lamE5 : Expr := arg0 (stExpr (drTurn 5))
def lamE6 : Expr := arg0 (subL (cmpL (stExpr (drSt 1))))
def lamE7 : Expr := arg0 (subL (cmpL (stExpr (drSt 2))))
def lamE8 : Expr := arg0 (subL (cmpL (stExpr (drSt 3))))
def lamE9 : Expr := arg0 (cmpL (stExpr (drSt 4)))
def lamE10 : Expr := arg0 (cmpL (stExpr (drSt 5)))
abbrev VX (P : Program) (w : World) (K : PySem.W.Frag) (mg : Str → Option Value) (base : Heap) (g : Addr) (cdv : Value) (A : Around) (outer : List PySem.Env) (s : Shared) (H : Hp) (E : XK) : Cx := (cxOf CX0 P w K mg base N__law_doors_right "_law_doors_right" (defScope s__law_doors_right) g cdv A outer s H E).nox
theorem passE {X : Cx} {A : Around} {outer : List PySem.Env} {s : Shared} {H : Hp} {E : XK} {scope : Scope} {f c' : Addr} : Passes (L2.CX X.prog X.w) (lamCx X A outer s H E scope f c') E := passes_call (takes_of rfl rfl rfl rfl) (fun _ _ _ _ z => z)
/-- a program in slot 1, in slot 2 a value that is no mode of it -/
def badN (P : Program) (w : World) (CP CU : Addr) : XK → TE := fun E σ H _ => ∃ (p : Addr) (v : V) (d : PyData) (b : Int) (d1 d2 d3 d4 : PyData), σ[1]? = some (some (.ref p)) ∧ σ[2]? = some (some v) ∧ ProgOk P w CP H p b d1 d2 d3 d4 ∧ Dt Z0 H v d ∧ (∀ s, d = .str s → modeOf (itemsD d2) s = none) ∧ EX1 CU "value" v E H
/-- a pool in slot 0, a program with the mode "m" in slot 1; what is drawn of the pool is refused -/
def signOdds : List PyData := [.int 2, .none, .bool true, .str "0"]
def remOdds : List PyData := [.int 10, .none, .bool true, .int (-10)]
def badS (P : Program) (w : World) (CP CS : Addr) (odds : List PyData) : XK → TE := fun E σ H _ => ∃ (pp p : Addr) (b : Int) (d1 d2 d3 d4 md : PyData), σ[0]? = some (some (.ref pp)) ∧ σ[1]? = some (some (.ref p)) ∧ PoolAt H pp ∧ ProgOk P w CP H p b d1 d2 d3 d4 ∧ modeOf (itemsD d2) "m" = some md ∧ 2 ≤ sizeD (.int b) ∧ sizeD (.int b) ≤ 10 ∧
  ∀ v d H', d ∈ odds → PoolAt H' pp → Keep pp H H' → Dt Z0 H' v d → EX1 CS "value" v E H'
/-- a program with the mode "m" in slot 1 -/
def badP (P : Program) (w : World) (CP : Addr) (X : XK → Hp → Prop) : XK → TE := fun E σ H _ => ∃ (p : Addr) (b : Int) (d1 d2 d3 d4 md : PyData), σ[1]? = some (some (.ref p)) ∧ ProgOk P w CP H p b d1 d2 d3 d4 ∧ modeOf (itemsD d2) "m" = some md ∧ X E H
def badW (P : Program) (w : World) (CP CI : Addr) : XK → TE := fun E σ H _ => ∃ (p : Addr) (b : Int) (d1 d2 d3 d4 md : PyData), σ[1]? = some (some (.ref p)) ∧ ProgOk P w CP H p b d1 d2 d3 d4 ∧ modeOf (itemsD d2) "m" = some md ∧ Sz 3 (.tuple (setRow (.tuple [.int 2, .int 0, .none, .none]) (itemsD (itD md 2)))) ∧ ∀ i : Nat, EX2 CI "mode" (.str "m") "number" (.int i) E H
variable {g : Addr} {cdv : Value} {A0 : Around} {outer0 : List PySem.Env} {s0 : Shared} {H0 : Hp} {Ex0 : XK}
def lam1 (C : PCls K mg CP) (m : OwnMeth P w K mg base CP 4 "rule_of" ["self", "mode"] (spPRuleOf P w CP CU)) : LamD (VX P w K mg base g cdv A0 outer0 s0 H0 Ex0) 11 where
  params := lamArgs lamE1
  body := lamBody lamE1
  scope := lamScope lamE1
  t := badN P w CP CU
  L := lamS_by (show lamSB (defScope s__law_doors_right) (lamScope lamE1) = true by decide +kernel)
  bare := fun _ _ _ => rfl
  bod := fun A outer s H E f c' r => PE.imp (pe_methO (E := E) (pv 1) C.cl m (r.mono (by decide)) (passE (X := VX P w K mg base g cdv A0 outer0 s0 H0 Ex0)) (pa_cons (pv 2) pa_nil)) (by
    rintro σ H Q ⟨p, v, d, b, d1, d2, d3, d4, e1, e2, PO, hv, bad, x⟩
    obtain ⟨dx, _, _, _, _, _, em, _⟩ := id PO.1
    exact ⟨_, e1, p, dx, _, rfl, em, rfl, _, e2, p, v, d, b, d1, d2, d3, d4, rfl, hv, PO, (fun s md es ms => by rw [bad s es] at ms; cases ms), fun _ => x⟩)
def lam2 (C : PCls K mg CP) (m : OwnMeth P w K mg base CP 4 "rows_of" ["self", "mode"] (spPRowsOf P w CP CU)) : LamD (VX P w K mg base g cdv A0 outer0 s0 H0 Ex0) 11 where
  params := lamArgs lamE2
  body := lamBody lamE2
  scope := lamScope lamE2
  t := badN P w CP CU
  L := lamS_by (show lamSB (defScope s__law_doors_right) (lamScope lamE2) = true by decide +kernel)
  bare := fun _ _ _ => rfl
  bod := fun A outer s H E f c' r => PE.imp (pe_methO (E := E) (pv 1) C.cl m (r.mono (by decide)) (passE (X := VX P w K mg base g cdv A0 outer0 s0 H0 Ex0)) (pa_cons (pv 2) pa_nil)) (by
    rintro σ H Q ⟨p, v, d, b, d1, d2, d3, d4, e1, e2, PO, hv, bad, x⟩
    obtain ⟨dx, _, _, _, _, _, em, _⟩ := id PO.1
    exact ⟨_, e1, p, dx, _, rfl, em, rfl, _, e2, p, v, d, b, d1, d2, d3, d4, rfl, hv, PO, (fun s md es ms => by rw [bad s es] at ms; cases ms), fun _ => x⟩)
def lam3 (m : OwnIx P w K mg base CP 4 ["self", "at"] (spPGet P w CP CU CS CN)) : LamD (VX P w K mg base g cdv A0 outer0 s0 H0 Ex0) 11 where
  params := lamArgs lamE3
  body := lamBody lamE3
  scope := lamScope lamE3
  t := badN P w CP CU
  L := lamS_by (show lamSB (defScope s__law_doors_right) (lamScope lamE3) = true by decide +kernel)
  bare := fun _ _ _ => rfl
  bod := fun A outer s H E f c' r => PE.imp (pe_ixO (E := E) (pv 1) (pe_tup (pa_cons (pv 2) (pa_cons pe_non (pa_cons pe_non pa_nil)))) m (r.mono (by decide)) (passE (X := VX P w K mg base g cdv A0 outer0 s0 H0 Ex0))) (by
    rintro σ H Q ⟨p, v, d, b, d1, d2, d3, d4, e1, e2, PO, hv, bad, x⟩
    obtain ⟨dx, _, _, _, _, _, em, _⟩ := id PO.1
    refine ⟨_, e1, _, e2, by show 3 ≤ sizeLine; decide, fun t nt => ?_⟩
    have s1 : Same H (upd H t (.tup [v, .non, .non])) := Same.new nt
    refine ⟨p, dx, _, rfl, s1 _ _ em, p, t, v, .non, .non, d, .none, .none, b, d1, d2, d3, d4, rfl, upd_same, hv.fr (Fm.of s1), .non, .non, PO.same s1, (fun s md i j row es ms => by rw [bad s es] at ms; cases ms), (fun _ => x.same s1), (fun ⟨s, md, es, ms⟩ => by rw [bad s es] at ms; cases ms), fun ⟨s, md, es, ms⟩ => by rw [bad s es] at ms; cases ms⟩)
def lam4 (C : PCls K mg CP) (m : OwnMeth P w K mg base CP 4 "with_rule" ["self", "mode", "rule"] (spPWithRule P w CP CU CL)) : LamD (VX P w K mg base g cdv A0 outer0 s0 H0 Ex0) 11 where
  params := lamArgs lamE4
  body := lamBody lamE4
  scope := lamScope lamE4
  t := badN P w CP CU
  L := lamS_by (show lamSB (defScope s__law_doors_right) (lamScope lamE4) = true by decide +kernel)
  bare := fun _ _ _ => rfl
  bod := fun A outer s H E f c' r => PE.imp (pe_methO (E := E) (pv 1) C.cl m (r.mono (by decide)) (passE (X := VX P w K mg base g cdv A0 outer0 s0 H0 Ex0)) (pa_cons (pv 2) (pa_cons pe_non pa_nil))) (by
    rintro σ H Q ⟨p, v, d, b, d1, d2, d3, d4, e1, e2, PO, hv, bad, x⟩
    obtain ⟨dx, _, _, _, _, _, em, _⟩ := id PO.1
    exact ⟨_, e1, p, dx, _, rfl, em, rfl, _, e2, p, v, .non, d, .none, b, d1, d2, d3, d4, rfl, PO, hv, .non, rfl, (fun _ => x), fun ⟨s, md, es, ms⟩ => by rw [bad s es] at ms; cases ms⟩)
def lam5 (C : PCls K mg CP) (m : OwnMeth P w K mg base CP 11 "with_row" ["self", "mode", "sign", "remainder", "updates", "then"] (spPWithRow P w CP CU CI)) : LamD (VX P w K mg base g cdv A0 outer0 s0 H0 Ex0) 11 where
  params := lamArgs lamE5
  body := lamBody lamE5
  scope := lamScope lamE5
  t := badN P w CP CU
  L := lamS_by (show lamSB (defScope s__law_doors_right) (lamScope lamE5) = true by decide +kernel)
  bare := fun _ _ _ => rfl
  bod := fun A outer s H E f c' r => PE.imp (pe_methO (E := E) (pv 1) C.cl m (r.mono (by decide)) (passE (X := VX P w K mg base g cdv A0 outer0 s0 H0 Ex0)) (pa_cons (pv 2) (pa_cons pe_non (pa_cons pe_non (pa_cons pe_non (pa_cons pe_non pa_nil)))))) (by
    rintro σ H Q ⟨p, v, d, b, d1, d2, d3, d4, e1, e2, PO, hv, bad, x⟩
    obtain ⟨dx, _, _, _, _, _, em, _⟩ := id PO.1
    exact ⟨_, e1, p, dx, _, rfl, em, rfl, _, e2, p, v, .non, .non, .non, .non, d, .none, .none, .none, .none, b, d1, d2, d3, d4, rfl, PO, hv, .non, .non, .non, .non, (fun _ => x), fun s md es ms => by rw [bad s es] at ms; cases ms⟩)
def lam6 (T : Txt K mg aR) (O__law_choose : Ok P w K mg base 2 "_law_choose" ["_law_pool_here", "_law_items"] (spChoose K)) (m : OwnIx P w K mg base CP 4 ["self", "at"] (spPGet P w CP CU CS CN)) : LamD (VX P w K mg base g cdv A0 outer0 s0 H0 Ex0) 11 where
  params := lamArgs lamE6
  body := lamBody lamE6
  scope := lamScope lamE6
  t := badS P w CP CS signOdds
  L := lamS_by (show lamSB (defScope s__law_doors_right) (lamScope lamE6) = true by decide +kernel)
  bare := fun _ _ _ => rfl
  bod := fun A outer s H E f c' r => PE.imp (pe_ixO (E := E) (pv 1) (pe_tup (pa_cons pe_str (pa_cons (PE.imp (pe_cO O__law_choose (r.mono (by decide)) pass0 rfl (pa_cons (pv 0) (pa_cons (de_lst (da_cons de_int (da_cons de_non (da_cons de_bl (da_cons de_str da_nil))))) pa_nil))) (fun _ _ _ => tch_of)) (pa_cons pe_non pa_nil)))) m (r.mono (by decide)) (passE (X := VX P w K mg base g cdv A0 outer0 s0 H0 Ex0))) (by
    rintro σ H Q ⟨pp, p, b, d1, d2, d3, d4, md, e0, e1, P0, PO, hm, z2, z10, x⟩
    obtain ⟨dx, _, _, _, _, _, em, _⟩ := id PO.1
    refine ⟨_, e1, Zp pp, ρ0, signOdds, pp, e0, .of P0, us0, rfl, by decide, by decide, fun v d H1 m1 P1 k1 dv => ?_⟩
    refine ⟨by show 3 ≤ sizeLine; decide, fun t nt => ?_⟩
    have s1 : Same H1 (upd H1 t (.tup [.str "m", v, .non])) := Same.new nt
    have PO1 := (PO.keepP P0 k1).same s1
    obtain ⟨dx', _, _, _, _, _, em1, _⟩ := id PO1.1
    have bad : betw d (-1) 1 = false := by
      have := List.all_eq_true.mp (show (signOdds.all fun d => !betw d (-1) 1) = true by decide +kernel) d m1
      simpa using this
    have dv1 := (dv.z0).fr (Fm.of s1)
    refine ⟨p, dx', _, rfl, em1, p, t, .str "m", v, .non, .str "m", d, .none, b, d1, d2, d3, d4, rfl, upd_same, .str _, dv1, .non, PO1, (fun s md i j row _ _ _ e => by cases e), (fun h => by rw [h "m" rfl] at hm; cases hm), (fun _ _ => (x v d H1 m1 P1.at_ k1 dv.z0).same s1), fun _ h _ => by rw [bad] at h; cases h⟩)
def lam7 (T : Txt K mg aR) (O__law_choose : Ok P w K mg base 2 "_law_choose" ["_law_pool_here", "_law_items"] (spChoose K)) (m : OwnIx P w K mg base CP 4 ["self", "at"] (spPGet P w CP CU CS CN)) : LamD (VX P w K mg base g cdv A0 outer0 s0 H0 Ex0) 11 where
  params := lamArgs lamE7
  body := lamBody lamE7
  scope := lamScope lamE7
  t := badS P w CP CN remOdds
  L := lamS_by (show lamSB (defScope s__law_doors_right) (lamScope lamE7) = true by decide +kernel)
  bare := fun _ _ _ => rfl
  bod := fun A outer s H E f c' r => PE.imp (pe_ixO (E := E) (pv 1) (pe_tup (pa_cons pe_str (pa_cons pe_int (pa_cons (PE.imp (pe_cO O__law_choose (r.mono (by decide)) pass0 rfl (pa_cons (pv 0) (pa_cons (de_lst (da_cons de_int (da_cons de_non (da_cons de_bl (da_cons (de_neg de_int) da_nil))))) pa_nil))) (fun _ _ _ => tch_of)) pa_nil)))) m (r.mono (by decide)) (passE (X := VX P w K mg base g cdv A0 outer0 s0 H0 Ex0))) (by
    rintro σ H Q ⟨pp, p, b, d1, d2, d3, d4, md, e0, e1, P0, PO, hm, z2, z10, x⟩
    refine ⟨_, e1, Zp pp, ρ0, remOdds, pp, e0, .of P0, us0, rfl, by decide, by decide, fun v d H1 m1 P1 k1 dv => ?_⟩
    refine ⟨by show 3 ≤ sizeLine; decide, fun t nt => ?_⟩
    have s1 : Same H1 (upd H1 t (.tup [.str "m", .int 0, v])) := Same.new nt
    have PO1 := (PO.keepP P0 k1).same s1
    obtain ⟨dx', _, _, _, _, _, em1, _⟩ := id PO1.1
    have bad : remD d (if b < 0 then -b else b) = false := by
      have hb : (if b < 0 then -b else b) = sizeD (.int b) := rfl
      rw [hb]
      generalize sizeD (.int b) = z at z2 z10 ⊢
      have : (remOdds.all fun d => !remD d z) = true := by
        obtain rfl | rfl | rfl | rfl | rfl | rfl | rfl | rfl | rfl : z = 2 ∨ z = 3 ∨ z = 4 ∨ z = 5 ∨ z = 6 ∨ z = 7 ∨ z = 8 ∨ z = 9 ∨ z = 10 := by omega
        all_goals decide +kernel
      simpa using List.all_eq_true.mp this d m1
    have dv1 := (dv.z0).fr (Fm.of s1)
    refine ⟨p, dx', _, rfl, em1, p, t, .str "m", .int 0, v, .str "m", .int 0, d, b, d1, d2, d3, d4, rfl, upd_same, .str _, .int _, dv1, PO1, (fun s md i j row _ _ _ _ _ h => by rw [bad] at h; cases h), (fun h => by rw [h "m" rfl] at hm; cases hm), (fun _ h => by cases h), fun _ _ _ => (x v d H1 m1 P1.at_ k1 dv.z0).same s1⟩)
def lam8 (C : PCls K mg CP) (m : OwnMeth P w K mg base CP 11 "with_row" ["self", "mode", "sign", "remainder", "updates", "then"] (spPWithRow P w CP CU CI)) : LamD (VX P w K mg base g cdv A0 outer0 s0 H0 Ex0) 11 where
  params := lamArgs lamE8
  body := lamBody lamE8
  scope := lamScope lamE8
  t := badW P w CP CI
  L := lamS_by (show lamSB (defScope s__law_doors_right) (lamScope lamE8) = true by decide +kernel)
  bare := fun _ _ _ => rfl
  bod := fun A outer s H E f c' r => PE.imp (pe_methO (E := E) (pv 1) C.cl m (r.mono (by decide)) (passE (X := VX P w K mg base g cdv A0 outer0 s0 H0 Ex0)) (pa_cons pe_str (pa_cons pe_int (pa_cons pe_int (pa_cons pe_non (pa_cons pe_non pa_nil)))))) (by
    rintro σ H Q ⟨p, b, d1, d2, d3, d4, md, e1, PO, hm, sz, x⟩
    obtain ⟨dx, _, _, _, _, _, em, _⟩ := id PO.1
    refine ⟨_, e1, p, dx, _, rfl, em, rfl, p, .str "m", .int 2, .int 0, .non, .non, .str "m", .int 2, .int 0, .none, .none, b, d1, d2, d3, d4, rfl, PO, .str _, .int _, .int _, .non, .non, (fun h => by rw [h "m" rfl] at hm; cases hm), fun s md' es ms => ?_⟩
    cases es
    rw [hm] at ms
    cases ms
    exact ⟨.inr ⟨_, rfl⟩, .inr ⟨_, rfl⟩, rowD_sign rfl, sz, x⟩)
def lam9 (C : PCls K mg CP) (m : OwnMeth P w K mg base CP 3 "under" ["self", "rule"] (spPUnder P w CP CL)) : LamD (VX P w K mg base g cdv A0 outer0 s0 H0 Ex0) 11 where
  params := lamArgs lamE9
  body := lamBody lamE9
  scope := lamScope lamE9
  t := badP P w CP (fun E H => EX1 CL "value" (.str "Up") E H)
  L := lamS_by (show lamSB (defScope s__law_doors_right) (lamScope lamE9) = true by decide +kernel)
  bare := fun _ _ _ => rfl
  bod := fun A outer s H E f c' r => PE.imp (pe_methO (E := E) (pv 1) C.cl m (r.mono (by decide)) (passE (X := VX P w K mg base g cdv A0 outer0 s0 H0 Ex0)) (pa_cons pe_str pa_nil)) (by
    rintro σ H Q ⟨p, b, d1, d2, d3, d4, md, e1, PO, hm, x⟩
    obtain ⟨dx, _, _, _, _, _, em, _⟩ := id PO.1
    exact ⟨_, e1, p, dx, _, rfl, em, rfl, p, .str "Up", .str "Up", b, d1, d2, d3, d4, rfl, PO, .str _, by decide +kernel, x⟩)
def lam10 (C : PCls K mg CP) (m : OwnMeth P w K mg base CP 4 "with_rule" ["self", "mode", "rule"] (spPWithRule P w CP CU CL)) : LamD (VX P w K mg base g cdv A0 outer0 s0 H0 Ex0) 11 where
  params := lamArgs lamE10
  body := lamBody lamE10
  scope := lamScope lamE10
  t := badP P w CP (fun E H => EX1 CL "value" (.str "Up") E H)
  L := lamS_by (show lamSB (defScope s__law_doors_right) (lamScope lamE10) = true by decide +kernel)
  bare := fun _ _ _ => rfl
  bod := fun A outer s H E f c' r => PE.imp (pe_methO (E := E) (pv 1) C.cl m (r.mono (by decide)) (passE (X := VX P w K mg base g cdv A0 outer0 s0 H0 Ex0)) (pa_cons pe_str (pa_cons pe_str pa_nil))) (by
    rintro σ H Q ⟨p, b, d1, d2, d3, d4, md, e1, PO, hm, x⟩
    obtain ⟨dx, _, _, _, _, _, em, _⟩ := id PO.1
    exact ⟨_, e1, p, dx, _, rfl, em, rfl, p, .str "m", .str "Up", .str "m", .str "Up", b, d1, d2, d3, d4, rfl, PO, .str _, .str _, by decide +kernel, (fun h => by rw [h "m" rfl] at hm; cases hm), fun _ => x⟩)
end
/-! ### _law_doors_right -/
section
open LamX
/-- all stays but the tables and the list at pp -/
def KpN (pp : Addr) (H H' : Hp) : Prop := ∀ b o, H b = some o → (∀ ps, o ≠ .tbl ps) → b ≠ pp → H' b = some o
theorem KpN.refl {pp : Addr} {H : Hp} : KpN pp H H := fun _ _ h _ _ => h
theorem KpN.ext {pp : Addr} {H H1 H2 : Hp} (a : KpN pp H H1) (b : ExtN H1 H2) : KpN pp H H2 := fun x o h n m => b _ _ (a x o h n m) n
theorem KpN.pool {pp : Addr} {H H1 H2 : Hp} (a : KpN pp H H1) (b : Keep pp H1 H2) : KpN pp H H2 := fun x o h n m => b _ _ (a x o h n m) m
theorem KpN.extN {pp : Addr} {H0 H H' : Hp} (a : KpN pp H H') (e : ExtN H0 H) (n : H0 pp = none) : ExtN H0 H' := fun x o h z => a _ _ (e _ _ h z) z (ne_of_none h n)
/-- data that can be shown and compared -/
def shkB (pd : PyData) : Bool := !pd.hasDict && (pd.canLay0 && (pd.showable && (decide (pd.depth + 1 ≤ 64) && (decide (pd.shown.length ≤ sizeLine) && PyData.strOk pd.shown))))
structure ShK (pd : PyData) : Prop where
  h1 : pd.canLay0 = true
  h2 : pd.showable = true
  h3 : pd.depth + 1 ≤ 64
  h4 : pd.shown.length ≤ sizeLine
  h5 : PyData.strOk pd.shown = true
theorem shk_of {pd : PyData} (h : shkB pd = true) : ShK pd := by
  unfold shkB at h
  simp only [Bool.and_eq_true, Bool.not_eq_true', decide_eq_true_eq] at h
  obtain ⟨_, a, b, c, d, e⟩ := h
  exact ⟨a, b, c, d, e⟩
theorem ShK.shw {K : PySem.W.Frag} {Z : Addr → Prop} {H : Hp} {v : V} {pd : PyData} (s : ShK pd) (h : Dt Z H v pd) : Shw K H v pd := ⟨h.de (.inl s.h1), s.h2, s.h3, s.h4⟩
theorem shp_told {kind : Str} {pd : PyData} (hk : PyData.strOk kind = true) (s : ShK pd) : Shp 1 (.list [.str kind, .str pd.shown]) := shp_list fun d hd => by
  simp only [List.mem_cons, List.not_mem_nil, or_false] at hd
  rcases hd with rfl | rfl
  · exact shp_str hk
  · exact shp_str s.h5
theorem five_of {α : Type} {l : List α} (h : l.length = 5) : ∃ a b c d e, l = [a, b, c, d, e] := by
  match l, h with
  | [a, b, c, d, e], _ => exact ⟨a, b, c, d, e, rfl⟩
theorem eqv_same {n : Nat} {d : PyData} (h : Shp n d) : PyData.eqv d d = true := PySem.SeqAt.eqv_refl _ h.1
theorem signOdds_ok : (signOdds.all shkB) = true := by decide +kernel
theorem remOdds_ok : (remOdds.all shkB) = true := by decide +kernel
theorem Drawn.sizeB {size b : Int} {many : Nat} {zs : List Str} {regs modes ends goal : List PyData} (h : Drawn size b many zs regs modes ends goal) : sizeD (.int b) = size := by
  have s0 := h.s0
  show (if b < 0 then -b else b) = size
  rcases h.b with rfl | rfl
  · rw [if_neg (by omega)]
  · rw [if_pos (by omega), Int.neg_neg]
theorem Drawn.hasM {size b : Int} {many : Nat} {zs : List Str} {regs modes ends goal : List PyData} (h : Drawn size b many zs regs modes ends goal) : ∃ md, modeOf modes "m" = some md ∧ Sz 3 (.tuple (setRow (.tuple [.int 2, .int 0, .none, .none]) (itemsD (itD md 2)))) := by
  obtain ⟨k, ek⟩ := h.z
  have z0 := h.z0
  have lm := h.lm
  obtain ⟨m0, e0⟩ : ∃ m0, modes[0]? = some m0 := ⟨_, List.getElem?_eq_getElem (by omega)⟩
  obtain ⟨z, r, rows, ez, rfl, hr5, rl, l4, _⟩ := h.modes 0 m0 e0
  have k1 : 0 < k := by
    rw [ek, List.length_take] at z0
    omega
  rw [ek, List.getElem?_take, if_pos k1] at ez
  cases ez
  refine ⟨.tuple [.str "m", .str r, .list rows], ?_, ?_⟩
  · cases modes with
    | nil => cases e0
    | cons m1 tl =>
      cases e0
      rfl
  · show Sz 3 (.tuple (setRow (.tuple [.int 2, .int 0, .none, .none]) rows))
    rw [setRow_eq]
    refine sz_tuple ?_ fun d hd => ?_
    · simp only [List.length_append, List.length_take, List.length_cons, List.length_drop]
      omega
    · rcases List.mem_append.mp hd with hd | hd
      · exact ((rl d (List.mem_of_mem_take hd)).sz h.m1 h.lz).less
      · rcases List.mem_cons.mp hd with rfl | hd
        · exact szB_sz (by decide +kernel)
        · exact ((rl d (List.mem_of_mem_drop hd)).sz h.m1 h.lz).less
abbrev qDoors : Str := (PyProof.Rows.envOfC "_law_doors_right" (defScope s__law_doors_right) 0 0 .none).qual ++ "<lambda>"
/-- what is no mode of any drawn program -/
def nameOdds : List PyData := [.none, .int 5, .str "nobody", .list [.str "m"], .str "", .bool true]
def noMode : PyData → Bool
  | .str s => decide (s ∉ modeNames)
  | _ => true
theorem nameOdds_ok : (nameOdds.all fun pd => noMode pd && shkB pd) = true := by decide +kernel
theorem Drawn.noMode {size b : Int} {many : Nat} {zs : List Str} {regs modes ends goal : List PyData} (h : Drawn size b many zs regs modes ends goal) {d : PyData} (n : W1.noMode d = true) : ∀ s, d = .str s → modeOf modes s = none := fun s e => by
  subst e
  have n : s ∉ modeNames := of_decide_eq_true n
  cases em : modeOf modes s with
  | none => rfl
  | some md =>
    have em : modes.find? (fun md => decide (nmOf md = s)) = some md := em
    have e1 : nmOf md = s := of_decide_eq_true (List.find?_some (p := fun md => decide (nmOf md = s)) em)
    have m1 := List.mem_map.mpr ⟨md, List.mem_of_find?_eq_some em, e1⟩
    rw [h.names] at m1
    obtain ⟨k, ek⟩ := h.z
    rw [ek] at m1
    exact absurd (List.mem_of_mem_take m1) n
end
section
open LamX
variable {P : Program} {w : World} {K : PySem.W.Frag} {mg : Str → Option Value} {base : Heap} {aR CP CB CG CM CI CE CR CU CS CN CL : Addr} {TT : List (Addr × Str)}
def spDoors (P : Program) (w : World) (CP : Addr) (TT : List (Addr × Str)) : Sp := fun vs H Q _ => ∃ pp p b size many zs regs modes ends goal, vs = [.ref pp, .ref p] ∧ PoolAt H pp ∧ ProgOk P w CP H p b (.list regs) (.list modes) (.list ends) (.tuple goal) ∧ Drawn size b many zs regs modes ends goal ∧ Tabs TT H ∧
  ∀ H', KpN pp H H' → Tabs TT H' → Q (.bl true) H'
/-- what the doors call -/
structure DoorsB (P : Program) (w : World) (K : PySem.W.Frag) (mg : Str → Option Value) (base : Heap) (CP CI CU CS CN CL : Addr) : Prop where
  C : PCls K mg CP
  choose : Ok P w K mg base 2 "_law_choose" ["_law_pool_here", "_law_items"] (spChoose K)
  rule : OwnMeth P w K mg base CP 4 "rule_of" ["self", "mode"] (spPRuleOf P w CP CU)
  rows : OwnMeth P w K mg base CP 4 "rows_of" ["self", "mode"] (spPRowsOf P w CP CU)
  ix : OwnIx P w K mg base CP 4 ["self", "at"] (spPGet P w CP CU CS CN)
  withRule : OwnMeth P w K mg base CP 4 "with_rule" ["self", "mode", "rule"] (spPWithRule P w CP CU CL)
  withRow : OwnMeth P w K mg base CP 11 "with_row" ["self", "mode", "sign", "remainder", "updates", "then"] (spPWithRow P w CP CU CI)
  under : OwnMeth P w K mg base CP 3 "under" ["self", "rule"] (spPUnder P w CP CL)
set_option maxHeartbeats 0 in
theorem okG__law_doors_right {f g c Pt : Addr} {cdv : Value} {oc kV doc pm ct : Value} {an od : Option Addr} {osl : Array (Option Value)} (lk : K.lookup f = some ⟨oc, od, .func (PySem.W.fnOf "_law_doors_right" "_law_doors_right" (defArgs s__law_doors_right) (defBody s__law_doors_right) (defScope s__law_doors_right) .none kV doc pm an (.ref c) ct), osl⟩) (hcd : PySem.W.codeIn K (.ref c) "_law_doors_right" = true)
    (T : Txt K mg aR) (ET : ETx K mg CB CG CM CI CE CR CU CS CN CL) (TB : TabB base mg c Pt) (hP : OneP K mg "_law_told" "_law_call" N__law_told s__law_told g cdv) (B : DoorsB P w K mg base CP CI CU CS CN CL) (inT : (Pt, qDoors) ∈ TT) (one : ∀ p ∈ TT, p.1 = Pt → p.2 = qDoors) :
    FnG P w K mg base CX0 14 f (PySem.W.fnOf "_law_doors_right" "_law_doors_right" (defArgs s__law_doors_right) (defBody s__law_doors_right) (defScope s__law_doors_right) .none kV doc pm an (.ref c) ct) ["_law_pool_here", "_law_one"] (spDoors P w CP TT) := by
  refine fnG_of lk hcd sc__law_doors_right (fun vs H Q E h => ?_) fun A outer s0 H vs Q E hG hr hsp => ?_
  · obtain ⟨pp, p, b, size, many, zs, regs, modes, ends, goal, rfl, _⟩ := h
    rfl
  · obtain ⟨pp, p, b, size, many, zs, regs, modes, ends, goal, rfl, P0, PO, DR, T0, q⟩ := hsp
    have hu : (VX P w K mg base f (.ref c) A outer s0 H E).A.units + 64 < cLine := hr.units
    refine ⟨_, PSs.nox (X := cxOf CX0 P w K mg base N__law_doors_right "_law_doors_right" (defScope s__law_doors_right) f (.ref c) A outer s0 H E) (pss_cons (ps_for PassesOwn.never rfl (pi_seq (pe_lst (pa_cons pe_non (pa_cons pe_int (pa_cons pe_str (pa_cons (pe_lst (pa_cons pe_str pa_nil)) (pa_cons pe_str (pa_cons pe_bl pa_nil)))))))) (pg_name (i := 2) sc__law_doors_right.nd rfl (.inr rfl))
        (pss_cons (ps_set (i := 3) sc__law_doors_right.nd rfl (.inl rfl) (pe_lst (pa_cons pe_str (pa_cons (pe_callB (call_repr hG hu) (by rfl) T.repr bb_repr (pa_cons (pv 2) pa_nil)) pa_nil))))
        (pss_cons (ps_set (i := 4) sc__law_doors_right.nd rfl (.inl rfl) (pe_lst (pa_cons (pe_lamV (T := TT) TB rfl inT one (lamS_by (show lamSB (defScope s__law_doors_right) (lamScope lamE1) = true by decide +kernel)) rfl) pa_nil)))
        (pss_cons (ps_expr (pe_bm PySem.F.plainAttrs_list PySem.F.slot_list_append PySem.F.type_list_append mt_append (pv 4) (pa_cons (pe_lamV (T := TT) TB rfl inT one (lamS_by (show lamSB (defScope s__law_doors_right) (lamScope lamE2) = true by decide +kernel)) rfl) pa_nil)))
        (pss_cons (ps_expr (pe_bm PySem.F.plainAttrs_list PySem.F.slot_list_append PySem.F.type_list_append mt_append (pv 4) (pa_cons (pe_lamV (T := TT) TB rfl inT one (lamS_by (show lamSB (defScope s__law_doors_right) (lamScope lamE3) = true by decide +kernel)) rfl) pa_nil)))
        (pss_cons (ps_expr (pe_bm PySem.F.plainAttrs_list PySem.F.slot_list_append PySem.F.type_list_append mt_append (pv 4) (pa_cons (pe_lamV (T := TT) TB rfl inT one (lamS_by (show lamSB (defScope s__law_doors_right) (lamScope lamE4) = true by decide +kernel)) rfl) pa_nil)))
        (pss_cons (ps_expr (pe_bm PySem.F.plainAttrs_list PySem.F.slot_list_append PySem.F.type_list_append mt_append (pv 4) (pa_cons (pe_lamV (T := TT) TB rfl inT one (lamS_by (show lamSB (defScope s__law_doors_right) (lamScope lamE5) = true by decide +kernel)) rfl) pa_nil)))
        (pss_one (ps_if (pt_cmpR (neD hr.units) (pe_lcB (own := [("_law_call", 5)]) (g := (gName 5)) rfl sc__law_doors_right.nd (pi_list (pv 4)) (blkOk_by (N := N__law_doors_right) (sc := defScope s__law_doors_right) (by decide +kernel)) (fun _ _ _ _ _ => (pg_name (i := 5) sc__law_doors_right.nd rfl (.inl rfl))) (fun _ _ _ _ _ _ _ bk => (pe_handB (k := 11) bk hP (hr.mono (by decide)) (told_handed T ET hG (hr.mono (by decide))) rfl (pv 5)))) (pe_op op_rep (pe_lst (pa_cons (pv 3) pa_nil)) pe_int) (nomark _))
          (pss_one (ps_ret pe_bl))
          pss_nil)))))))))
      (pss_cons (ps_if (pt_cmpR op_ne (pe_ix ixl (pe_handX (k := 11) hP (hr.mono (by decide)) (told_handed T ET hG (hr.mono (by decide))) rfl (pe_lamV (T := TT) TB rfl inT one (lamS_by (show lamSB (defScope s__law_doors_right) (lamScope lamE6) = true by decide +kernel)) rfl)) pe_int (fun _ _ => rfl)) pe_str (nomark _))
        (pss_one (ps_ret pe_bl))
        pss_nil)
      (pss_cons (ps_if (pt_cmpR op_ne (pe_ix ixl (pe_handX (k := 11) hP (hr.mono (by decide)) (told_handed T ET hG (hr.mono (by decide))) rfl (pe_lamV (T := TT) TB rfl inT one (lamS_by (show lamSB (defScope s__law_doors_right) (lamScope lamE7) = true by decide +kernel)) rfl)) pe_int (fun _ _ => rfl)) pe_str (nomark _))
        (pss_one (ps_ret pe_bl))
        pss_nil)
      (pss_cons (ps_if (pt_cmpR (neD hr.units) (pe_slice sll (pe_handX (k := 11) hP (hr.mono (by decide)) (told_handed T ET hG (hr.mono (by decide))) rfl (pe_lamV (T := TT) TB rfl inT one (lamS_by (show lamSB (defScope s__law_doors_right) (lamScope lamE8) = true by decide +kernel)) rfl)) po_none (po_some pe_int)) (pe_lst (pa_cons pe_str (pa_cons pe_str pa_nil))) (nomark _))
        (pss_one (ps_ret pe_bl))
        pss_nil)
      (pss_cons (ps_if (pt_cmpR (neD hr.units) (pe_handX (k := 11) hP (hr.mono (by decide)) (told_handed T ET hG (hr.mono (by decide))) rfl (pe_lamV (T := TT) TB rfl inT one (lamS_by (show lamSB (defScope s__law_doors_right) (lamScope lamE9) = true by decide +kernel)) rfl)) (pe_lst (pa_cons pe_str (pa_cons pe_str pa_nil))) (nomark _))
        (pss_one (ps_ret pe_bl))
        pss_nil)
      (pss_one (ps_ret (pe_cmpR (eqD hr.units) (pe_handX (k := 11) hP (hr.mono (by decide)) (told_handed T ET hG (hr.mono (by decide))) rfl (pe_lamV (T := TT) TB rfl inT one (lamS_by (show lamSB (defScope s__law_doors_right) (lamScope lamE10) = true by decide +kernel)) rfl)) (pe_lst (pa_cons pe_str (pa_cons pe_str pa_nil))) (nomark _))))))))), ?_⟩
    refine ⟨by show 1 ≤ sizeLine; decide, fun m0 nm0 => ?_⟩
    have s1 : Same H (upd H m0 (.lst [.str "m"])) := Same.new nm0
    have em0 : (upd H m0 (.lst [.str "m"])) m0 = some (.lst [.str "m"]) := upd_same
    generalize upd H m0 (.lst [.str "m"]) = K1 at s1 em0 ⊢
    refine ⟨by show 6 ≤ sizeLine; decide, fun lv nlv => ?_⟩
    have s2 : Same K1 (upd K1 lv (.lst [.non, .int 5, .str "nobody", .ref m0, .str "", .bl true])) := Same.new nlv
    have elv : (upd K1 lv (.lst [.non, .int 5, .str "nobody", .ref m0, .str "", .bl true])) lv = some (.lst [.non, .int 5, .str "nobody", .ref m0, .str "", .bl true]) := upd_same
    generalize upd K1 lv (.lst [.non, .int 5, .str "nobody", .ref m0, .str "", .bl true]) = H2 at s2 elv ⊢
    have s02 := s1.trans s2
    have dvs : DtAll Z0 H2 [.non, .int 5, .str "nobody", .ref m0, .str "", .bl true] nameOdds := .cons .non (.cons (.int _) (.cons (.str _) (.cons (.lst (s2 _ _ em0) id (.cons (.str _) .nil)) (.cons (.str _) (.cons (.bl _) .nil)))))
    have T2 := T0.ext s02
    have PO2 := PO.same s02
    have P2 := P0.same s02
    refine ⟨lv, _, _, rfl, .inl rfl, elv, fun J wk => for_it wk (fun i σ G => ExtN H2 G ∧ Tabs TT G ∧ ∃ v2 v3 v4 v5 : Option V, σ = [some (.ref pp), some (.ref p), v2, v3, v4, v5]) ⟨ExtN.refl _, T2, none, none, none, none, rfl⟩ (fun i σ G _ z => z.1 _ _ elv (fun ps m => by cases m)) ?_ ?_⟩
    · rintro i v σ G0 G hi ⟨xG, tG, v2, v3, v4, v5, rfl⟩ ⟨rfl, ex⟩
      obtain ⟨pd, epd, dv⟩ := dvs.get ex
      have ck := List.all_eq_true.mp nameOdds_ok pd (List.mem_of_getElem? epd)
      rw [Bool.and_eq_true] at ck
      have bad := DR.noMode ck.1
      have sk := shk_of ck.2
      have dvG := dv.extN xG
      have POG := PO2.extN xG
      have dDG : De K G v pd := dvG.de (.inl sk.h1)
      refine ⟨_, rfl, v, pd, rfl, De.rds dDG, sk.h2, sk.h3, sk.h4, by show 2 ≤ sizeLine; decide, fun ld nld => ?_⟩
      have sD : Same G (upd G ld (.lst [.str "name", .str pd.shown])) := Same.new nld
      have eD : (upd G ld (.lst [.str "name", .str pd.shown])) ld = some (.lst [.str "name", .str pd.shown]) := upd_same
      generalize upd G ld (.lst [.str "name", .str pd.shown]) = Gd at sD eD ⊢
      refine ⟨tG.ext sD, fun f1 c1 G1 x1 tG1 nf1 a1 b1 => ⟨by show 1 ≤ sizeLine; decide, fun z nz => ?_⟩⟩
      have sL1 : Same G1 (upd G1 z (.lst [.ref f1])) := Same.new nz
      have eL1 : (upd G1 z (.lst [.ref f1])) z = some (.lst [.ref f1]) := upd_same
      generalize upd G1 z (.lst [.ref f1]) = L1 at sL1 eL1 ⊢
      have tL1 := tG1.ext sL1
      refine ⟨_, rfl, .inl ⟨rfl, _, SqL.of eL1⟩, tL1, fun f2 c2 G2 x2 tG2 nf2 a2 b2 => ?_⟩
      have eG2 := x2 _ _ eL1 (fun ps m => by cases m)
      refine ⟨z, _, _, rfl, rfl, eG2, by show 1 < sizeLine; decide, ?_⟩
      have bL2 : ∀ b o, G2 b = some o → b ≠ z → (upd G2 z (.lst ([.ref f1] ++ [.ref f2]))) b = some o := fun b o h n => by rw [upd_ne n]; exact h
      have eL2 : (upd G2 z (.lst ([.ref f1] ++ [.ref f2]))) z = some (.lst [.ref f1, .ref f2]) := upd_same
      generalize upd G2 z (.lst ([.ref f1] ++ [.ref f2])) = L2 at bL2 eL2 ⊢
      have tL2 := Tabs.but tG2 eG2 bL2
      refine ⟨_, rfl, .inl ⟨rfl, _, SqL.of eL2⟩, tL2, fun f3 c3 G3 x3 tG3 nf3 a3 b3 => ?_⟩
      have eG3 := x3 _ _ eL2 (fun ps m => by cases m)
      refine ⟨z, _, _, rfl, rfl, eG3, by show 2 < sizeLine; decide, ?_⟩
      have bL3 : ∀ b o, G3 b = some o → b ≠ z → (upd G3 z (.lst ([.ref f1, .ref f2] ++ [.ref f3]))) b = some o := fun b o h n => by rw [upd_ne n]; exact h
      have eL3 : (upd G3 z (.lst ([.ref f1, .ref f2] ++ [.ref f3]))) z = some (.lst [.ref f1, .ref f2, .ref f3]) := upd_same
      generalize upd G3 z (.lst ([.ref f1, .ref f2] ++ [.ref f3])) = L3 at bL3 eL3 ⊢
      have tL3 := Tabs.but tG3 eG3 bL3
      refine ⟨_, rfl, .inl ⟨rfl, _, SqL.of eL3⟩, tL3, fun f4 c4 G4 x4 tG4 nf4 a4 b4 => ?_⟩
      have eG4 := x4 _ _ eL3 (fun ps m => by cases m)
      refine ⟨z, _, _, rfl, rfl, eG4, by show 3 < sizeLine; decide, ?_⟩
      have bL4 : ∀ b o, G4 b = some o → b ≠ z → (upd G4 z (.lst ([.ref f1, .ref f2, .ref f3] ++ [.ref f4]))) b = some o := fun b o h n => by rw [upd_ne n]; exact h
      have eL4 : (upd G4 z (.lst ([.ref f1, .ref f2, .ref f3] ++ [.ref f4]))) z = some (.lst [.ref f1, .ref f2, .ref f3, .ref f4]) := upd_same
      generalize upd G4 z (.lst ([.ref f1, .ref f2, .ref f3] ++ [.ref f4])) = L4 at bL4 eL4 ⊢
      have tL4 := Tabs.but tG4 eG4 bL4
      refine ⟨_, rfl, .inl ⟨rfl, _, SqL.of eL4⟩, tL4, fun f5 c5 G5 x5 tG5 nf5 a5 b5 => ?_⟩
      have eG5 := x5 _ _ eL4 (fun ps m => by cases m)
      refine ⟨z, _, _, rfl, rfl, eG5, by show 4 < sizeLine; decide, ?_⟩
      have bL5 : ∀ b o, G5 b = some o → b ≠ z → (upd G5 z (.lst ([.ref f1, .ref f2, .ref f3, .ref f4] ++ [.ref f5]))) b = some o := fun b o h n => by rw [upd_ne n]; exact h
      have eL5 : (upd G5 z (.lst ([.ref f1, .ref f2, .ref f3, .ref f4] ++ [.ref f5]))) z = some (.lst [.ref f1, .ref f2, .ref f3, .ref f4, .ref f5]) := upd_same
      generalize upd G5 z (.lst ([.ref f1, .ref f2, .ref f3, .ref f4] ++ [.ref f5])) = L5 at bL5 eL5 ⊢
      have tL5 := Tabs.but tG5 eG5 bL5
      have xF : ExtN G1 L5 := fun b o h t => by
        have n := ne_of_none h nz
        exact bL5 _ _ (x5 _ _ (bL4 _ _ (x4 _ _ (bL3 _ _ (x3 _ _ (bL2 _ _ (x2 _ _ (sL1 _ _ h) t) n) t) n) t) n) t) n
      have xG5 : ExtN H2 L5 := (xG.trans (ExtN.same sD)).trans (x1.trans xF)
      have dv5 := dv.extN xG5
      have PO5 := PO2.extN xG5
      have eD5 := (x1.trans xF) _ _ eD (fun ps m => by cases m)
      have M1 : (lam1 (g := f) (cdv := .ref c) (A0 := A) (outer0 := outer) (s0 := s0) (H0 := H) (Ex0 := E) B.C B.rule).at f1 c1 L5 := lamF_ext ⟨a1, b1⟩ xF
      have M2 : (lam2 (g := f) (cdv := .ref c) (A0 := A) (outer0 := outer) (s0 := s0) (H0 := H) (Ex0 := E) B.C B.rows).at f2 c2 L5 := lamF_but (lamF_ext (lamF_but (lamF_ext (lamF_but (lamF_ext (lamF_but ⟨a2, b2⟩ eG2 bL2) x3) eG3 bL3) x4) eG4 bL4) x5) eG5 bL5
      have M3 : (lam3 (g := f) (cdv := .ref c) (A0 := A) (outer0 := outer) (s0 := s0) (H0 := H) (Ex0 := E) B.ix).at f3 c3 L5 := lamF_but (lamF_ext (lamF_but (lamF_ext (lamF_but ⟨a3, b3⟩ eG3 bL3) x4) eG4 bL4) x5) eG5 bL5
      have M4 : (lam4 (g := f) (cdv := .ref c) (A0 := A) (outer0 := outer) (s0 := s0) (H0 := H) (Ex0 := E) B.C B.withRule).at f4 c4 L5 := lamF_but (lamF_ext (lamF_but ⟨a4, b4⟩ eG4 bL4) x5) eG5 bL5
      have M5 : (lam5 (g := f) (cdv := .ref c) (A0 := A) (outer0 := outer) (s0 := s0) (H0 := H) (Ex0 := E) B.C B.withRow).at f5 c5 L5 := lamF_but ⟨a5, b5⟩ eG5 bL5
      refine ⟨_, rfl, z, rfl, ⟨_, SqL.of eL5⟩, fun D hD => ?_⟩
      have nD : ∀ b o, L5 b = some o → b ≠ D := fun b o h => ne_of_none h hD
      refine lc_list (K := K) (xs := [.ref f1, .ref f2, .ref f3, .ref f4, .ref f5]) (fun i G => ∃ rl : List Addr, rl.length = i ∧ G D = some (.lst (rl.map V.ref)) ∧ (∀ r ∈ rl, r ≠ D ∧ G r = some (.lst [.str "name", .str pd.shown])) ∧ Same L5 G) ⟨[], rfl, upd_same, (fun r hr => absurd hr (by simp)), Same.new hD⟩
        (fun i G _ p => by
          obtain ⟨rl, _, _, _, sm⟩ := p
          exact SqL.of (sm _ _ eL5)) ?_ ?_
      · rintro i x Gi hx ⟨rl, len, gD, all, sm⟩
        have i5 : i < 5 := by
          rcases Nat.lt_or_ge i 5 with h | h
          · exact h
          · rw [List.getElem?_eq_none (by simpa using h)] at hx
            cases hx
        refine ⟨rfl, ?_⟩
        refine ⟨_, rfl, ?_⟩
        have dvi := dv5.fr (Fm.of sm)
        have POi := PO5.same sm
        have close : EX1 CU "value" v (EGood K CB CG CM CI CE CR CU CS CN CL (fun y H4 => ∃ acc, H4 D = some (.lst acc) ∧ acc.length < sizeLine ∧ ∃ rl : List Addr, rl.length = i + 1 ∧ (upd H4 D (.lst (acc ++ [y]))) D = some (.lst (rl.map V.ref)) ∧ (∀ r ∈ rl, r ≠ D ∧ (upd H4 D (.lst (acc ++ [y]))) r = some (.lst [.str "name", .str pd.shown])) ∧ Same L5 (upd H4 D (.lst (acc ++ [y]))))) Gi := fun Gr dx sr ndx =>
          .c6 ⟨rfl, dx, v, pd, rfl, upd_same, sk.shw ((dvi.fr (Fm.of sr)).fr (Fm.of (Same.new ndx))), fun r hr => by
            have sr2 : Same Gi (upd Gr dx (.xd [("value", v)])) := sr.trans (Same.new ndx)
            have gDr := sr2 _ _ gD
            have sn : Same (upd Gr dx (.xd [("value", v)])) (upd (upd Gr dx (.xd [("value", v)])) r (lstV "name" pd)) := Same.new hr
            refine ⟨rl.map V.ref, sn _ _ gDr, by rw [List.length_map, len]; exact Nat.lt_trans i5 (by decide), rl ++ [r], by rw [List.length_append, len]; rfl, by rw [List.map_append]; exact upd_same, fun r2 hr2 => ?_, fun b o h => ?_⟩
            · rcases List.mem_append.mp hr2 with m | m
              · obtain ⟨n2, g2⟩ := all r2 m
                exact ⟨n2, by rw [upd_ne n2]; exact sn _ _ (sr2 _ _ g2)⟩
              · obtain rfl := List.mem_singleton.mp m
                have n2 : r2 ≠ D := (ne_of_none gDr hr).symm
                exact ⟨n2, by rw [upd_ne n2]; exact upd_same⟩
            · rw [upd_ne (nD b o h)]
              exact sn _ _ (sr2 _ _ (sm _ _ h))⟩
        have m3 := List.mem_of_getElem? hx
        simp only [List.mem_cons, List.not_mem_nil, or_false] at m3
        have xi : ExtN L5 Gi := ExtN.same sm
        rcases m3 with rfl | rfl | rfl | rfl | rfl
        · exact ⟨lam1 B.C B.rule, f1, c1, rfl, lamF_ext M1 xi, p, v, pd, b, _, _, _, _, rfl, rfl, POi, dvi, bad, close⟩
        · exact ⟨lam2 B.C B.rows, f2, c2, rfl, lamF_ext M2 xi, p, v, pd, b, _, _, _, _, rfl, rfl, POi, dvi, bad, close⟩
        · exact ⟨lam3 B.ix, f3, c3, rfl, lamF_ext M3 xi, p, v, pd, b, _, _, _, _, rfl, rfl, POi, dvi, bad, close⟩
        · exact ⟨lam4 B.C B.withRule, f4, c4, rfl, lamF_ext M4 xi, p, v, pd, b, _, _, _, _, rfl, rfl, POi, dvi, bad, close⟩
        · exact ⟨lam5 B.C B.withRow, f5, c5, rfl, lamF_ext M5 xi, p, v, pd, b, _, _, _, _, rfl, rfl, POi, dvi, bad, close⟩
      · rintro Ge ⟨rl, len, gD, all, sm⟩
        obtain ⟨r1, r2, r3, r4, r5, rfl⟩ := five_of len
        have z1 := (all r1 (by simp)).2
        have z2 := (all r2 (by simp)).2
        have z3 := (all r3 (by simp)).2
        have z4 := (all r4 (by simp)).2
        have z5 := (all r5 (by simp)).2
        have y0 := sm _ _ eD5
        refine ⟨_, rfl, by show 1 ≤ sizeLine; decide, fun w2 hw2 => ?_⟩
        have u2 : Same Ge (upd Ge w2 (.lst [.ref ld])) := Same.new hw2
        have y2 : (upd Ge w2 (.lst [.ref ld])) w2 = some (.lst [.ref ld]) := upd_same
        generalize upd Ge w2 (.lst [.ref ld]) = Gg at u2 y2 ⊢
        refine ⟨w2, 5, _, rfl, rfl, y2, by decide, by decide, by show 1 * 5 ≤ sizeLine; decide, fun w3 hw3 => ?_⟩
        have u3 : Same Gg (upd Gg w3 (.lst (List.replicate (5 : Int).toNat [V.ref ld]).flatten)) := Same.new hw3
        have y3 : (upd Gg w3 (.lst (List.replicate (5 : Int).toNat [V.ref ld]).flatten)) w3 = some (.lst [.ref ld, .ref ld, .ref ld, .ref ld, .ref ld]) := upd_same
        generalize upd Gg w3 (.lst (List.replicate (5 : Int).toNat [V.ref ld]).flatten) = Gh at u3 y3 ⊢
        have ue : Same Ge Gh := u2.trans u3
        have one_ : ∀ {r : Addr}, Ge r = some (.lst [.str "name", .str pd.shown]) → Dt Z0 Gh (.ref r) (.list [.str "name", .str pd.shown]) := fun h => .lst (ue _ _ h) id (.cons (.str _) (.cons (.str _) .nil))
        have sh1 := shp_told (kind := "name") (pd := pd) (by decide +kernel) sk
        have sh2 : Shp 2 (.list [.list [.str "name", .str pd.shown], .list [.str "name", .str pd.shown], .list [.str "name", .str pd.shown], .list [.str "name", .str pd.shown], .list [.str "name", .str pd.shown]]) := shp_list fun d hd => by
          simp only [List.mem_cons, List.not_mem_nil, or_false, or_self] at hd
          rw [hd]
          exact sh1
        refine ⟨_, _, Z0, Z0, .lst (ue _ _ gD) id (.cons (one_ z1) (.cons (one_ z2) (.cons (one_ z3) (.cons (one_ z4) (.cons (one_ z5) .nil))))), .lst y3 id (.cons (one_ y0) (.cons (one_ y0) (.cons (one_ y0) (.cons (one_ y0) (.cons (one_ y0) .nil))))), sh2.ok, sh2.ok, _, rfl, ?_⟩
        rw [eqv_same sh2]
        refine iteN (by decide) ?_
        exact ⟨(xG5.trans (ExtN.same sm)).trans (ExtN.same ue), (tL5.ext sm).ext ue, _, _, _, _, rfl⟩
    · rintro σ G ⟨xG, tG, v2, v3, v4, v5, rfl⟩
      obtain ⟨md, hm, szm⟩ := DR.hasM
      have z2 : 2 ≤ sizeD (.int b) := by rw [DR.sizeB]; exact DR.s0
      have z10 : sizeD (.int b) ≤ 10 := by rw [DR.sizeB]; exact DR.s1
      have PG := P2.extN xG
      have POG := PO2.extN xG
      have kG : KpN pp H G := KpN.refl.ext ((ExtN.same s02).trans xG)
      -- a sign that is none
      refine ⟨tG, fun f6 c6 G6 x6 t6 n6 a6 b6 => ⟨lam6 T B.choose B.ix, f6, c6, rfl, ⟨a6, b6⟩, pp, p, b, _, _, _, _, md, rfl, rfl, PG.extN x6, POG.extN x6, hm, z2, z10, fun v d H7 m7 P7 k7 dv M dx sM ndx => .c7 ⟨rfl, dx, v, d, rfl, upd_same, (shk_of (List.all_eq_true.mp signOdds_ok d m7)).shw ((dv.fr (Fm.of sM)).fr (Fm.of (Same.new ndx))), fun l nl => ?_⟩⟩⟩
      have s7 : Same H7 (upd (upd M dx (.xd [("value", v)])) l (lstV "sign" d)) := (sM.trans (Same.new ndx)).trans (Same.new nl)
      have e7 : (upd (upd M dx (.xd [("value", v)])) l (lstV "sign" d)) l = some (.lst [.str "sign", .str d.shown]) := upd_same
      have k8 := ((kG.ext x6).pool k7).ext (ExtN.same s7)
      have t8 := (Tabs.pool t6 (PG.extN x6) k7).ext s7
      have P8 := P7.same s7
      have PO8 := ((POG.extN x6).keepP (PG.extN x6) k7).same s7
      generalize upd (upd M dx (.xd [("value", v)])) l (lstV "sign" d) = G8 at s7 e7 k8 t8 P8 PO8 ⊢
      refine ⟨l, _, 0, _, rfl, rfl, e7, atI0, rfl, _, rfl, iteN (by simp) ?_⟩
      -- a remainder that is none
      refine ⟨t8, fun f9 c9 G9 x9 t9 n9 a9 b9 => ⟨lam7 T B.choose B.ix, f9, c9, rfl, ⟨a9, b9⟩, pp, p, b, _, _, _, _, md, rfl, rfl, P8.extN x9, PO8.extN x9, hm, z2, z10, fun v d H7 m7 P7 k7 dv M dx sM ndx => .c8 ⟨rfl, dx, v, d, rfl, upd_same, (shk_of (List.all_eq_true.mp remOdds_ok d m7)).shw ((dv.fr (Fm.of sM)).fr (Fm.of (Same.new ndx))), fun l nl => ?_⟩⟩⟩
      have s7 : Same H7 (upd (upd M dx (.xd [("value", v)])) l (lstV "number" d)) := (sM.trans (Same.new ndx)).trans (Same.new nl)
      have e7 : (upd (upd M dx (.xd [("value", v)])) l (lstV "number" d)) l = some (.lst [.str "number", .str d.shown]) := upd_same
      have kA := ((k8.ext x9).pool k7).ext (ExtN.same s7)
      have tA := (Tabs.pool t9 (P8.extN x9) k7).ext s7
      have PA := P7.same s7
      have POA := ((PO8.extN x9).keepP (P8.extN x9) k7).same s7
      generalize upd (upd M dx (.xd [("value", v)])) l (lstV "number" d) = GA at s7 e7 kA tA PA POA ⊢
      refine ⟨l, _, 0, _, rfl, rfl, e7, atI0, rfl, _, rfl, iteN (by simp) ?_⟩
      clear s7 e7 k7 P7 m7 dv sM ndx nl
      -- a row that is none
      refine ⟨tA, fun fB cB GB xB tB nB aB bB => ⟨lam8 B.C B.withRow, fB, cB, rfl, ⟨aB, bB⟩, p, b, _, _, _, _, md, rfl, POA.extN xB, hm, szm, fun i M dx sM ndx => .c3 ⟨rfl, dx, .str "m", .int i, rfl, upd_same, fun l nl => ?_⟩⟩⟩
      have sB := (sM.trans (Same.new (o := .xd [("number", .int i), ("mode", .str "m")]) ndx)).trans (Same.new (o := lstR (.str "m") (.int i)) nl)
      have eB : (upd (upd M dx (.xd [("number", .int i), ("mode", .str "m")])) l (lstR (.str "m") (.int i))) l = some (.lst [.str "row", .str "m", .int i]) := upd_same
      have kB := (kA.ext xB).ext (ExtN.same sB)
      have tQ := tB.ext sB
      have POC := (POA.extN xB).same sB
      generalize upd (upd M dx (.xd [("number", .int i), ("mode", .str "m")])) l (lstR (.str "m") (.int i)) = GC at sB eB kB tQ POC ⊢
      refine ⟨2, rfl, l, _, rfl, eB, fun l2 nl2 => ?_⟩
      have sC : Same GC (upd GC l2 (.lst [.str "row", .str "m"])) := Same.new nl2
      have eC : (upd GC l2 (.lst [.str "row", .str "m"])) l2 = some (.lst [.str "row", .str "m"]) := upd_same
      show tLst _ _ (upd GC l2 (.lst [.str "row", .str "m"])) _
      generalize upd GC l2 (.lst [.str "row", .str "m"]) = GD at sC eC ⊢
      refine ⟨by show 2 ≤ sizeLine; decide, fun l3 nl3 => ?_⟩
      have sE : Same GD (upd GD l3 (.lst [.str "row", .str "m"])) := Same.new nl3
      have eE : (upd GD l3 (.lst [.str "row", .str "m"])) l3 = some (.lst [.str "row", .str "m"]) := upd_same
      generalize upd GD l3 (.lst [.str "row", .str "m"]) = GE at sE eE ⊢
      have rowD2 : Shp 1 (.list [.str "row", .str "m"]) := shp_list fun d hd => by
        simp only [List.mem_cons, List.not_mem_nil, or_false] at hd
        rcases hd with rfl | rfl
        · exact shp_str (by decide +kernel)
        · exact shp_str (by decide +kernel)
      refine ⟨.list [.str "row", .str "m"], .list [.str "row", .str "m"], Z0, Z0, .lst (sE _ _ eC) id (.cons (.str _) (.cons (.str _) .nil)), .lst eE id (.cons (.str _) (.cons (.str _) .nil)), rowD2.ok, rowD2.ok, _, rfl, ?_⟩
      rw [eqv_same rowD2]
      refine iteN (by decide) ?_
      have sCE := sC.trans sE
      have kE := kB.ext (ExtN.same sCE)
      have tE' := tQ.ext sCE
      have POE := POC.same sCE
      have upD : Shp 1 (.list [.str "rule", .str "'Up'"]) := shp_list fun d hd => by
        simp only [List.mem_cons, List.not_mem_nil, or_false] at hd
        rcases hd with rfl | rfl
        · exact shp_str (by decide +kernel)
        · exact shp_str (by decide +kernel)
      have upK : ShK (.str "Up") := shk_of (by decide +kernel)
      have upS : (PyData.str "Up").shown = "'Up'" := by decide +kernel
      -- a rule that is none
      refine ⟨tE', fun fF cF GF xF tF nF aF bF => ⟨lam9 B.C B.under, fF, cF, rfl, ⟨aF, bF⟩, p, b, _, _, _, _, md, rfl, POE.extN xF, hm, fun M dx sM ndx => .c9 ⟨rfl, dx, .str "Up", .str "Up", rfl, upd_same, upK.shw (Z := Z0) (.str _), fun l nl => ?_⟩⟩⟩
      have sG := (sM.trans (Same.new (o := .xd [("value", .str "Up")]) ndx)).trans (Same.new (o := lstV "rule" (.str "Up")) nl)
      have eG : (upd (upd M dx (.xd [("value", .str "Up")])) l (lstV "rule" (.str "Up"))) l = some (.lst [.str "rule", .str "'Up'"]) := by rw [upd_same, ← upS]; rfl
      have kG := (kE.ext xF).ext (ExtN.same sG)
      have tG := tF.ext sG
      have POG := (POE.extN xF).same sG
      generalize upd (upd M dx (.xd [("value", .str "Up")])) l (lstV "rule" (.str "Up")) = GG at sG eG kG tG POG ⊢
      refine ⟨by show 2 ≤ sizeLine; decide, fun l5 nl5 => ?_⟩
      have sH : Same GG (upd GG l5 (.lst [.str "rule", .str "'Up'"])) := Same.new nl5
      have eH : (upd GG l5 (.lst [.str "rule", .str "'Up'"])) l5 = some (.lst [.str "rule", .str "'Up'"]) := upd_same
      generalize upd GG l5 (.lst [.str "rule", .str "'Up'"]) = GH at sH eH ⊢
      refine ⟨.list [.str "rule", .str "'Up'"], .list [.str "rule", .str "'Up'"], Z0, Z0, .lst (sH _ _ eG) id (.cons (.str _) (.cons (.str _) .nil)), .lst eH id (.cons (.str _) (.cons (.str _) .nil)), upD.ok, upD.ok, _, rfl, ?_⟩
      rw [eqv_same upD]
      refine iteN (by decide) ?_
      have kH := kG.ext (ExtN.same sH)
      have tH := tG.ext sH
      have POH := POG.same sH
      refine ⟨tH, fun fI cI GI xI tI nI aI bI => ⟨lam10 B.C B.withRule, fI, cI, rfl, ⟨aI, bI⟩, p, b, _, _, _, _, md, rfl, POH.extN xI, hm, fun M dx sM ndx => .c9 ⟨rfl, dx, .str "Up", .str "Up", rfl, upd_same, upK.shw (Z := Z0) (.str _), fun l nl => ?_⟩⟩⟩
      have sJ := (sM.trans (Same.new (o := .xd [("value", .str "Up")]) ndx)).trans (Same.new (o := lstV "rule" (.str "Up")) nl)
      have eJ : (upd (upd M dx (.xd [("value", .str "Up")])) l (lstV "rule" (.str "Up"))) l = some (.lst [.str "rule", .str "'Up'"]) := by rw [upd_same, ← upS]; rfl
      have kJ := (kH.ext xI).ext (ExtN.same sJ)
      have tJ := tI.ext sJ
      generalize upd (upd M dx (.xd [("value", .str "Up")])) l (lstV "rule" (.str "Up")) = GJ at sJ eJ kJ tJ ⊢
      refine ⟨by show 2 ≤ sizeLine; decide, fun l6 nl6 => ?_⟩
      have sK : Same GJ (upd GJ l6 (.lst [.str "rule", .str "'Up'"])) := Same.new nl6
      have eK : (upd GJ l6 (.lst [.str "rule", .str "'Up'"])) l6 = some (.lst [.str "rule", .str "'Up'"]) := upd_same
      generalize upd GJ l6 (.lst [.str "rule", .str "'Up'"]) = GK at sK eK ⊢
      refine ⟨.list [.str "rule", .str "'Up'"], .list [.str "rule", .str "'Up'"], Z0, Z0, .lst (sK _ _ eJ) id (.cons (.str _) (.cons (.str _) .nil)), .lst eK id (.cons (.str _) (.cons (.str _) .nil)), upD.ok, upD.ok, ?_⟩
      rw [eqv_same upD]
      exact q _ (kJ.ext (ExtN.same sK)) (tJ.ext sK)
end
/-! ### the law: its lambdas -/
section
open LamX
variable {P : Program} {w : World} {K : PySem.W.Frag} {mg : Str → Option Value} {base : Heap} {aR CP CB CG CM CI CE CR CU CS CN CL : Addr}
abbrev s_law : Stmt := top 65
abbrev N_law : List Str := ["_law_script", "_law_lines", "_law_k", "_law_pool_here", "_law_turn", "_law_parts_here", "_law_at", "_law_bent_here", "_law_due", "_law_later", "_law_one"]
theorem sc_law : FnScope N_law ["_law_script"] (defScope s_law) := ⟨rfl, rfl, rfl, by decide +kernel, rfl, by decide +kernel, by decide +kernel⟩
def lwSt (i : Nat) : Stmt := (defBody s_law).getD i noStmt
def lwTurn (i : Nat) : Stmt := (stBody ((stBody (lwSt 2)).getD 1 noStmt)).getD i noStmt
def lamL1 : Expr := arg0 (cmpL (stExpr (lwSt 1)))
def lamL2 : Expr := arg0 (cmpL (stExpr (lwTurn 1)))
def lamL3 : Expr := arg0 (cmpL (stExpr (lwTurn 7)))
abbrev VL (P : Program) (w : World) (K : PySem.W.Frag) (mg : Str → Option Value) (base : Heap) (g : Addr) (cdv : Value) (A : Around) (outer : List PySem.Env) (s : Shared) (H : Hp) (E : XK) : Cx := (cxOf CX0 P w K mg base N_law "law" (defScope s_law) g cdv A outer s H E).nox
def linesD : PyData := .list [.tuple [.none, .none, .tuple [.tuple [.int 1, .int 0, .int 0]], .str "zyxwvuts"]]
/-- the lines in slot 1 -/
def madeL : XK → TE := fun _ σ H Q => ∃ (Z : Addr → Prop) (v : V), σ[1]? = some (some v) ∧ ZN Z H ∧ Dt Z H v linesD ∧ ∀ u H', Same H H' → Q u H'
/-- five parts in a list in slot i -/
def madeP (CB CG CM CI CE CR : Addr) (i : Nat) : XK → TE := fun E σ H Q => ∃ (a : Addr) (v0 v1 v2 v3 v4 : V) (d0 d1 d2 d3 d4 : PyData), σ[i]? = some (some (.ref a)) ∧ H a = some (.lst [v0, v1, v2, v3, v4]) ∧ Dt Z0 H v0 d0 ∧ Dt Z0 H v1 d1 ∧ Dt Z0 H v2 d2 ∧ Dt Z0 H v3 d3 ∧ Dt Z0 H v4 d4 ∧ Sz 2 d1 ∧ Sz 5 d2 ∧ (itemsD d3).length ≤ 1000 ∧ (itemsD d4).length ≤ 1000 ∧
  (PartsOk d0 d1 d2 d3 d4 → ∀ u H', Same H H' → Q u H') ∧ ∀ e, progErr d0 d1 d2 d3 d4 = some e → PErr.flies CB CG CM CI CE CR v0 v3 v4 E H e
theorem PErr.fliesS {CB CG CM CI CE CR : Addr} {v0 v3 v4 : V} {E : XK} {H H' : Hp} (s : Same H H') : ∀ {e : PErr}, PErr.flies CB CG CM CI CE CR v0 v3 v4 E H e → PErr.flies CB CG CM CI CE CR v0 v3 v4 E H' e
  | .base, h => EX1.same h s
  | .regs _, h => EX1.same h s
  | .modes _, h => EX1.same h s
  | .row _ _, h => EX2.same h s
  | .ends, h => EX1.same h s
  | .result, h => EX1.same h s
variable {g : Addr} {cdv : Value} {A0 : Around} {outer0 : List PySem.Env} {s0 : Shared} {H0 : Hp} {Ex0 : XK}
def lw1 (C : PCls K mg CP) (mk : MkP P w K mg base CP CB CG CM CI CE CR) : LamD (VL P w K mg base g cdv A0 outer0 s0 H0 Ex0) 11 where
  params := lamArgs lamL1
  body := lamBody lamL1
  scope := lamScope lamL1
  t := madeL
  L := lamS_by (show lamSB (defScope s_law) (lamScope lamL1) = true by decide +kernel)
  bare := fun _ _ _ => rfl
  bod := fun A outer s H E f c' r => PE.imp (pe_mkP (E := E) mk C.at_ (r.mono (by decide)) (passE (X := VL P w K mg base g cdv A0 outer0 s0 H0 Ex0)) rfl (pa_cons pe_int (pa_cons (de_lst (da_cons (de_tup (da_cons de_str (da_cons de_int da_nil))) da_nil)) (pa_cons (de_lst (da_cons (de_tup (da_cons de_str (da_cons de_str (da_cons (de_pv (pv 1)) da_nil)))) da_nil)) (pa_cons (de_lst (da_cons de_int da_nil)) (pa_cons (de_tup (da_cons de_int (da_cons de_int da_nil))) pa_nil)))))) (by
    rintro σ H Q ⟨Z, v, e1, zn, dv, q⟩
    refine ⟨Z, ρ0, .list [.tuple [.str "abcdefgh", .int 0]], zn, us0, rfl, fun v1 H1 s1 d1 => ?_⟩
    refine ⟨Z, ρc ρ0 1 linesD, .list [.tuple [.str "zyxwvuts", .str "up", linesD]], some_ne zn s1, us0.add e1 (dv.fr (Fm.of s1)), rfl, fun v2 H2 s2 d2 => ?_⟩
    refine ⟨Z, ρ0, .list [.int 0], some_ne zn (s1.trans s2), us0, rfl, fun v3 H3 s3 d3 => ?_⟩
    refine ⟨Z, ρ0, .tuple [.int 1, .int 0], some_ne zn ((s1.trans s2).trans s3), us0, rfl, fun v4 H4 s4 d4 => fun c dc hc hd ne => ?_⟩
    have sN : Same H4 (upd (upd H4 dc (.own c)) c (.ins CP dc [])) := new_same hc hd
    refine ⟨c, dc, .int 2, v1, v2, v3, v4, .int 2, _, _, _, _, rfl, upd_same, .int 2, (d1.z0).fr (Fm.of (((s2.trans s3).trans s4).trans sN)), (d2.z0).fr (Fm.of ((s3.trans s4).trans sN)), (d3.z0).fr (Fm.of (s4.trans sN)), (d4.z0).fr (Fm.of sN), szB_sz (by decide +kernel), szB_sz (by decide +kernel), by decide, by decide, fun _ H' k PA => ⟨rfl, ?_⟩, fun e he => ?_⟩
    · exact q _ _ (fun b o e => k b o (sN _ _ (((s1.trans s2).trans s3).trans s4 _ _ e)) (ne_of_none (((s1.trans s2).trans s3).trans s4 _ _ e) hc))
    · rw [Option.isNone_iff_eq_none.mp (show (progErr (.int 2) (.list [.tuple [.str "abcdefgh", .int 0]]) (.list [.tuple [.str "zyxwvuts", .str "up", linesD]]) (.list [.int 0]) (.tuple [.int 1, .int 0])).isNone = true by decide +kernel)] at he
      cases he)
theorem lw_bod {C : PCls K mg CP} {E : XK} {c dc a : Addr} {v0 v1 v2 v3 v4 : V} {d0 d1 d2 d3 d4 : PyData} {H : Hp} {Q : VK} (hc : H c = none) (hd : H dc = none) (h0 : Dt Z0 H v0 d0) (h1 : Dt Z0 H v1 d1) (h2 : Dt Z0 H v2 d2) (h3 : Dt Z0 H v3 d3) (h4 : Dt Z0 H v4 d4) (z1 : Sz 2 d1) (z2 : Sz 5 d2) (l3 : (itemsD d3).length ≤ 1000) (l4 : (itemsD d4).length ≤ 1000)
    (q : PartsOk d0 d1 d2 d3 d4 → ∀ u H', Same H H' → Q u H') (x : ∀ e, progErr d0 d1 d2 d3 d4 = some e → PErr.flies CB CG CM CI CE CR v0 v3 v4 E H e) :
    spPInit P w CP CB CG CM CI CE CR [.ref c, v0, v1, v2, v3, v4] (upd (upd H dc (.own c)) c (.ins CP dc [])) (fun v H' => v = .non ∧ Q (.ref c) H') E := by
  have sN : Same H (upd (upd H dc (.own c)) c (.ins CP dc [])) := new_same hc hd
  exact ⟨c, dc, v0, v1, v2, v3, v4, d0, d1, d2, d3, d4, rfl, upd_same, h0.fr (Fm.of sN), h1.fr (Fm.of sN), h2.fr (Fm.of sN), h3.fr (Fm.of sN), h4.fr (Fm.of sN), z1, z2, l3, l4, fun ok H' k PA => ⟨rfl, q ok _ _ (fun b o e => k b o (sN _ _ e) (ne_of_none e hc))⟩, fun e he => PErr.fliesS sN (x e he)⟩
def lw2 (C : PCls K mg CP) (mk : MkP P w K mg base CP CB CG CM CI CE CR) : LamD (VL P w K mg base g cdv A0 outer0 s0 H0 Ex0) 11 where
  params := lamArgs lamL2
  body := lamBody lamL2
  scope := lamScope lamL2
  t := madeP CB CG CM CI CE CR 5
  L := lamS_by (show lamSB (defScope s_law) (lamScope lamL2) = true by decide +kernel)
  bare := fun _ _ _ => rfl
  bod := fun A outer s H E f c' r => PE.imp (pe_mkP (E := E) mk C.at_ (r.mono (by decide)) (passE (X := VL P w K mg base g cdv A0 outer0 s0 H0 Ex0)) rfl (pa_cons (pe_ix ixl (pv 5) pe_int (fun _ _ => rfl)) (pa_cons (pe_ix ixl (pv 5) pe_int (fun _ _ => rfl)) (pa_cons (pe_ix ixl (pv 5) pe_int (fun _ _ => rfl)) (pa_cons (pe_ix ixl (pv 5) pe_int (fun _ _ => rfl)) (pa_cons (pe_ix ixl (pv 5) pe_int (fun _ _ => rfl)) pa_nil)))))) (by
    rintro σ H Q ⟨a, v0, v1, v2, v3, v4, d0, d1, d2, d3, d4, e5, ea, h0, h1, h2, h3, h4, z1, z2, l3, l4, q, x⟩
    exact ⟨_, e5, a, _, 0, _, rfl, rfl, ea, atI0, _, e5, a, _, 1, _, rfl, rfl, ea, atI1, _, e5, a, _, 2, _, rfl, rfl, ea, atI2, _, e5, a, _, 3, _, rfl, rfl, ea, atI_nat (j := 3) rfl, _, e5, a, _, 4, _, rfl, rfl, ea, atI_nat (j := 4) rfl, fun c dc hc hd ne => lw_bod (C := C) (a := a) hc hd h0 h1 h2 h3 h4 z1 z2 l3 l4 q x⟩)
def lw3 (C : PCls K mg CP) (mk : MkP P w K mg base CP CB CG CM CI CE CR) : LamD (VL P w K mg base g cdv A0 outer0 s0 H0 Ex0) 11 where
  params := lamArgs lamL3
  body := lamBody lamL3
  scope := lamScope lamL3
  t := madeP CB CG CM CI CE CR 7
  L := lamS_by (show lamSB (defScope s_law) (lamScope lamL3) = true by decide +kernel)
  bare := fun _ _ _ => rfl
  bod := fun A outer s H E f c' r => PE.imp (pe_mkP (E := E) mk C.at_ (r.mono (by decide)) (passE (X := VL P w K mg base g cdv A0 outer0 s0 H0 Ex0)) rfl (pa_cons (pe_ix ixl (pv 7) pe_int (fun _ _ => rfl)) (pa_cons (pe_ix ixl (pv 7) pe_int (fun _ _ => rfl)) (pa_cons (pe_ix ixl (pv 7) pe_int (fun _ _ => rfl)) (pa_cons (pe_ix ixl (pv 7) pe_int (fun _ _ => rfl)) (pa_cons (pe_ix ixl (pv 7) pe_int (fun _ _ => rfl)) pa_nil)))))) (by
    rintro σ H Q ⟨a, v0, v1, v2, v3, v4, d0, d1, d2, d3, d4, e5, ea, h0, h1, h2, h3, h4, z1, z2, l3, l4, q, x⟩
    exact ⟨_, e5, a, _, 0, _, rfl, rfl, ea, atI0, _, e5, a, _, 1, _, rfl, rfl, ea, atI1, _, e5, a, _, 2, _, rfl, rfl, ea, atI2, _, e5, a, _, 3, _, rfl, rfl, ea, atI_nat (j := 3) rfl, _, e5, a, _, 4, _, rfl, rfl, ea, atI_nat (j := 4) rfl, fun c dc hc hd ne => lw_bod (C := C) (a := a) hc hd h0 h1 h2 h3 h4 z1 z2 l3 l4 q x⟩)
end
/-! ### what is told of bent parts -/
section
/-- what is told of an error -/
inductive DueOf (H : Hp) (v0 v3 v4 : V) : PErr → PyData → Prop
  | base (pd) : Dt Z0 H v0 pd → shwB pd = true → DueOf H v0 v3 v4 .base (.list [.str "base", .str pd.shown])
  | regsN : DueOf H v0 v3 v4 (.regs .non) (.list [.str "registers", .none])
  | regsI (i : Nat) : DueOf H v0 v3 v4 (.regs (.int (i : Nat))) (.list [.str "registers", .int (i : Nat)])
  | modesN : DueOf H v0 v3 v4 (.modes .non) (.list [.str "modes", .none])
  | modesI (i : Nat) : DueOf H v0 v3 v4 (.modes (.int (i : Nat))) (.list [.str "modes", .int (i : Nat)])
  | row (nm : Str) (i : Nat) : PyData.strOk nm = true → DueOf H v0 v3 v4 (.row (.str nm) i) (.list [.str "row", .str nm, .int (i : Nat)])
  | ends (pd) : Dt Z0 H v3 pd → shwB pd = true → DueOf H v0 v3 v4 .ends (.list [.str "ends", .str pd.shown])
  | result (pd) : Dt Z0 H v4 pd → shwB pd = true → DueOf H v0 v3 v4 .result (.list [.str "result", .str pd.shown])
theorem shwB_str {d : PyData} (h : shwB d = true) : PyData.strOk d.shown = true := by
  unfold shwB at h
  simp only [Bool.and_eq_true] at h
  exact h.2.2.2.2
theorem shp_two {k : Str} {d : PyData} (hk : PyData.strOk k = true) (hd : Shp 0 d) : Shp 1 (.list [.str k, d]) := shp_list fun x hx => by
  simp only [List.mem_cons, List.not_mem_nil, or_false] at hx
  rcases hx with rfl | rfl
  · exact shp_str hk
  · exact hd
theorem DueOf.shp {H : Hp} {v0 v3 v4 : V} {e : PErr} {due : PyData} (h : DueOf H v0 v3 v4 e due) : Shp 1 due := by
  cases h with
  | base pd _ s => exact shp_two (by decide +kernel) (shp_str (shwB_str s))
  | regsN => exact shp_two (by decide +kernel) shp_none
  | regsI i => exact shp_two (by decide +kernel) shp_int
  | modesN => exact shp_two (by decide +kernel) shp_none
  | modesI i => exact shp_two (by decide +kernel) shp_int
  | row nm i hn =>
    refine shp_list fun x hx => ?_
    simp only [List.mem_cons, List.not_mem_nil, or_false] at hx
    rcases hx with rfl | rfl | rfl
    · exact shp_str (by decide +kernel)
    · exact shp_str hn
    · exact shp_int
  | ends pd _ s => exact shp_two (by decide +kernel) (shp_str (shwB_str s))
  | result pd _ s => exact shp_two (by decide +kernel) (shp_str (shwB_str s))
theorem flies_due {K : PySem.W.Frag} {CB CG CM CI CE CR CU CS CN CL : Addr} {Q : VK} {H : Hp} {v0 v3 v4 : V} {e : PErr} {due : PyData} (h : DueOf H v0 v3 v4 e due) (q : ∀ v H', Same H H' → Dt Z0 H' v due → Q v H') : PErr.flies CB CG CM CI CE CR v0 v3 v4 (EGood K CB CG CM CI CE CR CU CS CN CL Q) H e := by
  cases h with
  | base pd hd s => exact fun H' dx sM nd => .c0 ⟨rfl, dx, v0, pd, rfl, upd_same, (shwB_of s).shw ((hd.fr (Fm.of sM)).fr (Fm.of (Same.new nd))), fun l nl => q _ _ ((sM.trans (Same.new nd)).trans (Same.new nl)) (.lst upd_same id (.cons (.str _) (.cons (.str _) .nil)))⟩
  | regsN => exact fun H' dx sM nd => .c1 ⟨rfl, dx, .non, rfl, upd_same, fun l nl => q _ _ ((sM.trans (Same.new nd)).trans (Same.new nl)) (.lst upd_same id (.cons (.str _) (.cons .non .nil)))⟩
  | regsI i => exact fun H' dx sM nd => .c1 ⟨rfl, dx, .int i, rfl, upd_same, fun l nl => q _ _ ((sM.trans (Same.new nd)).trans (Same.new nl)) (.lst upd_same id (.cons (.str _) (.cons (.int _) .nil)))⟩
  | modesN => exact fun H' dx sM nd => .c2 ⟨rfl, dx, .non, rfl, upd_same, fun l nl => q _ _ ((sM.trans (Same.new nd)).trans (Same.new nl)) (.lst upd_same id (.cons (.str _) (.cons .non .nil)))⟩
  | modesI i => exact fun H' dx sM nd => .c2 ⟨rfl, dx, .int i, rfl, upd_same, fun l nl => q _ _ ((sM.trans (Same.new nd)).trans (Same.new nl)) (.lst upd_same id (.cons (.str _) (.cons (.int _) .nil)))⟩
  | row nm i hn => exact fun H' dx sM nd => .c3 ⟨rfl, dx, .str nm, .int i, rfl, upd_same, fun l nl => q _ _ ((sM.trans (Same.new nd)).trans (Same.new nl)) (.lst upd_same id (.cons (.str _) (.cons (.str _) (.cons (.int _) .nil))))⟩
  | ends pd hd s => exact fun H' dx sM nd => .c4 ⟨rfl, dx, v3, pd, rfl, upd_same, (shwB_of s).shw ((hd.fr (Fm.of sM)).fr (Fm.of (Same.new nd))), fun l nl => q _ _ ((sM.trans (Same.new nd)).trans (Same.new nl)) (.lst upd_same id (.cons (.str _) (.cons (.str _) .nil)))⟩
  | result pd hd s => exact fun H' dx sM nd => .c5 ⟨rfl, dx, v4, pd, rfl, upd_same, (shwB_of s).shw ((hd.fr (Fm.of sM)).fr (Fm.of (Same.new nd))), fun l nl => q _ _ ((sM.trans (Same.new nd)).trans (Same.new nl)) (.lst upd_same id (.cons (.str _) (.cons (.str _) .nil)))⟩
theorem sz_few {n : Nat} {d : PyData} (h : Sz n d) : (itemsD d).length ≤ 1000 := by
  cases n with
  | zero => exact h.1
  | succ n => exact h.1
/-- the errors of programs whose parts are bent at one place -/
structure BentE (d0 d1 d2 d3 d4 due : PyData) : Prop where
  s1 : Sz 2 d1
  s2 : Sz 5 d2
  l3 : (itemsD d3).length ≤ 1000
  l4 : (itemsD d4).length ≤ 1000
  err : ∃ e, progErr d0 d1 d2 d3 d4 = some e ∧ ∀ H v0 v3 v4, Dt Z0 H v0 d0 → Dt Z0 H v3 d3 → Dt Z0 H v4 d4 → DueOf H v0 v3 v4 e due
variable {size b : Int} {many at_ : Nat} {zs : List Str} {regs modes ends goal : List PyData} {odd due d0 d1 d2 d3 d4 : PyData}
theorem Drawn.l3 (DR : Drawn size b many zs regs modes ends goal) : ends.length ≤ 1000 := (DR.ok.few).1
theorem Drawn.l4 (DR : Drawn size b many zs regs modes ends goal) : goal.length ≤ 1000 := (DR.ok.few).2
theorem bent_err (DR : Drawn size b many zs regs modes ends goal) (h : BentA size many at_ odd due) (hj : ∀ j < at_, [d0, d1, d2, d3, d4][j]? = [PyData.int b, .list regs, .list modes, .list ends, .tuple goal][j]?) (ha : [d0, d1, d2, d3, d4][at_]? = some odd)
    (hl : ∀ j, at_ < j → [d0, d1, d2, d3, d4][j]? = [PyData.int b, .list regs, .list modes, .list ends, .tuple goal][j]? ∨ [d0, d1, d2, d3, d4][j]? = some .none) : BentE d0 d1 d2 d3 d4 due := by
  have ok := DR.ok
  have s1 : at_ < 1 → Sz 2 d1 := fun l => by
    rcases hl 1 l with e | e <;> cases e
    · exact DR.sz1
    · exact sz_non _
  have s2 : at_ < 2 → Sz 5 d2 := fun l => by
    rcases hl 2 l with e | e <;> cases e
    · exact DR.sz2
    · exact sz_non _
  have l3 : at_ < 3 → (itemsD d3).length ≤ 1000 := fun l => by
    rcases hl 3 l with e | e <;> cases e
    · exact DR.l3
    · exact sz_few (sz_non 0)
  have l4 : at_ < 4 → (itemsD d4).length ≤ 1000 := fun l => by
    rcases hl 4 l with e | e <;> cases e
    · exact DR.l4
    · exact sz_few (sz_non 0)
  have e0 : 0 < at_ → d0 = .int b := fun l => by have := hj 0 l; cases this; rfl
  have e1 : 1 < at_ → d1 = .list regs := fun l => by have := hj 1 l; cases this; rfl
  have e2 : 2 < at_ → d2 = .list modes := fun l => by have := hj 2 l; cases this; rfl
  have e3 : 3 < at_ → d3 = .list ends := fun l => by have := hj 3 l; cases this; rfl
  cases h with
  | base _ hb sb =>
    cases ha
    exact ⟨s1 (by decide), s2 (by decide), l3 (by decide), l4 (by decide), _, by unfold progErr; rw [if_pos hb], fun H v0 v3 v4 g0 g3 g4 => .base _ g0 sb⟩
  | regs _ _ hb =>
    cases ha
    obtain ⟨d, rfl, ⟨bad, hn⟩, sz⟩ := hb
    obtain rfl := e0 (by decide)
    refine ⟨sz, s2 (by decide), l3 (by decide), l4 (by decide), _, by unfold progErr; rw [if_neg (by rw [ok.base]; decide), if_pos bad], fun H v0 v3 v4 g0 g3 g4 => ?_⟩
    rcases hn with ⟨rfl, e⟩ | ⟨i, rfl, e⟩
    · rw [e]; exact .regsN
    · rw [e]; exact .regsI i
  | modes _ _ hb =>
    cases ha
    obtain ⟨d, rfl, ⟨bad, hn⟩, sz⟩ := hb
    obtain rfl := e0 (by decide)
    obtain rfl := e1 (by decide)
    refine ⟨DR.sz1, sz, l3 (by decide), l4 (by decide), _, by unfold progErr; rw [if_neg (by rw [ok.base]; decide), if_neg (by rw [ok.regs]; decide), if_pos bad], fun H v0 v3 v4 g0 g3 g4 => ?_⟩
    rcases hn with ⟨rfl, e⟩ | ⟨i, rfl, e⟩
    · rw [e]; exact .modesN
    · rw [e]; exact .modesI i
  | ends _ hb sb l =>
    cases ha
    obtain rfl := e0 (by decide)
    obtain rfl := e1 (by decide)
    obtain rfl := e2 (by decide)
    refine ⟨DR.sz1, DR.sz2, l, l4 (by decide), _, ?_, fun H v0 v3 v4 g0 g3 g4 => .ends _ g3 sb⟩
    unfold progErr
    rw [if_neg (by rw [ok.base]; decide), if_neg (by rw [ok.regs]; decide), if_neg (by rw [ok.modes]; decide), ok.rows]
    dsimp only
    rw [DR.sizeB, if_pos hb]
  | result _ hb sb l =>
    cases ha
    obtain rfl := e0 (by decide)
    obtain rfl := e1 (by decide)
    obtain rfl := e2 (by decide)
    obtain rfl := e3 (by decide)
    refine ⟨DR.sz1, DR.sz2, DR.l3, l, _, ?_, fun H v0 v3 v4 g0 g3 g4 => .result _ g4 sb⟩
    unfold progErr
    rw [if_neg (by rw [ok.base]; decide), if_neg (by rw [ok.regs]; decide), if_neg (by rw [ok.modes]; decide), ok.rows]
    dsimp only
    rw [if_neg (by rw [ok.ends]; decide)]
    have lr : (itemsD (.list regs)).length = many := DR.lr
    rw [lr, if_pos hb]
theorem bent_rows (DR : Drawn size b many zs regs modes ends goal) (h : BentR size many odd due) : BentE (.int b) (.list regs) odd .none (.tuple goal) due := by
  have ok := DR.ok
  obtain ⟨nm, i, rfl, mn, ⟨pm, re⟩, sz⟩ := h
  refine ⟨DR.sz1, sz, sz_few (sz_non 0), DR.l4, .row (.str nm) i, ?_, fun H v0 v3 v4 g0 g3 g4 => .row _ _ ?_⟩
  · unfold progErr
    rw [if_neg (by rw [ok.base]; decide), if_neg (by rw [ok.regs]; decide), if_neg (by rw [pm]; decide), DR.sizeB]
    have lr : (itemsD (.list regs)).length = many := DR.lr
    rw [lr, re]
  · simp only [modeNames, List.mem_cons, List.not_mem_nil, or_false] at mn
    rcases mn with rfl | rfl | rfl <;> decide +kernel
end
/-! ### the law -/
section
open LamX
variable {P : Program} {w : World} {K : PySem.W.Frag} {mg : Str → Option Value} {base : Heap} {aR CP CB CG CM CI CE CR CU CS CN CL : Addr}
abbrev qLaw : Str := (PyProof.Rows.envOfC "law" (defScope s_law) 0 0 .none).qual ++ "<lambda>"
abbrev TT (PL PD : Addr) : List (Addr × Str) := [(PL, qLaw), (PD, qDoors)]
def spLaw (K : PySem.W.Frag) (PL PD : Addr) : Sp := fun vs H Q _ => ∃ (a : Addr) (ns : List Int), vs = [.ref a] ∧ SqL K H a (ns.map V.int) ∧ ns.length ≤ 63 ∧ H PL = some (.tbl #[]) ∧ H PD = some (.tbl #[]) ∧ ∀ H', Q (.bl true) H'
/-- what the law calls -/
structure LawB (P : Program) (w : World) (K : PySem.W.Frag) (mg : Str → Option Value) (base : Heap) (CP CB CG CM CI CE CR : Addr) : Prop where
  C : PCls K mg CP
  mkP : MkP P w K mg base CP CB CG CM CI CE CR
  pool : Ok P w K mg base 1 "_law_pool" ["_law_script", "_law_k"] (spPool K)
  draw : Ok P w K mg base 1 "_law_draw" ["_law_pool_here", "_law_many"] spDraw
  parts : Ok P w K mg base 5 "_law_parts" ["_law_pool_here", "_law_sizes", "_law_most"] spLParts
  rows : Ok P w K mg base 3 "_law_bent_rows" ["_law_pool_here", "_law_good", "_law_size", "_law_many"] spBentRows
theorem SqL.extN {K : PySem.W.Frag} {H H' : Hp} {a : Addr} {xs : List V} (e : ExtN H H') (h : SqL K H a xs) : SqL K H' a xs := by
  rcases h with (h | ⟨o, h⟩) | h
  · exact .inl (.inl (e _ _ h (fun ps z => by cases z)))
  · exact .inl (.inr ⟨o, e _ _ h (fun ps z => by cases z)⟩)
  · exact .inr h
theorem five_all {Z : Addr → Prop} {H : Hp} {xs : List V} {ds : List PyData} (h : DtAll Z H xs ds) (l : ds.length = 5) : ∃ v0 v1 v2 v3 v4 d0 d1 d2 d3 d4, xs = [v0, v1, v2, v3, v4] ∧ ds = [d0, d1, d2, d3, d4] ∧ Dt Z H v0 d0 ∧ Dt Z H v1 d1 ∧ Dt Z H v2 d2 ∧ Dt Z H v3 d3 ∧ Dt Z H v4 d4 := by
  obtain ⟨d0, d1, d2, d3, d4, rfl⟩ := five_of l
  cases h with
  | cons h0 h => cases h with
    | cons h1 h => cases h with
      | cons h2 h => cases h with
        | cons h3 h => cases h with
          | cons h4 h =>
            cases h
            exact ⟨_, _, _, _, _, _, _, _, _, _, rfl, rfl, h0, h1, h2, h3, h4⟩
theorem two_all {Z : Addr → Prop} {H : Hp} {xs : List V} {d e : PyData} (h : DtAll Z H xs [d, e]) : ∃ u v, xs = [u, v] ∧ Dt Z H u d ∧ Dt Z H v e := by
  cases h with
  | cons h0 h => cases h with
    | cons h1 h =>
      cases h
      exact ⟨_, _, rfl, h0, h1⟩
theorem ixN_nat {n i : Nat} (h : i < n) : ixN n (i : Int) = some i := by
  unfold ixN
  rw [if_pos (by omega), if_pos (by omega)]
  simp
theorem PoolZ.upd_bl {Z : Addr → Prop} {H : Hp} {pp bl : Addr} {o : HO} (P : PoolZ Z H pp) (n : bl ≠ pp) : PoolZ Z (upd H bl o) pp := ⟨P.at_.upd' n, P.zp, fun x hx => by
  by_cases c : x = bl
  · rw [c, upd_same]
    exact fun z => by cases z
  · rw [upd_ne c]
    exact P.some x hx⟩
theorem bent_pre {at_ lt : Nat} {orig ds' : List PyData} {odd : PyData} (alt : ds' = orig ∨ (at_ < 5 ∧ at_ < lt ∧ ds' = orig.set lt .none)) (l : ds'.length = 5) (l5 : at_ < 5) : (∀ j < at_, (ds'.set at_ odd)[j]? = orig[j]?) ∧ (ds'.set at_ odd)[at_]? = some odd ∧ ∀ j, at_ < j → (ds'.set at_ odd)[j]? = orig[j]? ∨ (ds'.set at_ odd)[j]? = some .none := by
  refine ⟨fun j hj => ?_, List.getElem?_set_self (by omega), fun j hj => ?_⟩
  · rw [List.getElem?_set_ne (by omega)]
    rcases alt with rfl | ⟨_, h, rfl⟩
    · rfl
    · rw [List.getElem?_set_ne (by omega)]
  · rw [List.getElem?_set_ne (by omega)]
    rcases alt with rfl | ⟨_, h, rfl⟩
    · exact .inl rfl
    · by_cases c : lt = j
      · subst c
        rw [List.length_set] at l
        by_cases c2 : lt < orig.length
        · exact .inr (List.getElem?_set_self c2)
        · left
          rw [List.getElem?_eq_none (by rw [List.length_set]; omega), List.getElem?_eq_none (by omega)]
      · exact .inl (List.getElem?_set_ne c)
theorem join1 {U : TS} {D : Ends} {σ : L2.St} {H : Hp} {at_ lt : Nat} {bl : Addr} {xs : List V} (e6 : σ[6]? = some (some (.int (at_ : Nat)))) (e7 : σ[7]? = some (some (.ref bl))) (e9 : σ[9]? = some (some (.int (lt : Nat)))) (eb : H bl = some (.lst xs)) (l : lt < xs.length)
    (h : ∀ xs' H', (xs' = xs ∨ (at_ < 5 ∧ at_ < lt ∧ xs' = xs.set lt .non)) → H' bl = some (.lst xs') → (∀ b o, H b = some o → b ≠ bl → H' b = some o) → U D σ H') :
    tSeq (tIfS (tAnd (tTest (tOp (rI0 fun i j => V.bl (decide (i < j))) (tVar 6) (tC (V.int 5)))) (tTest (tOp (rI0 fun i j => V.bl (decide (j < i))) (tVar 9) (tVar 6)))) (tAsg (tC V.non) (gSub (tVar 7) (tVar 9) rSetL)) tNext) U D σ H := by
  have same : U D σ H := h xs H (.inl rfl) eb fun _ _ g _ => g
  refine ⟨_, e6, _, _, rfl, rfl, _, rfl, ite2 (fun c => ?_) (fun c => iteN (by decide) same)⟩
  refine ⟨_, e9, _, e6, _, _, rfl, rfl, _, rfl, ite2 (fun c2 => ?_) (fun c2 => same)⟩
  have c := of_decide_eq_true c
  have c2 := of_decide_eq_true c2
  refine ⟨_, e7, _, e9, bl, xs, lt, lt, rfl, rfl, eb, ixN_nat l, ?_⟩
  exact h _ _ (.inr ⟨by omega, by omega, rfl⟩) upd_same fun b o g n => by rw [upd_ne n]; exact g
/-- what stands at a turn -/
def TurnI (H4 : Hp) (T : List (Addr × Str)) (a0 : Addr) (lv kv : V) (pp : Addr) (j : Nat) (σ : L2.St) (G : Hp) : Prop := KpN pp H4 G ∧ PoolAt G pp ∧ Tabs T G ∧ ∃ v4 v5 v6 v7 v8 v9 v10 : Option V, σ = [some (.ref a0), some lv, some kv, some (.ref pp), v4, v5, v6, v7, v8, v9, v10] ∧
  (0 < j → ∃ a size b many zs regs modes ends goal, v5 = some (.ref a) ∧ Drawn size b many zs regs modes ends goal ∧ Dt (Zp pp) G (.ref a) (.list [.int b, .list regs, .list modes, .list ends, .tuple goal]))
set_option maxHeartbeats 0 in
theorem okG_law {f g cL PL PD : Addr} {cdv : Value} {oc kV doc pm ct : Value} {an od : Option Addr} {osl : Array (Option Value)} {fB fD : Addr} {fdB fdD : FuncData} (lk : K.lookup f = some ⟨oc, od, .func (PySem.W.fnOf "law" "law" (defArgs s_law) (defBody s_law) (defScope s_law) .none kV doc pm an (.ref cL) ct), osl⟩) (hcd : PySem.W.codeIn K (.ref cL) "law" = true)
    (T : Txt K mg aR) (ET : ETx K mg CB CG CM CI CE CR CU CS CN CL) (TL : TabB base mg cL PL) (ne : PL ≠ PD) (hP : OneP K mg "_law_told" "_law_call" N__law_told s__law_told g cdv) (B : LawB P w K mg base CP CB CG CM CI CE CR)
    (FB : FnG P w K mg base CX0 4 fB fdB ["_law_pool_here", "_law_parts_here", "_law_at"] spBent) (mB : mg "_law_bent" = some (.ref fB)) (kB : PySem.W.keepIn K (.ref fB) = true) (bB : Binds K fdB ["_law_pool_here", "_law_parts_here", "_law_at"] [])
    (FD : FnG P w K mg base CX0 14 fD fdD ["_law_pool_here", "_law_one"] (spDoors P w CP (TT PL PD))) (mD : mg "_law_doors_right" = some (.ref fD)) (kD : PySem.W.keepIn K (.ref fD) = true) (bD : Binds K fdD ["_law_pool_here", "_law_one"] []) :
    FnG P w K mg base CX0 15 f (PySem.W.fnOf "law" "law" (defArgs s_law) (defBody s_law) (defScope s_law) .none kV doc pm an (.ref cL) ct) ["_law_script"] (spLaw K PL PD) := by
  refine fnG_of lk hcd sc_law (fun vs H Q E h => ?_) fun A outer s0 H vs Q E hG hr hsp => ?_
  · obtain ⟨a, ns, rfl, _⟩ := h
    rfl
  · obtain ⟨a0, ns, rfl, hS, hlen, tb0, tb1, q⟩ := hsp
    have O__law_pool := B.pool
    have O__law_draw := B.draw
    have O__law_parts := B.parts
    have O__law_bent_rows := B.rows
    have C := B.C
    have mk := B.mkP
    have inL : (PL, qLaw) ∈ TT PL PD := List.mem_cons_self
    have oneL : ∀ p ∈ TT PL PD, p.1 = PL → p.2 = qLaw := fun p hp e => by
      simp only [List.mem_cons, List.not_mem_nil, or_false] at hp
      rcases hp with rfl | rfl
      · rfl
      · exact absurd e.symm ne
    have T0 : Tabs (TT PL PD) H := fun p hp => by
      simp only [List.mem_cons, List.not_mem_nil, or_false] at hp
      rcases hp with rfl | rfl
      · exact TabS.nil tb0
      · exact TabS.nil tb1
    have z0 : ∀ {G : Hp}, ZN Z0 G := fun x z => z.elim
    refine ⟨_, PSs.nox (X := cxOf CX0 P w K mg base N_law "law" (defScope s_law) f (.ref cL) A outer s0 H E) (pss_cons (ps_set (i := 1) sc_law.nd rfl (.inr rfl) (de_lst (da_cons (de_tup (da_cons de_non (da_cons de_non (da_cons (de_tup (da_cons (de_tup (da_cons de_int (da_cons de_int (da_cons de_int da_nil)))) da_nil)) (da_cons de_str da_nil))))) da_nil)))
      (pss_cons (ps_if (pt_cmpR op_ne (pe_handX (k := 11) hP (hr.mono (by decide)) (told_handed T ET hG (hr.mono (by decide))) rfl (pe_lamV (T := TT PL PD) TL rfl inL oneL (lamS_by (show lamSB (defScope s_law) (lamScope lamL1) = true by decide +kernel)) rfl)) pe_str (nomark _))
        (pss_one (ps_ret pe_bl))
        pss_nil)
      (pss_cons (ps_for PassesOwn.never rfl (pi_range1 (by rfl) T.range (pa_cons (pe_callB (call_max2 rfl) (by rfl) T.max bb_max (pa_cons pe_int (pa_cons (pe_callB (call_min2 rfl) (by rfl) T.min bb_min (pa_cons (pe_callB call_len_seq (by rfl) T.len bb_len (pa_cons (pv 0) pa_nil)) (pa_cons pe_int pa_nil))) pa_nil))) pa_nil)) (pg_name (i := 2) sc_law.nd rfl (.inl rfl))
        (pss_cons (ps_set (i := 3) sc_law.nd rfl (.inl rfl) (pe_cO O__law_pool (hr.mono (by decide)) pass0 rfl (pa_cons (pv 0) (pa_cons (pv 2) pa_nil))))
        (pss_cons (ps_for PassesOwn.never rfl (pi_range1 (by rfl) T.range (pa_cons pe_int pa_nil)) (pg_name (i := 4) sc_law.nd rfl (.inl rfl))
          (pss_cons (ps_set (i := 5) sc_law.nd rfl (.inr rfl) (pe_cO O__law_parts (hr.mono (by decide)) pass0 rfl (pa_cons (pv 3) (pa_cons (pe_lst (pa_cons pe_int (pa_cons pe_int (pa_cons pe_int pa_nil)))) (pa_cons pe_int pa_nil)))))
          (pss_cons (ps_if (pt_cmpR op_ne (pe_handX (k := 11) hP (hr.mono (by decide)) (told_handed T ET hG (hr.mono (by decide))) rfl (pe_lamV (T := TT PL PD) TL rfl inL oneL (lamS_by (show lamSB (defScope s_law) (lamScope lamL2) = true by decide +kernel)) rfl)) pe_str (nomark _))
            (pss_one (ps_ret pe_bl))
            pss_nil)
          (pss_cons (ps_set (i := 6) sc_law.nd rfl (.inl rfl) (pe_cO O__law_draw (hr.mono (by decide)) pass0 rfl (pa_cons (pv 3) (pa_cons pe_int pa_nil))))
          (pss_cons (ps_asg (pe_tup (pa_cons (pe_callTy listT (by rfl) T.list bb_list (pa_cons (pv 5) pa_nil)) (pa_cons pe_non pa_nil))) (pgT (n := 2) (by rfl) (pgs_cons (pg_name (i := 7) sc_law.nd rfl (.inr rfl)) (pgs_cons (pg_name (i := 8) sc_law.nd rfl (.inl rfl)) pgs_nil))))
          (pss_cons (ps_set (i := 9) sc_law.nd rfl (.inl rfl) (pe_cO O__law_draw (hr.mono (by decide)) pass0 rfl (pa_cons (pv 3) (pa_cons pe_int pa_nil))))
          (pss_cons (ps_if (PW.pt (pw_and (pt_cmpR op_lt (pv 6) pe_int (nomark _)) (pw_and1 (pt_cmpR op_gt (pv 9) (pv 6) (nomark _)))))
            (pss_one (ps_asg pe_non (pg_sub (pv 7) (pv 9) set_list)))
            pss_nil)
          (pss_cons (ps_if (pt_cmpR op_lt (pv 6) pe_int (nomark _))
            (pss_one (ps_asg (pe_callG FB hG (hr.mono (by decide)) rfl mB kB bB .nil pass0 (pa_cons (pv 3) (pa_cons (pv 5) (pa_cons (pv 6) pa_nil)))) (pg_lst (by rfl) (pgs_cons (pg_sub (pv 7) (pv 6) set_list) (pgs_cons (pg_name (i := 8) sc_law.nd rfl (.inl rfl)) pgs_nil)))))
            (pss_cons (ps_asg (pe_cO O__law_bent_rows (hr.mono (by decide)) pass0 rfl (pa_cons (pv 3) (pa_cons (pe_ix ixl (pv 5) pe_int (fun _ _ => rfl)) (pa_cons (pe_callB call_abs (by rfl) T.abs bb_abs (pa_cons (pe_ix ixl (pv 5) pe_int (fun _ _ => rfl)) pa_nil)) (pa_cons (pe_callB lenT (by rfl) T.len bb_len (pa_cons (pe_ix ixl (pv 5) pe_int (fun _ _ => rfl)) pa_nil)) pa_nil))))) (pg_lst (by rfl) (pgs_cons (pg_sub (pv 7) pe_int set_list) (pgs_cons (pg_name (i := 8) sc_law.nd rfl (.inl rfl)) pgs_nil))))
            (pss_one (ps_asg pe_non (pg_sub (pv 7) pe_int set_list)))))
          (pss_one (ps_if (pt_cmpR (neD hr.units) (pe_handX (k := 11) hP (hr.mono (by decide)) (told_handed T ET hG (hr.mono (by decide))) rfl (pe_lamV (T := TT PL PD) TL rfl inL oneL (lamS_by (show lamSB (defScope s_law) (lamScope lamL3) = true by decide +kernel)) rfl)) (pv 8) (nomark _))
            (pss_one (ps_ret pe_bl))
            pss_nil))))))))))
        (pss_cons (ps_set (i := 10) sc_law.nd rfl (.inl rfl) (pe_mkP mk C.at_ (hr.mono (by decide)) passL rfl (pa_cons (pe_ix ixl (pv 5) pe_int (fun _ _ => rfl)) (pa_cons (pe_ix ixl (pv 5) pe_int (fun _ _ => rfl)) (pa_cons (pe_ix ixl (pv 5) pe_int (fun _ _ => rfl)) (pa_cons (pe_ix ixl (pv 5) pe_int (fun _ _ => rfl)) (pa_cons (pe_ix ixl (pv 5) pe_int (fun _ _ => rfl)) pa_nil)))))))
        (pss_one (ps_if (pt_not (pt_val (pe_callG FD hG (hr.mono (by decide)) rfl mD kD bD .nil pass0 (pa_cons (pv 3) (pa_cons (pv 10) pa_nil)))))
          (pss_one (ps_ret pe_bl))
          pss_nil))))))
      (pss_one (ps_ret pe_bl))))), ?_⟩
    refine ⟨Z0, ρ0, linesD, z0, us0, rfl, fun lv H1 s1 dl => ?_⟩
    show tSeq _ _ _ [some (.ref a0), some lv, none, none, none, none, none, none, none, none, none] H1
    refine ⟨T0.ext s1, fun f1 c1 G1 x1 t1 nf1 a1 b1 => ⟨lw1 C mk, f1, c1, rfl, ⟨a1, b1⟩, Z0, lv, rfl, z0, dl.extN x1, fun u H2 s2 => ?_⟩⟩
    refine ⟨rfl, _, rfl, iteN (by decide) ?_⟩
    have hS2 : SqL K H2 a0 (ns.map V.int) := SqL.extN ((ExtN.same s1).trans (x1.trans (ExtN.same s2))) hS
    have T2 := t1.ext s2
    refine ⟨_, rfl, a0, _, rfl, .inl hS2, _, _, rfl, _, _, rfl, ?_⟩
    rw [List.length_map]
    have hn : ∃ n : Int, n = (if (if (8 : Int) < (ns.length : Int) then (8 : Int) else (ns.length : Int)) > 1 then (if (8 : Int) < (ns.length : Int) then (8 : Int) else (ns.length : Int)) else 1) ∧ 1 ≤ n ∧ n ≤ 8 := by
      refine ⟨_, rfl, ?_, ?_⟩ <;> split <;> split <;> omega
    obtain ⟨nt, en, n0, n1⟩ := hn
    rw [← en]
    clear hS T0 tb0 tb1 s1 dl x1 t1 a1 b1 s2
    refine ⟨nt, rfl, by omega, by omega, for_range (n := nt.toNat) (fun i σ G => ExtN H2 G ∧ Tabs (TT PL PD) G ∧ ∃ v2 v3 v4 v5 v6 v7 v8 v9 v10 : Option V, σ = [some (.ref a0), some lv, v2, v3, v4, v5, v6, v7, v8, v9, v10]) ⟨ExtN.refl _, T2, none, none, none, none, none, none, none, none, none, rfl⟩ ?_ ?_⟩
    · rintro i σ H3 hi ⟨x3, T3, v2, v3, v4, v5, v6, v7, v8, v9, v10, rfl⟩
      refine ⟨_, rfl, _, rfl, a0, ns, i, by rw [Int.zero_add]; rfl, SqL.extN x3 hS2, by omega, fun pp H4 s4 hpp P4 => ?_⟩
      have T4 := T3.ext s4
      refine ⟨6, rfl, by decide, by decide, for_range (n := 6) (TurnI H4 (TT PL PD) a0 lv (.int (0 + (i : Int))) pp) ⟨KpN.refl, P4, T4, v4, v5, v6, v7, v8, v9, v10, rfl, fun z => absurd z (by decide)⟩ ?_ ?_⟩
      · rintro j σ G hj ⟨kG, PG, tG, w4, w5, w6, w7, w8, w9, w10, rfl, _⟩
        refine ⟨_, rfl, by show 3 ≤ sizeLine; decide, fun sl hsl => ?_⟩
        have s5 : Same G (upd G sl (.lst [.int 2, .int 3, .int 5])) := Same.new hsl
        refine ⟨pp, sl, [2, 3, 5], 3, rfl, upd_same, PG.ne hsl, (by decide), by decide, by decide, by decide, by decide, PG.same s5, fun a size b many zs regs modes ends goal H5 ha P5 k5 m2 DR dv => ?_⟩
        have k5 : Keep pp G H5 := (Same.keep s5).trans k5
        have T5 : Tabs (TT PL PD) H5 := Tabs.pool tG PG k5
        have kH5 := kG.pool k5
        clear s5 hsl
        obtain ⟨_, xs, e, ea, na, dxs⟩ := dv.lstOf
        cases e
        obtain ⟨w0, w1, w2, w3, w4', _, _, _, _, _, rfl, ed, h0, h1, h2, h3, h4⟩ := five_all dxs rfl
        cases ed
        refine ⟨T5, fun f2 c2 G2 x2 t2 nf2 a2 b2 => ⟨lw2 C mk, f2, c2, rfl, ⟨a2, b2⟩, a, w0, w1, w2, w3, w4', _, _, _, _, _, rfl, x2 _ _ ea (fun ps m => by cases m), h0.z0.extN x2, h1.z0.extN x2, h2.z0.extN x2, h3.z0.extN x2, h4.z0.extN x2, DR.sz1, DR.sz2, DR.l3, DR.l4, fun _ u H6 s6 => ?_, fun e he => by rw [partsOk_iff.mpr DR.ok] at he; cases he⟩⟩
        refine ⟨rfl, _, rfl, iteN (by decide) ?_⟩
        have x6 := x2.trans (ExtN.same s6)
        have P6 := P5.extN x6
        have T6 := t2.ext s6
        have kH6 := kH5.ext x6
        have dv6 := dv.extN x6
        have ea6 := x6 _ _ ea (fun ps m => by cases m)
        have dxs6 : DtAll (Zp pp) H6 _ _ := DtAll.extN' x6 dxs
        clear kH5 T5 P5 x6 h0 h1 h2 h3 h4 dxs ea k5 x2 s6 t2 a2 b2
        refine ⟨_, rfl, pp, 6, rfl, by decide, Sm.of (by decide) (by decide), P6, fun at_ H7 at0 at1 P7 k7 => ?_⟩
        obtain ⟨at_, rfl⟩ : ∃ m : Nat, at_ = m := ⟨at_.toNat, by omega⟩
        have T7 := Tabs.pool T6 P6 k7
        have kH7 := kH6.pool k7
        have dv7 := dv6.fr k7.fr
        have ea7 := k7 _ _ ea6 na
        have dxs7 := dxs6.fr k7.fr
        refine ⟨_, rfl, a, _, rfl, .inl ea7, fun bl nbl => ?_⟩
        have nblpp : bl ≠ pp := P7.ne nbl
        have nb4 : ∀ b o, H4 b = some o → (∀ ps, o ≠ .tbl ps) → b ≠ pp → b ≠ bl := fun b o h z n => ne_of_none (kH7 b o h z n) nbl
        have ea6' := ea7
        have s8 : Same H7 (upd H7 bl (.lst [w0, w1, w2, w3, w4'])) := Same.new nbl
        have e8 : (upd H7 bl (.lst [w0, w1, w2, w3, w4'])) bl = some (.lst [w0, w1, w2, w3, w4']) := upd_same
        show tCons (tC .non) tNil _ (upd H7 bl (.lst [w0, w1, w2, w3, w4'])) _
        generalize upd H7 bl (.lst [w0, w1, w2, w3, w4']) = K8 at s8 e8 ⊢
        refine ⟨by show 2 ≤ sizeLine; decide, fun tp ntp => ?_⟩
        have s9 : Same K8 (upd K8 tp (.tup [.ref bl, .non])) := Same.new ntp
        have e9 : (upd K8 tp (.tup [.ref bl, .non])) tp = some (.tup [.ref bl, .non]) := upd_same
        generalize upd K8 tp (.tup [.ref bl, .non]) = H8 at s9 e9 ⊢
        refine ⟨tp, _, rfl, e9, rfl, _, _, rfl, _, _, rfl, rfl, ?_⟩
        have s78 := s8.trans s9
        have ebl := s9 _ _ e8
        have P8 := P7.same s78
        have T8 := T7.ext s78
        have kH8 := kH7.ext (ExtN.same s78)
        have dvO := dv7.fr (Fm.of s78)
        have ea8 := s78 _ _ ea7
        have dv8 : Dt (Zu (Zp pp) bl) H8 (.ref a) _ := (dv7.off nbl).fr (Fm.of s78)
        have dxs8 : DtAll (Zu (Zp pp) bl) H8 _ _ := (DtAll.off' nbl dxs7).fr (Fm.of s78)
        clear e8 s8 s9 e9 s78 ntp dxs7 ea7 dv7 kH7 T7 P7
        refine ⟨_, rfl, pp, 5, rfl, by decide, Sm.of (by decide) (by decide), P8, fun lt H9 lt0 lt1 P9 k9 => ?_⟩
        obtain ⟨lt, rfl⟩ : ∃ m : Nat, lt = m := ⟨lt.toNat, by omega⟩
        show tSeq _ _ _ [some (.ref a0), some lv, some (.int (0 + (i : Int))), some (.ref pp), some (.int (0 + (j : Int))), some (.ref a), some (.int (at_ : Nat)), some (.ref bl), some .non, some (.int (lt : Nat)), w10] H9
        have ebl9 := k9 _ _ ebl nblpp
        have T9 := Tabs.pool T8 P8 k9
        have kH9 := kH8.pool k9
        have zq : Zu (Zp pp) bl pp := .inl rfl
        have dvO9 := dvO.fr k9.fr
        have ea9 := k9 _ _ ea8 na
        have dv9 := dv8.fr (k9.frz zq)
        have dxs9 := dxs8.fr (k9.frz zq)
        have PZ9 : PoolZ (Zu (Zp pp) bl) H9 pp := ⟨P9, zq, fun x hx => by
          rcases hx with hx | hx
          · rw [show x = pp from hx]
            exact P9.some
          · rw [hx, ebl9]
            exact fun z => by cases z⟩
        clear P8 T8 kH8 dvO ea8 dv8 dxs8 k9 ebl
        refine join1 (xs := [w0, w1, w2, w3, w4']) rfl rfl rfl ebl9 (by simp; omega) fun xs' H10 alt ebl10 kq => ?_
        have kq : Keep bl H9 H10 := kq
        have zb : Zu (Zp pp) bl bl := .inr rfl
        obtain ⟨ds', dxs10, alt'⟩ : ∃ ds', DtAll (Zu (Zp pp) bl) H10 xs' ds' ∧ (ds' = [.int b, .list regs, .list modes, .list ends, .tuple goal] ∨ (at_ < 5 ∧ at_ < lt ∧ ds' = [PyData.int b, .list regs, .list modes, .list ends, .tuple goal].set lt .none)) := by
          rcases alt with rfl | ⟨l5, ll, rfl⟩
          · exact ⟨_, dxs9.fr (kq.frz zb), .inl rfl⟩
          · exact ⟨_, (dxs9.fr (kq.frz zb)).set .non, .inr ⟨l5, ll, rfl⟩⟩
        have lds : ds'.length = 5 := by
          rcases alt' with rfl | ⟨_, _, rfl⟩
          · rfl
          · rw [List.length_set]; rfl
        have P10 : PoolAt H10 pp := by
          obtain ⟨cc, ss, q1, q2, ep⟩ := P9
          exact ⟨cc, ss, q1, q2, kq _ _ ep nblpp.symm⟩
        have PZ10 : PoolZ (Zu (Zp pp) bl) H10 pp := ⟨P10, zq, fun x hx => by
          rcases hx with hx | hx
          · rw [show x = pp from hx]
            exact P10.some
          · rw [hx, ebl10]
            exact fun z => by cases z⟩
        have T10 := Tabs.but T9 ebl9 kq
        have k10 : KpN pp H4 H10 := fun x o h z n => kq _ _ (kH9 x o h z n) (nb4 x o h z n)
        have dv10 := dv9.fr (kq.frz zb)
        have ea10 := kq _ _ ea9 (fun m => by rw [m, nbl] at ea6'; cases ea6')
        have dxsO10 := dxs9.fr (kq.frz zb)
        clear dxs9 dv9 ea9 T9 PZ9 kH9 P9 ebl9
        refine ⟨_, rfl, _, _, rfl, rfl, _, rfl, ite2 (fun c => ?_) (fun c => ?_)⟩
        · have l5 : at_ < 5 := by
            have := of_decide_eq_true c
            omega
          refine ⟨_, rfl, _, rfl, _, rfl, Zu (Zp pp) bl, pp, a, at_, b, size, many, zs, regs, modes, ends, goal, rfl, l5, m2, PZ10, dv10, DR, fun v H11 odd due P11 k11 d11 BA => ?_⟩
          obtain ⟨rl, ys, rfl, erl, nrl, dys⟩ := d11.lstOf
          obtain ⟨vo, vd, rfl, dvo, dvd⟩ := two_all dys
          have ebl11 := k11 _ _ ebl10 nblpp
          have dxs11 := dxs10.fr (k11.frz zq)
          have lxs : xs'.length = 5 := by rw [dxs10.len, lds]
          refine ⟨rl, _, rfl, SqL.of erl, rfl, vo, _, rfl, _, rfl, _, rfl, bl, xs', at_, at_, rfl, rfl, ebl11, ixN_nat (by omega), vd, _, rfl, rfl, ?_⟩
          have kw : ∀ b o, H11 b = some o → b ≠ bl → (upd H11 bl (.lst (xs'.set at_ vo))) b = some o := fun b o h n => by rw [upd_ne n]; exact h
          have eblE : (upd H11 bl (.lst (xs'.set at_ vo))) bl = some (.lst (xs'.set at_ vo)) := upd_same
          have PE : PoolZ (Zu (Zp pp) bl) (upd H11 bl (.lst (xs'.set at_ vo))) pp := P11.upd_bl nblpp
          have TE := Tabs.but (Tabs.pool T10 PZ10.at_ k11) ebl11 kw
          have kkE : KpN pp H4 (upd H11 bl (.lst (xs'.set at_ vo))) := fun x o h z n => kw _ _ ((k10.pool k11) x o h z n) (nb4 x o h z n)
          generalize upd H11 bl (.lst (xs'.set at_ vo)) = HE at kw eblE PE TE kkE ⊢
          have kw : Keep bl H11 HE := kw
          have dxsE : DtAll (Zu (Zp pp) bl) HE (xs'.set at_ vo) (ds'.set at_ odd) := (dxs11.fr (kw.frz zb)).set (dvo.fr (kw.frz zb))
          have lenE : (ds'.set at_ odd).length = 5 := by rw [List.length_set]; exact lds
          have ddE := dvd.fr (kw.frz zb)
          have dvE := (dv10.fr (k11.frz zq)).fr (kw.frz zb)
          obtain ⟨u0, u1, u2, u3, u4, d0, d1, d2, d3, d4, exs, eds, y0, y1, y2, y3, y4⟩ := five_all dxsE lenE
          rw [exs] at eblE
          have BE : BentE d0 d1 d2 d3 d4 due := bent_err DR BA (fun j hj => by rw [← eds]; exact (bent_pre alt' lds l5).1 j hj) (by rw [← eds]; exact (bent_pre alt' lds l5).2.1) (fun j hj => by rw [← eds]; exact (bent_pre alt' lds l5).2.2 j hj)
          obtain ⟨er, her, hdue⟩ := BE.err
          refine ⟨TE, fun f3 c3 G3 x3 t3 nf3 a3 b3 => ⟨lw3 C mk, f3, c3, rfl, ⟨a3, b3⟩, bl, u0, u1, u2, u3, u4, d0, d1, d2, d3, d4, rfl, x3 _ _ eblE (fun ps m => by cases m), y0.z0.extN x3, y1.z0.extN x3, y2.z0.extN x3, y3.z0.extN x3, y4.z0.extN x3, BE.s1, BE.s2, BE.l3, BE.l4, fun ok => by rw [partsOk_iff.mpr ok] at her; (cases her), fun e he => ?_⟩⟩
          rw [her] at he
          cases he
          refine flies_due (hdue G3 u0 u3 u4 (y0.z0.extN x3) (y3.z0.extN x3) (y4.z0.extN x3)) fun vv H13 s13 dd => ?_
          have shd := (hdue G3 u0 u3 u4 (y0.z0.extN x3) (y3.z0.extN x3) (y4.z0.extN x3)).shp
          refine ⟨_, rfl, _, _, Z0, Z0, dd, (ddE.z0.extN x3).fr (Fm.of s13), shd.ok, shd.ok, _, rfl, ?_⟩
          rw [eqv_same shd]
          refine iteN (by decide) ?_
          have xE := x3.trans (ExtN.same s13)
          exact ⟨kkE.ext xE, PE.at_.extN xE, t3.ext s13, _, _, _, _, _, _, _, rfl, fun _ => ⟨a, size, b, many, zs, regs, modes, ends, goal, rfl, DR, (dvE.extN xE).un⟩⟩
        · have a5 : at_ = 5 := by
            have : ¬ ((at_ : Int) < 5) := fun z => c (decide_eq_true z)
            omega
          subst a5
          obtain ⟨_, _, _, _, _, _, _, _, _, _, e1, e2, g0, g1, g2, g3, g4⟩ := five_all dxsO10 rfl
          cases e1
          cases e2
          cases g0
          obtain ⟨ra, rs, rfl, era, nra, drs⟩ := g1.lstOf
          obtain ⟨ma, ms, rfl, ema, nma, dms⟩ := g2.lstOf
          have hds : ds' = [.int b, .list regs, .list modes, .list ends, .tuple goal] := by
            rcases alt' with h | ⟨h, _⟩
            · exact h
            · omega
          subst hds
          have hb := DR.sizeB
          refine ⟨_, rfl, _, rfl, a, _, 2, _, rfl, rfl, ea10, atI2, _, rfl, a, _, 0, _, rfl, rfl, ea10, atI0, b, rfl, _, rfl, a, _, 1, _, rfl, rfl, ea10, atI1, ra, rs, rfl, .inl era, ?_⟩
          refine ⟨Zu (Zp pp) bl, pp, ma, size, b, many, zs, regs, modes, ends, goal, by rw [show (if b < 0 then -b else b) = size from hb, drs.len, DR.lr]; rfl, PZ10, g2, DR, fun v H11 odd due P11 k11 d11 BR => ?_⟩
          obtain ⟨rl, ys, rfl, erl, nrl, dys⟩ := d11.lstOf
          obtain ⟨vo, vd, rfl, dvo, dvd⟩ := two_all dys
          have ebl11 := k11 _ _ ebl10 nblpp
          have dxs11 := dxs10.fr (k11.frz zq)
          have lxs : xs'.length = 5 := dxs10.len
          refine ⟨rl, _, rfl, SqL.of erl, rfl, vo, _, rfl, _, rfl, bl, xs', 2, 2, rfl, rfl, ebl11, ixN_nat (i := 2) (by omega), vd, _, rfl, rfl, ?_⟩
          have e2 : (upd H11 bl (.lst (xs'.set 2 vo))) bl = some (.lst (xs'.set 2 vo)) := upd_same
          refine ⟨_, rfl, bl, _, 3, 3, rfl, rfl, e2, ixN_nat (i := 3) (by rw [List.length_set]; omega), ?_⟩
          have kw : ∀ b o, H11 b = some o → b ≠ bl → (upd (upd H11 bl (.lst (xs'.set 2 vo))) bl (.lst ((xs'.set 2 vo).set 3 .non))) b = some o := fun b o h n => by rw [upd_ne n, upd_ne n]; exact h
          have eblE : (upd (upd H11 bl (.lst (xs'.set 2 vo))) bl (.lst ((xs'.set 2 vo).set 3 .non))) bl = some (.lst ((xs'.set 2 vo).set 3 .non)) := upd_same
          have PE : PoolZ (Zu (Zp pp) bl) (upd (upd H11 bl (.lst (xs'.set 2 vo))) bl (.lst ((xs'.set 2 vo).set 3 .non))) pp := (P11.upd_bl nblpp).upd_bl nblpp
          have TE := Tabs.but (Tabs.pool T10 PZ10.at_ k11) ebl11 kw
          have kkE : KpN pp H4 (upd (upd H11 bl (.lst (xs'.set 2 vo))) bl (.lst ((xs'.set 2 vo).set 3 .non))) := fun x o h z n => kw _ _ ((k10.pool k11) x o h z n) (nb4 x o h z n)
          generalize upd (upd H11 bl (.lst (xs'.set 2 vo))) bl (.lst ((xs'.set 2 vo).set 3 .non)) = HE at kw eblE PE TE kkE ⊢
          have kw : Keep bl H11 HE := kw
          have dxsE : DtAll (Zu (Zp pp) bl) HE ((xs'.set 2 vo).set 3 .non) (([PyData.int b, .list regs, .list modes, .list ends, .tuple goal].set 2 odd).set 3 .none) := ((dxs11.fr (kw.frz zb)).set (dvo.fr (kw.frz zb))).set .non
          have lenE : (([PyData.int b, .list regs, .list modes, .list ends, .tuple goal].set 2 odd).set 3 .none).length = 5 := rfl
          have ddE := dvd.fr (kw.frz zb)
          have dvE := (dv10.fr (k11.frz zq)).fr (kw.frz zb)
          obtain ⟨u0, u1, u2, u3, u4, d0, d1, d2, d3, d4, exs, eds, y0, y1, y2, y3, y4⟩ := five_all dxsE lenE
          rw [exs] at eblE
          have BE : BentE d0 d1 d2 d3 d4 due := by cases eds; exact bent_rows DR BR
          obtain ⟨er, her, hdue⟩ := BE.err
          refine ⟨TE, fun f3 c3 G3 x3 t3 nf3 a3 b3 => ⟨lw3 C mk, f3, c3, rfl, ⟨a3, b3⟩, bl, u0, u1, u2, u3, u4, d0, d1, d2, d3, d4, rfl, x3 _ _ eblE (fun ps m => by cases m), y0.z0.extN x3, y1.z0.extN x3, y2.z0.extN x3, y3.z0.extN x3, y4.z0.extN x3, BE.s1, BE.s2, BE.l3, BE.l4, fun ok => by rw [partsOk_iff.mpr ok] at her; (cases her), fun e he => ?_⟩⟩
          rw [her] at he
          cases he
          refine flies_due (hdue G3 u0 u3 u4 (y0.z0.extN x3) (y3.z0.extN x3) (y4.z0.extN x3)) fun vv H13 s13 dd => ?_
          have shd := (hdue G3 u0 u3 u4 (y0.z0.extN x3) (y3.z0.extN x3) (y4.z0.extN x3)).shp
          refine ⟨_, rfl, _, _, Z0, Z0, dd, (ddE.z0.extN x3).fr (Fm.of s13), shd.ok, shd.ok, _, rfl, ?_⟩
          rw [eqv_same shd]
          refine iteN (by decide) ?_
          have xE := x3.trans (ExtN.same s13)
          exact ⟨kkE.ext xE, PE.at_.extN xE, t3.ext s13, _, _, _, _, _, _, _, rfl, fun _ => ⟨a, size, b, many, zs, regs, modes, ends, goal, rfl, DR, (dvE.extN xE).un⟩⟩
      · rintro σ G ⟨kG, PG, tG, w4, w5, w6, w7, w8, w9, w10, rfl, pr⟩
        obtain ⟨a, size, b, many, zs, regs, modes, ends, goal, rfl, DR, dv⟩ := pr (by decide)
        obtain ⟨_, xs, e, ea, na, dxs⟩ := dv.lstOf
        cases e
        obtain ⟨w0, w1, w2, w3, w4', _, _, _, _, _, rfl, ed, h0, h1, h2, h3, h4⟩ := five_all dxs rfl
        cases ed
        cases h0
        refine ⟨_, rfl, a, _, 0, _, rfl, rfl, ea, atI0, _, rfl, a, _, 1, _, rfl, rfl, ea, atI1, _, rfl, a, _, 2, _, rfl, rfl, ea, atI2, _, rfl, a, _, 3, _, rfl, rfl, ea, atI_nat (j := 3) rfl, _, rfl, a, _, 4, _, rfl, rfl, ea, atI_nat (j := 4) rfl, fun c dc hc hd ne => ?_⟩
        have sN : Same G (upd (upd G dc (.own c)) c (.ins CP dc [])) := new_same hc hd
        have upN : ∀ {v : V} {d : PyData}, Dt (Zp pp) G v d → Dt Z0 (upd (upd G dc (.own c)) c (.ins CP dc [])) v d := fun h => h.z0.fr (Fm.of sN)
        refine ⟨c, dc, .int b, w1, w2, w3, w4', .int b, .list regs, .list modes, .list ends, .tuple goal, rfl, upd_same, .int b, upN h1, upN h2, upN h3, upN h4, DR.sz1, DR.sz2, DR.l3, DR.l4, fun _ H5 k PA => ⟨rfl, ?_⟩, fun e he => by rw [partsOk_iff.mpr DR.ok] at he; cases he⟩
        have s5 : Same G H5 := fun b o e => k b o (sN _ _ e) (ne_of_none e hc)
        refine ⟨_, rfl, _, rfl, pp, c, b, size, many, zs, regs, modes, ends, goal, rfl, PG.same s5, ⟨PA, DR.ok, DR.sz1, DR.sz2⟩, DR, tG.ext s5, fun H6 k6 t6 => ⟨_, rfl, iteN (by decide) ?_⟩⟩
        have xAll : ExtN H2 H6 := by
          have e1 : ExtN H2 H4 := x3.trans (ExtN.same s4)
          have k1 : KpN pp H4 H6 := fun x o h z n => k6 _ _ (s5 _ _ (kG x o h z n)) z n
          intro x o h z
          exact k1 _ _ (e1 _ _ h z) z (ne_of_none (x3 _ _ h z) hpp)
        exact ⟨xAll, t6, _, _, _, _, _, _, _, _, _, rfl⟩
    · rintro σ G ⟨x1, T1, v2, v3, v4, v5, v6, v7, v8, v9, v10, rfl⟩
      exact q _
end
theorem pfun_mk {K : PySem.W.Frag} {C p g : Addr} {nm q : Str} {st : Stmt} {rest : List Value} {oc : Value} {od an : Option Addr} {osl : Array (Option Value)} {kV doc pm cdv ct : Value}
    (b : ∀ (kV doc pm : Value) (an : Option Addr) (cdv ct : Value) (us : List Value), us.length = 1 → bindArgs (PySem.W.fnOf nm q (defArgs st) (defBody st) (defScope st) .none kV doc pm an cdv ct) ⟨us, []⟩ = pure ((["self"] : List Str).zip us))
    (a : PySem.W.findIn K (.ref C) nm = some (some (.ref p))) (s : PySem.W.specialIn K (.ref p) "__get__" = some (some (.builtin "property.__get__"))) (t : PySem.W.takesIn K (.ref p) = some true) (r : PySem.W.recIn K p "property" = some (.ref g :: rest))
    (l : K.lookup g = some ⟨oc, od, .func (PySem.W.fnOf nm q (defArgs st) (defBody st) (defScope st) .none kV doc pm an cdv ct), osl⟩) (c : PySem.W.codeIn K cdv q = true) (k : PySem.W.keepIn K (.ref g) = true) : PFun K C nm q st :=
  ⟨p, g, _, ⟨a, s, t, rest, r⟩, fun_mk (st := st) l c k, (fun_mk (st := st) l c k).binds (ps := ["self"]) b⟩
section
theorem ba0 {ws : List Value} (l : ws.length = 0) : ws = [] := List.eq_nil_of_length_eq_zero l
theorem ba1 {us : List Value} (l : us.length = 1) : ∃ a, us = [a] := by
  obtain ⟨a, t, rfl⟩ := List.exists_cons_of_length_eq_add_one l
  obtain rfl := ba0 (Nat.succ.inj l)
  exact ⟨a, rfl⟩
theorem ba2 {us : List Value} (l : us.length = 2) : ∃ a b, us = [a, b] := by
  obtain ⟨a, t, rfl⟩ := List.exists_cons_of_length_eq_add_one l
  obtain ⟨b, rfl⟩ := ba1 (Nat.succ.inj l)
  exact ⟨a, b, rfl⟩
theorem ba3 {us : List Value} (l : us.length = 3) : ∃ a b c, us = [a, b, c] := by
  obtain ⟨a, t, rfl⟩ := List.exists_cons_of_length_eq_add_one l
  obtain ⟨b, c, rfl⟩ := ba2 (Nat.succ.inj l)
  exact ⟨a, b, c, rfl⟩
theorem ba4 {us : List Value} (l : us.length = 4) : ∃ a b c d, us = [a, b, c, d] := by
  obtain ⟨a, t, rfl⟩ := List.exists_cons_of_length_eq_add_one l
  obtain ⟨b, c, d, rfl⟩ := ba3 (Nat.succ.inj l)
  exact ⟨a, b, c, d, rfl⟩
theorem ba5 {us : List Value} (l : us.length = 5) : ∃ a b c d e, us = [a, b, c, d, e] := by
  obtain ⟨a, t, rfl⟩ := List.exists_cons_of_length_eq_add_one l
  obtain ⟨b, c, d, e, rfl⟩ := ba4 (Nat.succ.inj l)
  exact ⟨a, b, c, d, e, rfl⟩
theorem ba6 {us : List Value} (l : us.length = 6) : ∃ a b c d e f, us = [a, b, c, d, e, f] := by
  obtain ⟨a, t, rfl⟩ := List.exists_cons_of_length_eq_add_one l
  obtain ⟨b, c, d, e, f, rfl⟩ := ba5 (Nat.succ.inj l)
  exact ⟨a, b, c, d, e, f, rfl⟩
end
/-! ### the errors; what the top has written -/
section
variable {P : Program} {w : World} {K : PySem.W.Frag} {mg : Str → Option Value} {base : Heap}
abbrev si_InvalidBase : Stmt := inClass (top 4) 0
theorem sci_InvalidBase : FnScope ["self", "value"] ["self", "value"] (defScope si_InvalidBase) := ⟨rfl, rfl, rfl, by decide +kernel, rfl, by decide +kernel, by decide +kernel⟩
theorem in_InvalidBase {C fI : Addr} {fd : FuncData} (F : Fun K "__init__" "InvalidBase.__init__" si_InvalidBase fI fd) (L : Cl K C fI [.type "ValueError", .type "Exception", .type "BaseException", .type "object"] "ValueError.__new__" ["value"]) (m : mg "InvalidBase" = some (.ref C)) : XRz P w K mg base "InvalidBase" C 1 (sp1n "value" C) := by
  obtain ⟨oc, od, kV, doc, pm, an, cdv, ct, osl, rfl, lk, hcd⟩ := F.ex
  refine ⟨fI, _, ["self", "value"], "ValueError", "ValueError.__new__", "ValueError.__init__", [.type "ValueError", .type "Exception", .type "BaseException", .type "object"], PySem.F.excBase_ValueError, L.T, m, F.ok sci_InvalidBase (fun vs H Q E h => ?_) (fun cdv A outer s H vs Q E hr h => ?_),
    ⟨fun s us ws _ l1 l2 => match us, ws, l1, l2 with | [_, _], [], _, _ => .of_eq rfl, fun r _ => r⟩, L.look.xf.exC, L.ty⟩
  · obtain ⟨a, v, rfl, _⟩ := h
    rfl
  · obtain ⟨a, v, rfl, ea, q⟩ := h
    refine ⟨_, pss_one (ps_xst PySem.F.store_ValueError (newId := "ValueError.__new__") (pv 0) (pv 1)), ?_⟩
    exact ⟨_, rfl, _, rfl, a, C, fI, rfl, L.T, L.no _ (by simp), .inl ⟨ea, q⟩⟩
abbrev si_InvalidRegisters : Stmt := inClass (top 5) 0
theorem sci_InvalidRegisters : FnScope ["self", "number"] ["self", "number"] (defScope si_InvalidRegisters) := ⟨rfl, rfl, rfl, by decide +kernel, rfl, by decide +kernel, by decide +kernel⟩
theorem in_InvalidRegisters {C fI : Addr} {fd : FuncData} (F : Fun K "__init__" "InvalidRegisters.__init__" si_InvalidRegisters fI fd) (L : Cl K C fI [.type "ValueError", .type "Exception", .type "BaseException", .type "object"] "ValueError.__new__" ["number"]) (m : mg "InvalidRegisters" = some (.ref C)) : XRz P w K mg base "InvalidRegisters" C 1 (sp1n "number" C) := by
  obtain ⟨oc, od, kV, doc, pm, an, cdv, ct, osl, rfl, lk, hcd⟩ := F.ex
  refine ⟨fI, _, ["self", "number"], "ValueError", "ValueError.__new__", "ValueError.__init__", [.type "ValueError", .type "Exception", .type "BaseException", .type "object"], PySem.F.excBase_ValueError, L.T, m, F.ok sci_InvalidRegisters (fun vs H Q E h => ?_) (fun cdv A outer s H vs Q E hr h => ?_),
    ⟨fun s us ws _ l1 l2 => match us, ws, l1, l2 with | [_, _], [], _, _ => .of_eq rfl, fun r _ => r⟩, L.look.xf.exC, L.ty⟩
  · obtain ⟨a, v, rfl, _⟩ := h
    rfl
  · obtain ⟨a, v, rfl, ea, q⟩ := h
    refine ⟨_, pss_one (ps_xst PySem.F.store_ValueError (newId := "ValueError.__new__") (pv 0) (pv 1)), ?_⟩
    exact ⟨_, rfl, _, rfl, a, C, fI, rfl, L.T, L.no _ (by simp), .inl ⟨ea, q⟩⟩
abbrev si_InvalidModes : Stmt := inClass (top 6) 0
theorem sci_InvalidModes : FnScope ["self", "number"] ["self", "number"] (defScope si_InvalidModes) := ⟨rfl, rfl, rfl, by decide +kernel, rfl, by decide +kernel, by decide +kernel⟩
theorem in_InvalidModes {C fI : Addr} {fd : FuncData} (F : Fun K "__init__" "InvalidModes.__init__" si_InvalidModes fI fd) (L : Cl K C fI [.type "ValueError", .type "Exception", .type "BaseException", .type "object"] "ValueError.__new__" ["number"]) (m : mg "InvalidModes" = some (.ref C)) : XRz P w K mg base "InvalidModes" C 1 (sp1n "number" C) := by
  obtain ⟨oc, od, kV, doc, pm, an, cdv, ct, osl, rfl, lk, hcd⟩ := F.ex
  refine ⟨fI, _, ["self", "number"], "ValueError", "ValueError.__new__", "ValueError.__init__", [.type "ValueError", .type "Exception", .type "BaseException", .type "object"], PySem.F.excBase_ValueError, L.T, m, F.ok sci_InvalidModes (fun vs H Q E h => ?_) (fun cdv A outer s H vs Q E hr h => ?_),
    ⟨fun s us ws _ l1 l2 => match us, ws, l1, l2 with | [_, _], [], _, _ => .of_eq rfl, fun r _ => r⟩, L.look.xf.exC, L.ty⟩
  · obtain ⟨a, v, rfl, _⟩ := h
    rfl
  · obtain ⟨a, v, rfl, ea, q⟩ := h
    refine ⟨_, pss_one (ps_xst PySem.F.store_ValueError (newId := "ValueError.__new__") (pv 0) (pv 1)), ?_⟩
    exact ⟨_, rfl, _, rfl, a, C, fI, rfl, L.T, L.no _ (by simp), .inl ⟨ea, q⟩⟩
abbrev si_InvalidEnds : Stmt := inClass (top 8) 0
theorem sci_InvalidEnds : FnScope ["self", "value"] ["self", "value"] (defScope si_InvalidEnds) := ⟨rfl, rfl, rfl, by decide +kernel, rfl, by decide +kernel, by decide +kernel⟩
theorem in_InvalidEnds {C fI : Addr} {fd : FuncData} (F : Fun K "__init__" "InvalidEnds.__init__" si_InvalidEnds fI fd) (L : Cl K C fI [.type "ValueError", .type "Exception", .type "BaseException", .type "object"] "ValueError.__new__" ["value"]) (m : mg "InvalidEnds" = some (.ref C)) : XRz P w K mg base "InvalidEnds" C 1 (sp1n "value" C) := by
  obtain ⟨oc, od, kV, doc, pm, an, cdv, ct, osl, rfl, lk, hcd⟩ := F.ex
  refine ⟨fI, _, ["self", "value"], "ValueError", "ValueError.__new__", "ValueError.__init__", [.type "ValueError", .type "Exception", .type "BaseException", .type "object"], PySem.F.excBase_ValueError, L.T, m, F.ok sci_InvalidEnds (fun vs H Q E h => ?_) (fun cdv A outer s H vs Q E hr h => ?_),
    ⟨fun s us ws _ l1 l2 => match us, ws, l1, l2 with | [_, _], [], _, _ => .of_eq rfl, fun r _ => r⟩, L.look.xf.exC, L.ty⟩
  · obtain ⟨a, v, rfl, _⟩ := h
    rfl
  · obtain ⟨a, v, rfl, ea, q⟩ := h
    refine ⟨_, pss_one (ps_xst PySem.F.store_ValueError (newId := "ValueError.__new__") (pv 0) (pv 1)), ?_⟩
    exact ⟨_, rfl, _, rfl, a, C, fI, rfl, L.T, L.no _ (by simp), .inl ⟨ea, q⟩⟩
abbrev si_InvalidResult : Stmt := inClass (top 9) 0
theorem sci_InvalidResult : FnScope ["self", "value"] ["self", "value"] (defScope si_InvalidResult) := ⟨rfl, rfl, rfl, by decide +kernel, rfl, by decide +kernel, by decide +kernel⟩
theorem in_InvalidResult {C fI : Addr} {fd : FuncData} (F : Fun K "__init__" "InvalidResult.__init__" si_InvalidResult fI fd) (L : Cl K C fI [.type "ValueError", .type "Exception", .type "BaseException", .type "object"] "ValueError.__new__" ["value"]) (m : mg "InvalidResult" = some (.ref C)) : XRz P w K mg base "InvalidResult" C 1 (sp1n "value" C) := by
  obtain ⟨oc, od, kV, doc, pm, an, cdv, ct, osl, rfl, lk, hcd⟩ := F.ex
  refine ⟨fI, _, ["self", "value"], "ValueError", "ValueError.__new__", "ValueError.__init__", [.type "ValueError", .type "Exception", .type "BaseException", .type "object"], PySem.F.excBase_ValueError, L.T, m, F.ok sci_InvalidResult (fun vs H Q E h => ?_) (fun cdv A outer s H vs Q E hr h => ?_),
    ⟨fun s us ws _ l1 l2 => match us, ws, l1, l2 with | [_, _], [], _, _ => .of_eq rfl, fun r _ => r⟩, L.look.xf.exC, L.ty⟩
  · obtain ⟨a, v, rfl, _⟩ := h
    rfl
  · obtain ⟨a, v, rfl, ea, q⟩ := h
    refine ⟨_, pss_one (ps_xst PySem.F.store_ValueError (newId := "ValueError.__new__") (pv 0) (pv 1)), ?_⟩
    exact ⟨_, rfl, _, rfl, a, C, fI, rfl, L.T, L.no _ (by simp), .inl ⟨ea, q⟩⟩
abbrev si_UnknownName : Stmt := inClass (top 11) 0
theorem sci_UnknownName : FnScope ["self", "value"] ["self", "value"] (defScope si_UnknownName) := ⟨rfl, rfl, rfl, by decide +kernel, rfl, by decide +kernel, by decide +kernel⟩
theorem in_UnknownName {C fI : Addr} {fd : FuncData} (F : Fun K "__init__" "UnknownName.__init__" si_UnknownName fI fd) (L : Cl K C fI [.type "LookupError", .type "Exception", .type "BaseException", .type "object"] "LookupError.__new__" ["value"]) (m : mg "UnknownName" = some (.ref C)) : XRz P w K mg base "UnknownName" C 1 (sp1n "value" C) := by
  obtain ⟨oc, od, kV, doc, pm, an, cdv, ct, osl, rfl, lk, hcd⟩ := F.ex
  refine ⟨fI, _, ["self", "value"], "LookupError", "LookupError.__new__", "LookupError.__init__", [.type "LookupError", .type "Exception", .type "BaseException", .type "object"], PySem.F.excBase_LookupError, L.T, m, F.ok sci_UnknownName (fun vs H Q E h => ?_) (fun cdv A outer s H vs Q E hr h => ?_),
    ⟨fun s us ws _ l1 l2 => match us, ws, l1, l2 with | [_, _], [], _, _ => .of_eq rfl, fun r _ => r⟩, L.look.xf.exC, L.ty⟩
  · obtain ⟨a, v, rfl, _⟩ := h
    rfl
  · obtain ⟨a, v, rfl, ea, q⟩ := h
    refine ⟨_, pss_one (ps_xst PySem.F.store_LookupError (newId := "LookupError.__new__") (pv 0) (pv 1)), ?_⟩
    exact ⟨_, rfl, _, rfl, a, C, fI, rfl, L.T, L.no _ (by simp), .inl ⟨ea, q⟩⟩
abbrev si_InvalidSign : Stmt := inClass (top 10) 0
theorem sci_InvalidSign : FnScope ["self", "value"] ["self", "value"] (defScope si_InvalidSign) := ⟨rfl, rfl, rfl, by decide +kernel, rfl, by decide +kernel, by decide +kernel⟩
theorem in_InvalidSign {C fI : Addr} {fd : FuncData} (F : Fun K "__init__" "InvalidSign.__init__" si_InvalidSign fI fd) (L : Cl K C fI [.type "ValueError", .type "Exception", .type "BaseException", .type "object"] "ValueError.__new__" ["value"]) (m : mg "InvalidSign" = some (.ref C)) : XRz P w K mg base "InvalidSign" C 1 (sp1n "value" C) := by
  obtain ⟨oc, od, kV, doc, pm, an, cdv, ct, osl, rfl, lk, hcd⟩ := F.ex
  refine ⟨fI, _, ["self", "value"], "ValueError", "ValueError.__new__", "ValueError.__init__", [.type "ValueError", .type "Exception", .type "BaseException", .type "object"], PySem.F.excBase_ValueError, L.T, m, F.ok sci_InvalidSign (fun vs H Q E h => ?_) (fun cdv A outer s H vs Q E hr h => ?_),
    ⟨fun s us ws _ l1 l2 => match us, ws, l1, l2 with | [_, _], [], _, _ => .of_eq rfl, fun r _ => r⟩, L.look.xf.exC, L.ty⟩
  · obtain ⟨a, v, rfl, _⟩ := h
    rfl
  · obtain ⟨a, v, rfl, ea, q⟩ := h
    refine ⟨_, pss_one (ps_xst PySem.F.store_ValueError (newId := "ValueError.__new__") (pv 0) (pv 1)), ?_⟩
    exact ⟨_, rfl, _, rfl, a, C, fI, rfl, L.T, L.no _ (by simp), .inl ⟨ea, q⟩⟩
abbrev si_InvalidNumber : Stmt := inClass (top 3) 0
theorem sci_InvalidNumber : FnScope ["self", "value"] ["self", "value"] (defScope si_InvalidNumber) := ⟨rfl, rfl, rfl, by decide +kernel, rfl, by decide +kernel, by decide +kernel⟩
theorem in_InvalidNumber {C fI : Addr} {fd : FuncData} (F : Fun K "__init__" "InvalidNumber.__init__" si_InvalidNumber fI fd) (L : Cl K C fI [.type "ValueError", .type "Exception", .type "BaseException", .type "object"] "ValueError.__new__" ["value"]) (m : mg "InvalidNumber" = some (.ref C)) : XRz P w K mg base "InvalidNumber" C 1 (sp1n "value" C) := by
  obtain ⟨oc, od, kV, doc, pm, an, cdv, ct, osl, rfl, lk, hcd⟩ := F.ex
  refine ⟨fI, _, ["self", "value"], "ValueError", "ValueError.__new__", "ValueError.__init__", [.type "ValueError", .type "Exception", .type "BaseException", .type "object"], PySem.F.excBase_ValueError, L.T, m, F.ok sci_InvalidNumber (fun vs H Q E h => ?_) (fun cdv A outer s H vs Q E hr h => ?_),
    ⟨fun s us ws _ l1 l2 => match us, ws, l1, l2 with | [_, _], [], _, _ => .of_eq rfl, fun r _ => r⟩, L.look.xf.exC, L.ty⟩
  · obtain ⟨a, v, rfl, _⟩ := h
    rfl
  · obtain ⟨a, v, rfl, ea, q⟩ := h
    refine ⟨_, pss_one (ps_xst PySem.F.store_ValueError (newId := "ValueError.__new__") (pv 0) (pv 1)), ?_⟩
    exact ⟨_, rfl, _, rfl, a, C, fI, rfl, L.T, L.no _ (by simp), .inl ⟨ea, q⟩⟩
abbrev si_InvalidRule : Stmt := inClass (top 2) 0
theorem sci_InvalidRule : FnScope ["self", "value"] ["self", "value"] (defScope si_InvalidRule) := ⟨rfl, rfl, rfl, by decide +kernel, rfl, by decide +kernel, by decide +kernel⟩
theorem in_InvalidRule {C fI : Addr} {fd : FuncData} (F : Fun K "__init__" "InvalidRule.__init__" si_InvalidRule fI fd) (L : Cl K C fI [.type "ValueError", .type "Exception", .type "BaseException", .type "object"] "ValueError.__new__" ["value"]) (m : mg "InvalidRule" = some (.ref C)) : XRz P w K mg base "InvalidRule" C 1 (sp1n "value" C) := by
  obtain ⟨oc, od, kV, doc, pm, an, cdv, ct, osl, rfl, lk, hcd⟩ := F.ex
  refine ⟨fI, _, ["self", "value"], "ValueError", "ValueError.__new__", "ValueError.__init__", [.type "ValueError", .type "Exception", .type "BaseException", .type "object"], PySem.F.excBase_ValueError, L.T, m, F.ok sci_InvalidRule (fun vs H Q E h => ?_) (fun cdv A outer s H vs Q E hr h => ?_),
    ⟨fun s us ws _ l1 l2 => match us, ws, l1, l2 with | [_, _], [], _, _ => .of_eq rfl, fun r _ => r⟩, L.look.xf.exC, L.ty⟩
  · obtain ⟨a, v, rfl, _⟩ := h
    rfl
  · obtain ⟨a, v, rfl, ea, q⟩ := h
    refine ⟨_, pss_one (ps_xst PySem.F.store_ValueError (newId := "ValueError.__new__") (pv 0) (pv 1)), ?_⟩
    exact ⟨_, rfl, _, rfl, a, C, fI, rfl, L.T, L.no _ (by simp), .inl ⟨ea, q⟩⟩
abbrev si_InvalidRow : Stmt := inClass (top 7) 0
theorem sci_InvalidRow : FnScope ["self", "mode", "number"] ["self", "mode", "number"] (defScope si_InvalidRow) := ⟨rfl, rfl, rfl, by decide +kernel, rfl, by decide +kernel, by decide +kernel⟩
theorem in_InvalidRow {C fI : Addr} {fd : FuncData} (F : Fun K "__init__" "InvalidRow.__init__" si_InvalidRow fI fd) (L : Cl K C fI [.type "ValueError", .type "Exception", .type "BaseException", .type "object"] "ValueError.__new__" ["mode", "number"]) (m : mg "InvalidRow" = some (.ref C)) : XRz P w K mg base "InvalidRow" C 2 (sp2n "mode" "number" C) := by
  obtain ⟨oc, od, kV, doc, pm, an, cdv, ct, osl, rfl, lk, hcd⟩ := F.ex
  refine ⟨fI, _, ["self", "mode", "number"], "ValueError", "ValueError.__new__", "ValueError.__init__", [.type "ValueError", .type "Exception", .type "BaseException", .type "object"], PySem.F.excBase_ValueError, L.T, m, F.ok sci_InvalidRow (fun vs H Q E h => ?_) (fun cdv A outer s H vs Q E hr h => ?_),
    ⟨fun s us ws _ l1 l2 => match us, ws, l1, l2 with | [_, _, _], [], _, _ => .of_eq rfl, fun r _ => r⟩, L.look.xf.exC, L.ty⟩
  · obtain ⟨a, v, u, rfl, _⟩ := h
    rfl
  · obtain ⟨a, v, u, rfl, ea, q⟩ := h
    refine ⟨_, pss_cons (ps_xst PySem.F.store_ValueError (newId := "ValueError.__new__") (pv 0) (pv 1)) (pss_one (ps_xst PySem.F.store_ValueError (newId := "ValueError.__new__") (pv 0) (pv 2))), ?_⟩
    refine ⟨_, rfl, _, rfl, a, C, fI, rfl, L.T, L.no _ (by simp), .inl ⟨ea, fun dx n ne => ?_⟩⟩
    exact ⟨_, rfl, _, rfl, a, C, fI, rfl, L.T, L.no _ (by simp), .inr ⟨dx, _, upd_same, (by rw [upd_ne ne, upd_same]), (by show 1 ≤ 900; decide), q dx n ne⟩⟩
end
section
variable {K : PySem.W.Frag}
/-- an __init__ without defaults -/
def IFun (K : PySem.W.Frag) (C : Addr) (q : Str) (st : Stmt) (ps : List Str) : Prop := ∃ f fd, Mk K C f ∧ Fun K "__init__" q st f fd ∧ Binds K fd ps []
theorem ifun_mk {C f : Addr} {q : Str} {st : Stmt} {ps : List Str} {oc : Value} {od an : Option Addr} {osl : Array (Option Value)} {kV doc pm cdv ct : Value}
    (b : ∀ (kV doc pm : Value) (an : Option Addr) (cdv ct : Value) (us : List Value), us.length = ps.length → bindArgs (PySem.W.fnOf "__init__" q (defArgs st) (defBody st) (defScope st) .none kV doc pm an cdv ct) ⟨us, []⟩ = pure (ps.zip us))
    (a : PySem.W.findIn K (.ref C) "__init__" = some (some (.ref f))) (l : K.lookup f = some ⟨oc, od, .func (PySem.W.fnOf "__init__" q (defArgs st) (defBody st) (defScope st) .none kV doc pm an cdv ct), osl⟩) (c : PySem.W.codeIn K cdv q = true) (k : PySem.W.keepIn K (.ref f) = true)
    (m : PySem.W.makesIn K C = true) (i : PySem.W.isFn K (.ref f) = true) (kc : PySem.W.keepIn K (.ref C) = true) : IFun K C q st ps :=
  ⟨f, _, ⟨m, a, i, kc⟩, fun_mk (st := st) l c k, (fun_mk (st := st) l c k).binds (ps := ps) b⟩
/-- a method -/
def MeFun (K : PySem.W.Frag) (C : Addr) (nm q : Str) (st : Stmt) (ps : List Str) : Prop := ∃ f fd, Meth K C nm f ∧ Fun K nm q st f fd ∧ Binds K fd ps []
def IxFun (K : PySem.W.Frag) (C : Addr) (q : Str) (st : Stmt) (ps : List Str) : Prop := ∃ f fd, PySem.W.findIn K (.ref C) "__getitem__" = some (some (.ref f)) ∧ PySem.W.fnIn K f = true ∧ PySem.W.isFn K (.ref f) = true ∧ Fun K "__getitem__" q st f fd ∧ Binds K fd ps []
theorem ixfun_mk {C f : Addr} {q : Str} {st : Stmt} {ps : List Str} {oc : Value} {od an : Option Addr} {osl : Array (Option Value)} {kV doc pm cdv ct : Value}
    (b : ∀ (kV doc pm : Value) (an : Option Addr) (cdv ct : Value) (us : List Value), us.length = ps.length → bindArgs (PySem.W.fnOf "__getitem__" q (defArgs st) (defBody st) (defScope st) .none kV doc pm an cdv ct) ⟨us, []⟩ = pure (ps.zip us))
    (a : PySem.W.findIn K (.ref C) "__getitem__" = some (some (.ref f))) (l : K.lookup f = some ⟨oc, od, .func (PySem.W.fnOf "__getitem__" q (defArgs st) (defBody st) (defScope st) .none kV doc pm an cdv ct), osl⟩) (c : PySem.W.codeIn K cdv q = true) (k : PySem.W.keepIn K (.ref f) = true)
    (i : PySem.W.isFn K (.ref f) = true) (n : PySem.W.fnIn K f = true) : IxFun K C q st ps := ⟨f, _, a, n, i, fun_mk (st := st) l c k, (fun_mk (st := st) l c k).binds (ps := ps) b⟩
theorem cls_mk {C : Addr} (t : (PySem.W.plainGet K C Str.empty, PySem.W.hasDictIn K C, PySem.W.plainOver K C) = (true, true, true)) (u : PySem.W.findIn K (.ref C) "__setattr__" = some (some (.builtin "object.__setattr__"))) : Cls K C := by
  simp only [Prod.mk.injEq] at t
  obtain ⟨t1, t2, t3⟩ := t
  exact ⟨t1, t2, t3, u⟩
/-- no attributes of the class by these names -/
def NoAts (K : PySem.W.Frag) (C : Addr) (fs : List Str) : Prop := fs.map (fun f => PySem.W.findIn K (.ref C) f) = fs.map fun _ => some none
theorem NoAts.at {C : Addr} {fs : List Str} (h : NoAts K C fs) (i : Nat) {f : Str} (e : fs[i]? = some f := by rfl) : PySem.W.findIn K (.ref C) f = some none := by
  have h2 : (fs.map (fun f => PySem.W.findIn K (.ref C) f))[i]? = (fs.map fun _ => some none)[i]? := congrArg (fun l : List (Option (Option Value)) => l[i]?) h
  rw [List.getElem?_map, List.getElem?_map, e] at h2
  exact Option.some.inj h2
theorem oneP_of {K : PySem.W.Frag} {mg : Str → Option Value} (h : Has K mg "_law_told" s__law_told ["_law_call"]) : ∃ g cdv, OneP K mg "_law_told" "_law_call" N__law_told s__law_told g cdv := by
  obtain ⟨f, fd, m, b, F⟩ := h
  obtain ⟨oc, od, kV, doc, pm, an, cdv, ct, osl, rfl, lk, hcd⟩ := F.ex
  exact ⟨f, cdv, m, F.kp, ⟨oc, kV, doc, pm, ct, od, an, osl, lk, b⟩, hcd, sc__law_told, rfl, .inl (by decide +kernel)⟩
theorem lift_fn {P : Program} {w : World} {mg : Str → Option Value} {base : Heap} {CX : CXT} {k k' : Nat} {f : Addr} {fd : FuncData} {ps : List Str} {sp : Sp} (F : FnOk P w K mg base CX k f fd ps sp) (l : k ≤ k') : FnOk P w K mg base CX k' f fd ps sp :=
  ⟨F.len, fun A outer s H args us vs Q E hr e0 bt r h => F.run A outer s H args us vs Q E (hr.mono l) e0 bt r h⟩
theorem reg_named : ∀ d, regD d = true → ∃ s rest, d = .tuple (.str s :: rest) := fun d h => by
  unfold regD at h
  simp only [Bool.and_eq_true] at h
  obtain ⟨a, b, c, _⟩ := h
  have e := isTup_eq a
  rw [items_of (of_decide_eq_true b)] at e
  have c' := c
  cases k : itD d 0 <;> rw [k] at c' <;> first | cases c' | skip
  rename_i s
  refine ⟨s, [itD d 1], ?_⟩
  refine e.trans ?_
  show PyData.tuple [itD d 0, itD d 1] = _
  rw [k]
theorem mode_named : ∀ d, modeD d = true → ∃ s rest, d = .tuple (.str s :: rest) := fun d h => by
  have h0 := h
  unfold modeD at h
  simp only [Bool.and_eq_true] at h
  obtain ⟨a, b, _⟩ := h
  have e := isTup_eq a
  rw [items_of (of_decide_eq_true b)] at e
  refine ⟨nmOf d, [itD d 1, itD d 2], ?_⟩
  have k := modeD_name h0
  refine e.trans ?_
  show PyData.tuple [itD d 0, itD d 1, itD d 2] = _
  rw [k]
end
def spLawL (K : PySem.W.Frag) : List Addr → Sp
  | [P0, P1] => spLaw K P0 P1
  | _ => fun _ _ _ _ => True
theorem wantL (K : PySem.W.Frag) (Ps : List Addr) (H : Hp) (a : Addr) (ns : List Int) (hl : ns.length ≤ 63) (t : ∀ p ∈ Ps, H p = some (.tbl #[])) (hS : SqL K H a (ns.map V.int)) : spLawL K Ps [.ref a] H (fun v _ => v = .bl true) fun _ _ _ => False := by
  unfold spLawL
  split
  · exact ⟨a, ns, rfl, hS, hl, t _ (by simp), t _ (by simp), fun _ => rfl⟩
  · trivial
theorem all_mk {l : PySem.W.OpenLaw} {w : World} {K : PySem.W.Frag} {h : Heap} {mg : Str → Option Value} {fa fL fV fB ccL PL ccV PV C_InvalidBase C_InvalidRegisters C_InvalidModes C_InvalidRow C_InvalidEnds C_InvalidResult C_UnknownName C_InvalidSign C_InvalidNumber C_InvalidRule aR CP : Addr} {otR : Obj} {itR : Array Value} {nR : Nat} {tkL tkS : Tok} {kVL docL pmL ctL ocL kVV docV pmV ctV ocV kVB docB pmB ctB ocB cdB : Value} {odL anL odV anV odB anB : Option Addr} {oslL oslV oslB : Array (Option Value)} (X : K.In h) (G : h.Ns mainGlobals mg) (hfa : mg "law" = some (.ref fa))
    (D_is_integer : Has K mg "is_integer" s_is_integer ["value"])
    (D_is_between : Has K mg "is_between" s_is_between ["value", "low", "high"])
    (D_is_rule : Has K mg "is_rule" s_is_rule ["value"])
    (D_is_base : Has K mg "is_base" s_is_base ["value"])
    (D_is_remainder : Has K mg "is_remainder" s_is_remainder ["value", "size"])
    (D_is_name : Has K mg "is_name" s_is_name ["value"])
    (D_is_listing : Has K mg "is_listing" s_is_listing ["value", "least", "most"])
    (D_is_factors : Has K mg "is_factors" s_is_factors ["value", "many"])
    (D_is_register : Has K mg "is_register" s_is_register ["value"])
    (D_is_mode : Has K mg "is_mode" s_is_mode ["value"])
    (D_is_row : Has K mg "is_row" s_is_row ["value", "size", "many", "names"])
    (D_first_wrong : Has K mg "first_wrong" s_first_wrong ["parts", "is_part"])
    (D_check_registers : Has K mg "check_registers" s_check_registers ["registers"])
    (D_check_modes : Has K mg "check_modes" s_check_modes ["modes"])
    (D_check_rows : Has K mg "check_rows" s_check_rows ["mode", "rows", "size", "many", "names"])
    (D_check_ends : Has K mg "check_ends" s_check_ends ["ends", "size"])
    (D_check_program : Has K mg "check_program" s_check_program ["base", "registers", "modes", "ends", "result"])
    (D_table_of : Has K mg "table_of" s_table_of ["rows"])
    (D_is_same : Has K mg "is_same" s_is_same ["one", "other"])
    (D_place_of : Has K mg "place_of" s_place_of ["rows", "sign", "remainder"])
    (D__law_pool : Has K mg "_law_pool" s__law_pool ["_law_script", "_law_k"])
    (D__law_draw : Has K mg "_law_draw" s__law_draw ["_law_pool_here", "_law_many"])
    (D__law_choose : Has K mg "_law_choose" s__law_choose ["_law_pool_here", "_law_items"])
    (D__law_updates : Has K mg "_law_updates" s__law_updates ["_law_pool_here", "_law_many", "_law_greatest"])
    (D__law_then : Has K mg "_law_then" s__law_then ["_law_pool_here", "_law_names"])
    (D__law_rows : Has K mg "_law_rows" s__law_rows ["_law_pool_here", "_law_size", "_law_many", "_law_names"])
    (D__law_parts : Has K mg "_law_parts" s__law_parts ["_law_pool_here", "_law_sizes", "_law_most"])
    (D__law_told : Has K mg "_law_told" s__law_told ["_law_call"])
    (D__law_bent_registers : Has K mg "_law_bent_registers" s__law_bent_registers ["_law_pool_here", "_law_good"])
    (D__law_bent_modes : Has K mg "_law_bent_modes" s__law_bent_modes ["_law_pool_here", "_law_good"])
    (D__law_bent_rows : Has K mg "_law_bent_rows" s__law_bent_rows ["_law_pool_here", "_law_good", "_law_size", "_law_many"])
    (N_InvalidBase : CIn K "InvalidBase" "InvalidBase.__init__" si_InvalidBase C_InvalidBase [.type "ValueError", .type "Exception", .type "BaseException", .type "object"] "ValueError.__new__" ["value"])
    (N_InvalidRegisters : CIn K "InvalidRegisters" "InvalidRegisters.__init__" si_InvalidRegisters C_InvalidRegisters [.type "ValueError", .type "Exception", .type "BaseException", .type "object"] "ValueError.__new__" ["number"])
    (N_InvalidModes : CIn K "InvalidModes" "InvalidModes.__init__" si_InvalidModes C_InvalidModes [.type "ValueError", .type "Exception", .type "BaseException", .type "object"] "ValueError.__new__" ["number"])
    (N_InvalidRow : CIn K "InvalidRow" "InvalidRow.__init__" si_InvalidRow C_InvalidRow [.type "ValueError", .type "Exception", .type "BaseException", .type "object"] "ValueError.__new__" ["mode", "number"])
    (N_InvalidEnds : CIn K "InvalidEnds" "InvalidEnds.__init__" si_InvalidEnds C_InvalidEnds [.type "ValueError", .type "Exception", .type "BaseException", .type "object"] "ValueError.__new__" ["value"])
    (N_InvalidResult : CIn K "InvalidResult" "InvalidResult.__init__" si_InvalidResult C_InvalidResult [.type "ValueError", .type "Exception", .type "BaseException", .type "object"] "ValueError.__new__" ["value"])
    (N_UnknownName : CIn K "UnknownName" "UnknownName.__init__" si_UnknownName C_UnknownName [.type "LookupError", .type "Exception", .type "BaseException", .type "object"] "LookupError.__new__" ["value"])
    (N_InvalidSign : CIn K "InvalidSign" "InvalidSign.__init__" si_InvalidSign C_InvalidSign [.type "ValueError", .type "Exception", .type "BaseException", .type "object"] "ValueError.__new__" ["value"])
    (N_InvalidNumber : CIn K "InvalidNumber" "InvalidNumber.__init__" si_InvalidNumber C_InvalidNumber [.type "ValueError", .type "Exception", .type "BaseException", .type "object"] "ValueError.__new__" ["value"])
    (N_InvalidRule : CIn K "InvalidRule" "InvalidRule.__init__" si_InvalidRule C_InvalidRule [.type "ValueError", .type "Exception", .type "BaseException", .type "object"] "ValueError.__new__" ["value"])
    (aL : PySem.W.nsIn K mainGlobals "law" = some (some (.ref fL)))
    (lL : K.lookup fL = some ⟨ocL, odL, .func (PySem.W.fnOf "law" "law" (defArgs s_law) (defBody s_law) (defScope s_law) .none kVL docL pmL anL (.ref ccL) ctL), oslL⟩)
    (cL : PySem.W.codeIn K (.ref ccL) "law" = true)
    (kL : PySem.W.keepIn K (.ref fL) = true)
    (aV : PySem.W.nsIn K mainGlobals "_law_doors_right" = some (some (.ref fV)))
    (lV : K.lookup fV = some ⟨ocV, odV, .func (PySem.W.fnOf "_law_doors_right" "_law_doors_right" (defArgs s__law_doors_right) (defBody s__law_doors_right) (defScope s__law_doors_right) .none kVV docV pmV anV (.ref ccV) ctV), oslV⟩)
    (cV : PySem.W.codeIn K (.ref ccV) "_law_doors_right" = true)
    (kV : PySem.W.keepIn K (.ref fV) = true)
    (aB : PySem.W.nsIn K mainGlobals "_law_bent" = some (some (.ref fB)))
    (lB : K.lookup fB = some ⟨ocB, odB, .func (PySem.W.fnOf "_law_bent" "_law_bent" (defArgs s__law_bent) (defBody s__law_bent) (defScope s__law_bent) .none kVB docB pmB anB cdB ctB), oslB⟩)
    (cB : PySem.W.codeIn K cdB "_law_bent" = true)
    (kB : PySem.W.keepIn K (.ref fB) = true)
    (aCP : PySem.W.nsIn K mainGlobals "Program" = some (some (.ref CP)))
    (clCP : Cls K CP)
    (pin : NoAts K CP ["_base", "_registers", "_modes", "_ends", "_result", "_tables"])
    (iP : IFun K CP "Program.__init__" s_Program___init__ ["self", "base", "registers", "modes", "ends", "result"])
    (p_size : PFun K CP "size" "Program.size" s_Program_size)
    (m__mode : MeFun K CP "_mode" "Program._mode" s_Program__mode ["self", "mode"])
    (m_rule_of : MeFun K CP "rule_of" "Program.rule_of" s_Program_rule_of ["self", "mode"])
    (m_rows_of : MeFun K CP "rows_of" "Program.rows_of" s_Program_rows_of ["self", "mode"])
    (m_with_rule : MeFun K CP "with_rule" "Program.with_rule" s_Program_with_rule ["self", "mode", "rule"])
    (m_under : MeFun K CP "under" "Program.under" s_Program_under ["self", "rule"])
    (m_with_row : MeFun K CP "with_row" "Program.with_row" s_Program_with_row ["self", "mode", "sign", "remainder", "updates", "then"])
    (m__with_mode : MeFun K CP "_with_mode" "Program._with_mode" s_Program__with_mode ["self", "name", "rule", "rows"])
    (m_getitem : IxFun K CP "Program.__getitem__" s_Program___getitem__ ["self", "at"])
    (aT : PySem.W.nsIn K mainGlobals "RULES" = some (some (.ref aR)))
    (lT : K.lookup aR = some otR)
    (cT : otR.cls = .type "tuple")
    (dT : otR.data = .seq itR nR)
    (sT : itR.size ≤ sizeLine)
    (vT : Vals (five.map V.str) itR.toList)
    (gL : PySem.W.nsIn K mainGlobals "LARGEST" = some (some (.int 1000000 tkL)))
    (gS : PySem.W.nsIn K mainGlobals "LETTERS" = some (some (.str abc tkS)))
    (e0_0 : PySem.W.exmOne K (.ref C_InvalidBase) (.ref C_InvalidBase) = some true)
    (e1_0 : PySem.W.exmOne K (.ref C_InvalidRegisters) (.ref C_InvalidBase) = some false)
    (e1_1 : PySem.W.exmOne K (.ref C_InvalidRegisters) (.ref C_InvalidRegisters) = some true)
    (e2_0 : PySem.W.exmOne K (.ref C_InvalidModes) (.ref C_InvalidBase) = some false)
    (e2_1 : PySem.W.exmOne K (.ref C_InvalidModes) (.ref C_InvalidRegisters) = some false)
    (e2_2 : PySem.W.exmOne K (.ref C_InvalidModes) (.ref C_InvalidModes) = some true)
    (e3_0 : PySem.W.exmOne K (.ref C_InvalidRow) (.ref C_InvalidBase) = some false)
    (e3_1 : PySem.W.exmOne K (.ref C_InvalidRow) (.ref C_InvalidRegisters) = some false)
    (e3_2 : PySem.W.exmOne K (.ref C_InvalidRow) (.ref C_InvalidModes) = some false)
    (e3_3 : PySem.W.exmOne K (.ref C_InvalidRow) (.ref C_InvalidRow) = some true)
    (e4_0 : PySem.W.exmOne K (.ref C_InvalidEnds) (.ref C_InvalidBase) = some false)
    (e4_1 : PySem.W.exmOne K (.ref C_InvalidEnds) (.ref C_InvalidRegisters) = some false)
    (e4_2 : PySem.W.exmOne K (.ref C_InvalidEnds) (.ref C_InvalidModes) = some false)
    (e4_3 : PySem.W.exmOne K (.ref C_InvalidEnds) (.ref C_InvalidRow) = some false)
    (e4_4 : PySem.W.exmOne K (.ref C_InvalidEnds) (.ref C_InvalidEnds) = some true)
    (e5_0 : PySem.W.exmOne K (.ref C_InvalidResult) (.ref C_InvalidBase) = some false)
    (e5_1 : PySem.W.exmOne K (.ref C_InvalidResult) (.ref C_InvalidRegisters) = some false)
    (e5_2 : PySem.W.exmOne K (.ref C_InvalidResult) (.ref C_InvalidModes) = some false)
    (e5_3 : PySem.W.exmOne K (.ref C_InvalidResult) (.ref C_InvalidRow) = some false)
    (e5_4 : PySem.W.exmOne K (.ref C_InvalidResult) (.ref C_InvalidEnds) = some false)
    (e5_5 : PySem.W.exmOne K (.ref C_InvalidResult) (.ref C_InvalidResult) = some true)
    (e6_0 : PySem.W.exmOne K (.ref C_UnknownName) (.ref C_InvalidBase) = some false)
    (e6_1 : PySem.W.exmOne K (.ref C_UnknownName) (.ref C_InvalidRegisters) = some false)
    (e6_2 : PySem.W.exmOne K (.ref C_UnknownName) (.ref C_InvalidModes) = some false)
    (e6_3 : PySem.W.exmOne K (.ref C_UnknownName) (.ref C_InvalidRow) = some false)
    (e6_4 : PySem.W.exmOne K (.ref C_UnknownName) (.ref C_InvalidEnds) = some false)
    (e6_5 : PySem.W.exmOne K (.ref C_UnknownName) (.ref C_InvalidResult) = some false)
    (e6_6 : PySem.W.exmOne K (.ref C_UnknownName) (.ref C_UnknownName) = some true)
    (e7_0 : PySem.W.exmOne K (.ref C_InvalidSign) (.ref C_InvalidBase) = some false)
    (e7_1 : PySem.W.exmOne K (.ref C_InvalidSign) (.ref C_InvalidRegisters) = some false)
    (e7_2 : PySem.W.exmOne K (.ref C_InvalidSign) (.ref C_InvalidModes) = some false)
    (e7_3 : PySem.W.exmOne K (.ref C_InvalidSign) (.ref C_InvalidRow) = some false)
    (e7_4 : PySem.W.exmOne K (.ref C_InvalidSign) (.ref C_InvalidEnds) = some false)
    (e7_5 : PySem.W.exmOne K (.ref C_InvalidSign) (.ref C_InvalidResult) = some false)
    (e7_6 : PySem.W.exmOne K (.ref C_InvalidSign) (.ref C_UnknownName) = some false)
    (e7_7 : PySem.W.exmOne K (.ref C_InvalidSign) (.ref C_InvalidSign) = some true)
    (e8_0 : PySem.W.exmOne K (.ref C_InvalidNumber) (.ref C_InvalidBase) = some false)
    (e8_1 : PySem.W.exmOne K (.ref C_InvalidNumber) (.ref C_InvalidRegisters) = some false)
    (e8_2 : PySem.W.exmOne K (.ref C_InvalidNumber) (.ref C_InvalidModes) = some false)
    (e8_3 : PySem.W.exmOne K (.ref C_InvalidNumber) (.ref C_InvalidRow) = some false)
    (e8_4 : PySem.W.exmOne K (.ref C_InvalidNumber) (.ref C_InvalidEnds) = some false)
    (e8_5 : PySem.W.exmOne K (.ref C_InvalidNumber) (.ref C_InvalidResult) = some false)
    (e8_6 : PySem.W.exmOne K (.ref C_InvalidNumber) (.ref C_UnknownName) = some false)
    (e8_7 : PySem.W.exmOne K (.ref C_InvalidNumber) (.ref C_InvalidSign) = some false)
    (e8_8 : PySem.W.exmOne K (.ref C_InvalidNumber) (.ref C_InvalidNumber) = some true)
    (e9_0 : PySem.W.exmOne K (.ref C_InvalidRule) (.ref C_InvalidBase) = some false)
    (e9_1 : PySem.W.exmOne K (.ref C_InvalidRule) (.ref C_InvalidRegisters) = some false)
    (e9_2 : PySem.W.exmOne K (.ref C_InvalidRule) (.ref C_InvalidModes) = some false)
    (e9_3 : PySem.W.exmOne K (.ref C_InvalidRule) (.ref C_InvalidRow) = some false)
    (e9_4 : PySem.W.exmOne K (.ref C_InvalidRule) (.ref C_InvalidEnds) = some false)
    (e9_5 : PySem.W.exmOne K (.ref C_InvalidRule) (.ref C_InvalidResult) = some false)
    (e9_6 : PySem.W.exmOne K (.ref C_InvalidRule) (.ref C_UnknownName) = some false)
    (e9_7 : PySem.W.exmOne K (.ref C_InvalidRule) (.ref C_InvalidSign) = some false)
    (e9_8 : PySem.W.exmOne K (.ref C_InvalidRule) (.ref C_InvalidNumber) = some false)
    (e9_9 : PySem.W.exmOne K (.ref C_InvalidRule) (.ref C_InvalidRule) = some true)
    (hchL : PySem.W.codeHdIn K ccL PL = true)
    (htkL : K.lookup PL = none)
    (htbL : h.get? PL = some noTab)
    (hchV : PySem.W.codeHdIn K ccV PV = true)
    (htkV : K.lookup PV = none)
    (htbV : h.get? PV = some noTab)
    (neLV : PL ≠ PV)
    (z0 : PySem.W.nsIn K mainGlobals "isinstance" = some none)
    (z1 : PySem.W.nsIn K mainGlobals "int" = some none)
    (z2 : PySem.W.nsIn K mainGlobals "bool" = some none)
    (z3 : PySem.W.nsIn K mainGlobals "str" = some none)
    (z4 : PySem.W.nsIn K mainGlobals "abs" = some none)
    (z5 : PySem.W.nsIn K mainGlobals "len" = some none)
    (z6 : PySem.W.nsIn K mainGlobals "list" = some none)
    (z7 : PySem.W.nsIn K mainGlobals "tuple" = some none)
    (z8 : PySem.W.nsIn K mainGlobals "range" = some none)
    (z9 : PySem.W.nsIn K mainGlobals "enumerate" = some none)
    (z10 : PySem.W.nsIn K mainGlobals "all" = some none)
    (z11 : PySem.W.nsIn K mainGlobals "max" = some none)
    (z12 : PySem.W.nsIn K mainGlobals "min" = some none)
    (z13 : PySem.W.nsIn K mainGlobals "repr" = some none) :
    ∃ (fd : FuncData) (Ts : List (Addr × Addr)), (∀ (s : Shared) (v : Value), BindsTo s fd ⟨[v], []⟩ [("_law_script", v)]) ∧ (∀ q ∈ Ts, h.get? q.2 = some noTab) ∧ (∀ q ∈ Ts, K.lookup q.2 = none) ∧ (∀ q ∈ Ts, PySem.W.CodeHd h q.1 q.2) ∧
      (∀ base : Heap, K.In base → base.Ns mainGlobals mg → (∀ q ∈ Ts, LamX.TabB base mg q.1 q.2) → FnG l.prog w K mg base CX0 15 fa fd ["_law_script"] (spLawL K (Ts.map (·.2)))) := by
  have e := hfa.symm.trans (PySem.W.mg_of X G aL)
  cases e
  have fr : ∀ {y : Str}, PySem.W.nsIn K mainGlobals y = some none → mg y = none := fun z => PySem.W.mg_none_of X G z
  have T : Txt K mg 0 := ⟨fr z0, fr z1, fr z2, fr z3, fr z4, fr z5, fr z6, fr z7, fr z8, fr z9, fr z10, fr z11, fr z12, fr z13⟩
  obtain ⟨fI_InvalidBase, dI_InvalidBase, aI_InvalidBase, FI_InvalidBase, LI_InvalidBase⟩ := N_InvalidBase
  have m_InvalidBase := PySem.W.mg_of X G aI_InvalidBase
  obtain ⟨fI_InvalidRegisters, dI_InvalidRegisters, aI_InvalidRegisters, FI_InvalidRegisters, LI_InvalidRegisters⟩ := N_InvalidRegisters
  have m_InvalidRegisters := PySem.W.mg_of X G aI_InvalidRegisters
  obtain ⟨fI_InvalidModes, dI_InvalidModes, aI_InvalidModes, FI_InvalidModes, LI_InvalidModes⟩ := N_InvalidModes
  have m_InvalidModes := PySem.W.mg_of X G aI_InvalidModes
  obtain ⟨fI_InvalidRow, dI_InvalidRow, aI_InvalidRow, FI_InvalidRow, LI_InvalidRow⟩ := N_InvalidRow
  have m_InvalidRow := PySem.W.mg_of X G aI_InvalidRow
  obtain ⟨fI_InvalidEnds, dI_InvalidEnds, aI_InvalidEnds, FI_InvalidEnds, LI_InvalidEnds⟩ := N_InvalidEnds
  have m_InvalidEnds := PySem.W.mg_of X G aI_InvalidEnds
  obtain ⟨fI_InvalidResult, dI_InvalidResult, aI_InvalidResult, FI_InvalidResult, LI_InvalidResult⟩ := N_InvalidResult
  have m_InvalidResult := PySem.W.mg_of X G aI_InvalidResult
  obtain ⟨fI_UnknownName, dI_UnknownName, aI_UnknownName, FI_UnknownName, LI_UnknownName⟩ := N_UnknownName
  have m_UnknownName := PySem.W.mg_of X G aI_UnknownName
  obtain ⟨fI_InvalidSign, dI_InvalidSign, aI_InvalidSign, FI_InvalidSign, LI_InvalidSign⟩ := N_InvalidSign
  have m_InvalidSign := PySem.W.mg_of X G aI_InvalidSign
  obtain ⟨fI_InvalidNumber, dI_InvalidNumber, aI_InvalidNumber, FI_InvalidNumber, LI_InvalidNumber⟩ := N_InvalidNumber
  have m_InvalidNumber := PySem.W.mg_of X G aI_InvalidNumber
  obtain ⟨fI_InvalidRule, dI_InvalidRule, aI_InvalidRule, FI_InvalidRule, LI_InvalidRule⟩ := N_InvalidRule
  have m_InvalidRule := PySem.W.mg_of X G aI_InvalidRule
  refine ⟨PySem.W.fnOf "law" "law" (defArgs s_law) (defBody s_law) (defScope s_law) .none kVL docL pmL anL (.ref ccL) ctL, [(ccL, PL), (ccV, PV)], fun s v => .of_eq rfl, fun q hq => by
    simp only [List.mem_cons, List.not_mem_nil, or_false] at hq
    rcases hq with rfl | rfl
    · exact htbL
    · exact htbV
    , fun q hq => by
    simp only [List.mem_cons, List.not_mem_nil, or_false] at hq
    rcases hq with rfl | rfl
    · exact htkL
    · exact htkV
    , fun q hq => by
    simp only [List.mem_cons, List.not_mem_nil, or_false] at hq
    rcases hq with rfl | rfl
    · exact PySem.W.codeHd_of_K X hchL
    · exact PySem.W.codeHd_of_K X hchV
    , fun base _ _ TBs => ?_⟩
  have TBL : LamX.TabB base mg ccL PL := TBs (ccL, PL) (by simp)
  have TBV : LamX.TabB base mg ccV PV := TBs (ccV, PV) (by simp)
  have X_InvalidBase := in_InvalidBase (P := l.prog) (w := w) (base := base) FI_InvalidBase LI_InvalidBase m_InvalidBase
  have X_InvalidRegisters := in_InvalidRegisters (P := l.prog) (w := w) (base := base) FI_InvalidRegisters LI_InvalidRegisters m_InvalidRegisters
  have X_InvalidModes := in_InvalidModes (P := l.prog) (w := w) (base := base) FI_InvalidModes LI_InvalidModes m_InvalidModes
  have X_InvalidRow := in_InvalidRow (P := l.prog) (w := w) (base := base) FI_InvalidRow LI_InvalidRow m_InvalidRow
  have X_InvalidEnds := in_InvalidEnds (P := l.prog) (w := w) (base := base) FI_InvalidEnds LI_InvalidEnds m_InvalidEnds
  have X_InvalidResult := in_InvalidResult (P := l.prog) (w := w) (base := base) FI_InvalidResult LI_InvalidResult m_InvalidResult
  have X_UnknownName := in_UnknownName (P := l.prog) (w := w) (base := base) FI_UnknownName LI_UnknownName m_UnknownName
  have X_InvalidSign := in_InvalidSign (P := l.prog) (w := w) (base := base) FI_InvalidSign LI_InvalidSign m_InvalidSign
  have X_InvalidNumber := in_InvalidNumber (P := l.prog) (w := w) (base := base) FI_InvalidNumber LI_InvalidNumber m_InvalidNumber
  have X_InvalidRule := in_InvalidRule (P := l.prog) (w := w) (base := base) FI_InvalidRule LI_InvalidRule m_InvalidRule
  have PT : PTx K mg aR := ⟨T, PySem.W.mg_of X G aT, fun H => .inr ⟨otR, itR, nR, lT, cT, dT, sT, vT⟩, ⟨tkL, PySem.W.mg_of X G gL⟩, ⟨tkS, PySem.W.mg_of X G gS⟩⟩
  have C : PCls K mg CP := ⟨clCP, PySem.W.mg_of X G aCP, pin.at 0, pin.at 1, pin.at 2, pin.at 3, pin.at 4, pin.at 5⟩
  have O_is_integer := ok_is_integer (P := l.prog) (w := w) (base := base) D_is_integer PT
  have O_is_between := ok_is_between (P := l.prog) (w := w) (base := base) D_is_between O_is_integer
  have O_is_rule := ok_is_rule (P := l.prog) (w := w) (base := base) D_is_rule PT
  have O_is_base := ok_is_base (P := l.prog) (w := w) (base := base) D_is_base PT O_is_between
  have O_is_remainder := ok_is_remainder (P := l.prog) (w := w) (base := base) D_is_remainder O_is_between
  have O_is_name := ok_is_name (P := l.prog) (w := w) (base := base) D_is_name PT
  have O_is_listing := ok_is_listing (P := l.prog) (w := w) (base := base) D_is_listing PT
  have O_is_factors := ok_is_factors (P := l.prog) (w := w) (base := base) D_is_factors PT O_is_between
  have O_is_register := ok_is_register (P := l.prog) (w := w) (base := base) D_is_register PT O_is_name O_is_factors
  have O_is_mode := ok_is_mode (P := l.prog) (w := w) (base := base) D_is_mode PT O_is_name O_is_rule
  have O_is_row := ok_is_row (P := l.prog) (w := w) (base := base) D_is_row PT O_is_between O_is_remainder O_is_factors
  obtain ⟨f0, fd0, g0, k0, b0, F0⟩ := id O_is_register
  have O_fw1 := ok_first_wrong (P := l.prog) (w := w) (base := base) (part := regD) D_first_wrong PT F0 k0 b0 reg_named
  have O_check_registers := ok_check_registers D_check_registers g0 O_is_listing O_fw1 X_InvalidRegisters
  obtain ⟨f1, fd1, g1, k1, b1, F1⟩ := id O_is_mode
  have O_fw2 := ok_first_wrong (P := l.prog) (w := w) (base := base) (part := modeD) D_first_wrong PT (lift_fn F1 (by decide)) k1 b1 mode_named
  have O_check_modes := ok_check_modes D_check_modes g1 O_is_listing O_fw2 X_InvalidModes
  have O_check_rows := ok_check_rows (P := l.prog) (w := w) (base := base) D_check_rows PT O_is_row X_InvalidRow
  have O_check_ends := ok_check_ends (P := l.prog) (w := w) (base := base) D_check_ends PT O_is_remainder X_InvalidEnds
  have O_check_program := ok_check_program (P := l.prog) (w := w) (base := base) D_check_program PT O_is_base O_check_registers O_check_modes O_check_rows O_check_ends O_is_factors X_InvalidBase X_InvalidResult
  have O_table_of := ok_table_of (P := l.prog) (w := w) (base := base) D_table_of 
  have mk : MkP l.prog w K mg base CP C_InvalidBase C_InvalidRegisters C_InvalidModes C_InvalidRow C_InvalidEnds C_InvalidResult := by
    obtain ⟨f, fd, m, F, b⟩ := iP
    exact ⟨f, fd, m, ok_Program_init F C PT O_check_program O_table_of, b⟩
  have pSize := ok_Program_size (P := l.prog) (w := w) (base := base) p_size C PT
  have m__mode' : OwnMeth l.prog w K mg base CP 3 "_mode" ["self", "mode"] (spPMode l.prog w CP C_UnknownName) := by
    obtain ⟨f, fd, m, F, b⟩ := m__mode
    exact ⟨f, fd, m, b, ok_Program__mode F C PT X_UnknownName⟩
  have m_rule_of' : OwnMeth l.prog w K mg base CP 4 "rule_of" ["self", "mode"] (spPRuleOf l.prog w CP C_UnknownName) := by
    obtain ⟨f, fd, m, F, b⟩ := m_rule_of
    exact ⟨f, fd, m, b, ok_Program_rule_of F C m__mode'⟩
  have m_rows_of' : OwnMeth l.prog w K mg base CP 4 "rows_of" ["self", "mode"] (spPRowsOf l.prog w CP C_UnknownName) := by
    obtain ⟨f, fd, m, F, b⟩ := m_rows_of
    exact ⟨f, fd, m, b, ok_Program_rows_of F C PT m__mode'⟩
  have mIx : OwnIx l.prog w K mg base CP 4 ["self", "at"] (spPGet l.prog w CP C_UnknownName C_InvalidSign C_InvalidNumber) := by
    obtain ⟨f, fd, a, n, i, F, b⟩ := m_getitem
    exact ⟨f, fd, a, n, i, b, ok_Program_getitem F C m__mode' pSize O_is_between O_is_remainder X_InvalidSign X_InvalidNumber⟩
  have m_with_rule' : OwnMeth l.prog w K mg base CP 4 "with_rule" ["self", "mode", "rule"] (spPWithRule l.prog w CP C_UnknownName C_InvalidRule) := by
    obtain ⟨f, fd, m, F, b⟩ := m_with_rule
    exact ⟨f, fd, m, b, ok_Program_with_rule F C O_is_rule X_InvalidRule m__mode'⟩
  have m_under' : OwnMeth l.prog w K mg base CP 3 "under" ["self", "rule"] (spPUnder l.prog w CP C_InvalidRule) := by
    obtain ⟨f, fd, m, F, b⟩ := m_under
    exact ⟨f, fd, m, b, ok_Program_under F O_is_rule X_InvalidRule⟩
  have m__with_mode' : OwnMeth l.prog w K mg base CP 10 "_with_mode" ["self", "name", "rule", "rows"] (spPWith l.prog w CP C_InvalidRow) := by
    obtain ⟨f, fd, m, F, b⟩ := m__with_mode
    exact ⟨f, fd, m, b, ok_Program__with_mode F C mk⟩
  have O_is_same := ok_is_same (P := l.prog) (w := w) (base := base) D_is_same O_is_integer
  have O_place_of := ok_place_of (P := l.prog) (w := w) (base := base) D_place_of PT O_is_same
  have m_with_row' : OwnMeth l.prog w K mg base CP 11 "with_row" ["self", "mode", "sign", "remainder", "updates", "then"] (spPWithRow l.prog w CP C_UnknownName C_InvalidRow) := by
    obtain ⟨f, fd, m, F, b⟩ := m_with_row
    exact ⟨f, fd, m, b, ok_Program_with_row F C O_place_of m__mode' m__with_mode'⟩
  have O__law_pool := ok__law_pool (P := l.prog) (w := w) (base := base) (aR := 0) D__law_pool T
  have O__law_draw := ok__law_draw (P := l.prog) (w := w) (base := base) (aR := 0) D__law_draw T
  have O__law_choose := ok__law_choose (aR := 0) D__law_choose T O__law_draw
  have O__law_updates := ok__law_updates (aR := 0) D__law_updates T O__law_draw
  have O__law_then := ok__law_then D__law_then O__law_draw O__law_choose
  have O__law_rows := ok__law_rows (aR := 0) D__law_rows T O__law_draw O__law_choose O__law_updates O__law_then
  have O__law_parts := ok__law_parts (aR := 0) D__law_parts T O__law_draw O__law_choose O__law_rows
  have O__law_bent_registers := ok__law_bent_registers (aR := 0) D__law_bent_registers T O__law_draw O__law_choose
  have O__law_bent_modes := ok__law_bent_modes (aR := 0) D__law_bent_modes T O__law_draw O__law_choose
  have O__law_bent_rows := ok__law_bent_rows (aR := 0) D__law_bent_rows T O__law_draw O__law_choose
  obtain ⟨gE, cdvE, hP⟩ := oneP_of D__law_told
  have ET : ETx K mg C_InvalidBase C_InvalidRegisters C_InvalidModes C_InvalidRow C_InvalidEnds C_InvalidResult C_UnknownName C_InvalidSign C_InvalidNumber C_InvalidRule := ⟨m_InvalidBase, LI_InvalidBase.look.xf, LI_InvalidBase.no _ (by simp), e0_0, m_InvalidRegisters, LI_InvalidRegisters.look.xf, LI_InvalidRegisters.no _ (by simp), e1_0, e1_1, m_InvalidModes, LI_InvalidModes.look.xf, LI_InvalidModes.no _ (by simp), e2_0, e2_1, e2_2, m_InvalidRow, LI_InvalidRow.look.xf, LI_InvalidRow.no _ (by simp), LI_InvalidRow.no _ (by simp), e3_0, e3_1, e3_2, e3_3, m_InvalidEnds, LI_InvalidEnds.look.xf, LI_InvalidEnds.no _ (by simp), e4_0, e4_1, e4_2, e4_3, e4_4, m_InvalidResult, LI_InvalidResult.look.xf, LI_InvalidResult.no _ (by simp), e5_0, e5_1, e5_2, e5_3, e5_4, e5_5, m_UnknownName, LI_UnknownName.look.xf, LI_UnknownName.no _ (by simp), e6_0, e6_1, e6_2, e6_3, e6_4, e6_5, e6_6, m_InvalidSign, LI_InvalidSign.look.xf, LI_InvalidSign.no _ (by simp), e7_0, e7_1, e7_2, e7_3, e7_4, e7_5, e7_6, e7_7, m_InvalidNumber, LI_InvalidNumber.look.xf, LI_InvalidNumber.no _ (by simp), e8_0, e8_1, e8_2, e8_3, e8_4, e8_5, e8_6, e8_7, e8_8, m_InvalidRule, LI_InvalidRule.look.xf, LI_InvalidRule.no _ (by simp), e9_0, e9_1, e9_2, e9_3, e9_4, e9_5, e9_6, e9_7, e9_8, e9_9⟩
  have FB := fun_mk (st := s__law_bent) lB cB kB
  have bB : Binds K _ ["_law_pool_here", "_law_parts_here", "_law_at"] [] := FB.binds (ps := ["_law_pool_here", "_law_parts_here", "_law_at"]) (fun _ _ _ _ _ _ us hl => match us, hl with | [_, _, _], _ => rfl)
  have FV := fun_mk (st := s__law_doors_right) lV cV kV
  have bV : Binds K _ ["_law_pool_here", "_law_one"] [] := FV.binds (ps := ["_law_pool_here", "_law_one"]) (fun _ _ _ _ _ _ us hl => match us, hl with | [_, _], _ => rfl)
  have DB : DoorsB l.prog w K mg base CP C_InvalidRow C_UnknownName C_InvalidSign C_InvalidNumber C_InvalidRule := ⟨C, O__law_choose, m_rule_of', m_rows_of', mIx, m_with_rule', m_with_row', m_under'⟩
  have inV : (PV, qDoors) ∈ TT PL PV := by simp
  have oneV : ∀ p ∈ TT PL PV, p.1 = PV → p.2 = qDoors := fun p hp e => by
    simp only [List.mem_cons, List.not_mem_nil, or_false] at hp
    rcases hp with rfl | rfl
    · exact absurd e neLV
    · rfl
  exact okG_law (aR := 0) lL cL T ET TBL neLV hP ⟨C, mk, O__law_pool, O__law_draw, O__law_parts, O__law_bent_rows⟩ (okG__law_bent (aR := 0) FB T O__law_choose O__law_bent_registers O__law_bent_modes) (PySem.W.mg_of X G aB) kB bB (okG__law_doors_right (aR := 0) lV cV T ET TBV hP DB inV oneV) (PySem.W.mg_of X G aV) kV bV
section
open PySem.W PySem.Calls PyProof.Rows
/-- the goal behind such a head -/
theorem walk_ofL {l : PySem.W.OpenLaw} {n k : Nat} {q : Program} {loose : List Str} {XP : (Str → Option Value) → Heap → Prop} {YP : World → Heap → Prop} {d : DefRec} {CX : World → CXT} {sp : PySem.W.Frag → List Addr → Sp} {x : Str}
    (hn : l.most = some n) (few : n ≤ sizeLine) (hdf : d.params.defaults = []) (room : Room k callerA)
    (F : ∀ (w : World) (mg : Str → Option Value) (fa : Addr) (h : Heap), YP w h → h.Ns mainGlobals mg → mg d.name = some (.ref fa) → ∃ K : PySem.W.Frag, K.In h ∧ ∃ (fd : FuncData) (Ts : List (Addr × Addr)), (∀ (s : Shared) (u : Value), BindsTo s fd ⟨[u], []⟩ [(x, u)]) ∧
      (∀ q ∈ Ts, h.get? q.2 = some noTab) ∧ (∀ q ∈ Ts, K.lookup q.2 = none) ∧ (∀ q ∈ Ts, PySem.W.CodeHd h q.1 q.2) ∧
      (∀ base : Heap, K.In base → base.Ns mainGlobals mg → (∀ q ∈ Ts, LamX.TabB base mg q.1 q.2) → FnG l.prog w K mg base (CX w) k fa fd [x] (sp K (Ts.map (·.2)))))
    (want : ∀ (K : PySem.W.Frag) (Ps : List Addr) (H : Hp) (a : Addr) (ns : List Int), ns.length ≤ n → (∀ p ∈ Ps, H p = some (.tbl #[])) → SqL K H a (ns.map V.int) → sp K Ps [.ref a] H (fun v _ => v = .bl true) fun _ _ _ => False)
    (noX : ∀ (w : World) (H : Hp) (s : Shared) (e : Value) (s' : Shared), CX w [] H s (fun _ _ _ => False) e s' → False) : PySem.W.WalkO q loose XP YP l.row.toRowW d [] (fun f vs => PySem.call f vs) :=
  Att.attach_call hn hdf fun w s₀ s₁ mg mb fa o pm cd doc a vs ns G Y ho hd hcd hmg hobj hints hlen hg => by
    obtain ⟨K, KX, fd, Ts, hb, t1, t2, t3, hF⟩ := F w mg fa _ Y G.T.g hmg
    exact law_callGL KX G.T.g G.T.b G.T.builtins G.T.nolimit hg hobj hints (Nat.le_trans hlen few) t1 t2 t3 G.T.bmain room hF hb (fun H z1 z2 => want K _ H a ns hlen (fun p hp => by
      obtain ⟨q, hq, rfl⟩ := List.mem_map.mp hp
      exact z1 q hq) z2) fun H e s' => noX w H s₁ e s'
end
section
set_option maxHeartbeats 0 in
theorem top2 {l : PySem.W.OpenLaw} {w : World} {K : PySem.W.Frag} {h : Heap} {mg : Str → Option Value} {fa : Addr} (X : K.In h) (G : h.Ns mainGlobals mg) (hfa : mg "law" = some (.ref fa)) (c : SaysY defsY testsY vfsY h K) :
    ∃ (fd : FuncData) (Ts : List (Addr × Addr)), (∀ (s : Shared) (v : Value), BindsTo s fd ⟨[v], []⟩ [("_law_script", v)]) ∧ (∀ q ∈ Ts, h.get? q.2 = some noTab) ∧ (∀ q ∈ Ts, K.lookup q.2 = none) ∧ (∀ q ∈ Ts, PySem.W.CodeHd h q.1 q.2) ∧
      (∀ base : Heap, K.In base → base.Ns mainGlobals mg → (∀ q ∈ Ts, LamX.TabB base mg q.1 q.2) → FnG l.prog w K mg base CX0 15 fa fd ["_law_script"] (spLawL K (Ts.map (·.2)))) := by
  obtain ⟨ocL, kVL, docL, pmL, cdL, ctL, odL, anL, oslL, lkL, cdpL, kpL⟩ := c.d 51 (d := dY51)
  obtain ⟨ccL, rfl⟩ := He.codeIn_ref cdpL
  have eCL : codeY K (vfY_L K) = ccL := codeY_eq lkL rfl
  have hdL := c.hd vfY_L (by simp [vfsY])
  have outL := c.out vfY_L (by simp [vfsY])
  have empL := c.empty vfY_L (by simp [vfsY])
  unfold tabP at hdL outL empL
  rw [eCL] at hdL outL empL
  obtain ⟨ocV, kVV, docV, pmV, cdV, ctV, odV, anV, oslV, lkV, cdpV, kpV⟩ := c.d 52 (d := dY52)
  obtain ⟨ccV, rfl⟩ := He.codeIn_ref cdpV
  have eCV : codeY K (vfY_V K) = ccV := codeY_eq lkV rfl
  have hdV := c.hd vfY_V (by simp [vfsY])
  have outV := c.out vfY_V (by simp [vfsY])
  have empV := c.empty vfY_V (by simp [vfsY])
  unfold tabP at hdV outV empV
  rw [eCV] at hdV outV empV
  obtain ⟨ocB, kVB, docB, pmB, cdB, ctB, odB, anB, oslB, lkB, cdpB, kpB⟩ := c.d 53 (d := dY53)
  obtain ⟨otR, itR, nR, lT, cT, dT, sT, vT⟩ := tupY_ok (K := K) (a := (He.ga K "RULES")) (vs := five.map V.str) (c.t 126 (t := tY126))
  obtain ⟨tkL, gL⟩ := intB_ok (K := K) (x := "LARGEST") (i := 1000000) (c.t 127 (t := tY127))
  obtain ⟨tkS, gS⟩ := strB_ok (K := K) (x := "LETTERS") (z := abc) (c.t 128 (t := tY128))
  have neLV := (of_decide_eq_true (p := tabP K (vfY_L K) ≠ tabP K (vfY_V K)) (c.t 184 (t := tY184)))
  have eqLV : tabP K (vfY_L K) = He.tabOf K ccL := by unfold tabP; rw [eCL]
  have eq2LV : tabP K (vfY_V K) = He.tabOf K ccV := by unfold tabP; rw [eCV]
  rw [eqLV, eq2LV] at neLV
  refine' all_mk (aR := (He.ga K "RULES")) (fL := (He.ga K "law")) (fV := (He.ga K "_law_doors_right")) (fB := (He.ga K "_law_bent")) (CP := (He.ga K "Program")) (C_InvalidBase := (He.ga K "InvalidBase")) (C_InvalidRegisters := (He.ga K "InvalidRegisters")) (C_InvalidModes := (He.ga K "InvalidModes")) (C_InvalidRow := (He.ga K "InvalidRow")) (C_InvalidEnds := (He.ga K "InvalidEnds")) (C_InvalidResult := (He.ga K "InvalidResult")) (C_UnknownName := (He.ga K "UnknownName")) (C_InvalidSign := (He.ga K "InvalidSign")) (C_InvalidNumber := (He.ga K "InvalidNumber")) (C_InvalidRule := (He.ga K "InvalidRule")) (ccL := ccL) (PL := He.tabOf K ccL) (ccV := ccV) (PV := He.tabOf K ccV) X G hfa ?XD_is_integer ?XD_is_between ?XD_is_rule ?XD_is_base ?XD_is_remainder ?XD_is_name ?XD_is_listing ?XD_is_factors ?XD_is_register ?XD_is_mode ?XD_is_row ?XD_first_wrong ?XD_check_registers ?XD_check_modes ?XD_check_rows ?XD_check_ends ?XD_check_program ?XD_table_of ?XD_is_same ?XD_place_of ?XD__law_pool ?XD__law_draw ?XD__law_choose ?XD__law_updates ?XD__law_then ?XD__law_rows ?XD__law_parts ?XD__law_told ?XD__law_bent_registers ?XD__law_bent_modes ?XD__law_bent_rows ?XN_InvalidBase ?XN_InvalidRegisters ?XN_InvalidModes ?XN_InvalidRow ?XN_InvalidEnds ?XN_InvalidResult ?XN_UnknownName ?XN_InvalidSign ?XN_InvalidNumber ?XN_InvalidRule ?XaL ?XlL ?XcL ?XkL ?XaV ?XlV ?XcV ?XkV ?XaB ?XlB ?XcB ?XkB ?XaCP ?XclCP ?Xpin ?XiP ?Xp_size ?Xm__mode ?Xm_rule_of ?Xm_rows_of ?Xm_with_rule ?Xm_under ?Xm_with_row ?Xm__with_mode ?Xm_getitem ?XaT ?XlT ?XcT ?XdT ?XsT ?XvT ?XgL ?XgS ?Xe0_0 ?Xe1_0 ?Xe1_1 ?Xe2_0 ?Xe2_1 ?Xe2_2 ?Xe3_0 ?Xe3_1 ?Xe3_2 ?Xe3_3 ?Xe4_0 ?Xe4_1 ?Xe4_2 ?Xe4_3 ?Xe4_4 ?Xe5_0 ?Xe5_1 ?Xe5_2 ?Xe5_3 ?Xe5_4 ?Xe5_5 ?Xe6_0 ?Xe6_1 ?Xe6_2 ?Xe6_3 ?Xe6_4 ?Xe6_5 ?Xe6_6 ?Xe7_0 ?Xe7_1 ?Xe7_2 ?Xe7_3 ?Xe7_4 ?Xe7_5 ?Xe7_6 ?Xe7_7 ?Xe8_0 ?Xe8_1 ?Xe8_2 ?Xe8_3 ?Xe8_4 ?Xe8_5 ?Xe8_6 ?Xe8_7 ?Xe8_8 ?Xe9_0 ?Xe9_1 ?Xe9_2 ?Xe9_3 ?Xe9_4 ?Xe9_5 ?Xe9_6 ?Xe9_7 ?Xe9_8 ?Xe9_9 ?XhchL ?XhtkL ?XhtbL ?XhchV ?XhtkV ?XhtbV ?XneLV ?Xz0 ?Xz1 ?Xz2 ?Xz3 ?Xz4 ?Xz5 ?Xz6 ?Xz7 ?Xz8 ?Xz9 ?Xz10 ?Xz11 ?Xz12 ?Xz13
  case XD_is_integer => obtain ⟨oc, kV, doc, pm, cdv, ct, od, an, osl, lk, cd, kp⟩ := c.d 0 (d := dY0); exact has_mk X G (fun _ _ _ _ _ _ us hl => by (obtain ⟨x0, rfl⟩ := ba1 hl; rfl)) (of_decide_eq_true (p := PySem.W.nsIn K mainGlobals "is_integer" = some (some (.ref (He.ga K "is_integer")))) (c.t 0 (t := tY0))) lk cd kp
  case XD_is_between => obtain ⟨oc, kV, doc, pm, cdv, ct, od, an, osl, lk, cd, kp⟩ := c.d 1 (d := dY1); exact has_mk X G (fun _ _ _ _ _ _ us hl => by (obtain ⟨x0, x1, x2, rfl⟩ := ba3 hl; rfl)) (of_decide_eq_true (p := PySem.W.nsIn K mainGlobals "is_between" = some (some (.ref (He.ga K "is_between")))) (c.t 1 (t := tY1))) lk cd kp
  case XD_is_rule => obtain ⟨oc, kV, doc, pm, cdv, ct, od, an, osl, lk, cd, kp⟩ := c.d 2 (d := dY2); exact has_mk X G (fun _ _ _ _ _ _ us hl => by (obtain ⟨x0, rfl⟩ := ba1 hl; rfl)) (of_decide_eq_true (p := PySem.W.nsIn K mainGlobals "is_rule" = some (some (.ref (He.ga K "is_rule")))) (c.t 2 (t := tY2))) lk cd kp
  case XD_is_base => obtain ⟨oc, kV, doc, pm, cdv, ct, od, an, osl, lk, cd, kp⟩ := c.d 3 (d := dY3); exact has_mk X G (fun _ _ _ _ _ _ us hl => by (obtain ⟨x0, rfl⟩ := ba1 hl; rfl)) (of_decide_eq_true (p := PySem.W.nsIn K mainGlobals "is_base" = some (some (.ref (He.ga K "is_base")))) (c.t 3 (t := tY3))) lk cd kp
  case XD_is_remainder => obtain ⟨oc, kV, doc, pm, cdv, ct, od, an, osl, lk, cd, kp⟩ := c.d 4 (d := dY4); exact has_mk X G (fun _ _ _ _ _ _ us hl => by (obtain ⟨x0, x1, rfl⟩ := ba2 hl; rfl)) (of_decide_eq_true (p := PySem.W.nsIn K mainGlobals "is_remainder" = some (some (.ref (He.ga K "is_remainder")))) (c.t 4 (t := tY4))) lk cd kp
  case XD_is_name => obtain ⟨oc, kV, doc, pm, cdv, ct, od, an, osl, lk, cd, kp⟩ := c.d 5 (d := dY5); exact has_mk X G (fun _ _ _ _ _ _ us hl => by (obtain ⟨x0, rfl⟩ := ba1 hl; rfl)) (of_decide_eq_true (p := PySem.W.nsIn K mainGlobals "is_name" = some (some (.ref (He.ga K "is_name")))) (c.t 5 (t := tY5))) lk cd kp
  case XD_is_listing => obtain ⟨oc, kV, doc, pm, cdv, ct, od, an, osl, lk, cd, kp⟩ := c.d 6 (d := dY6); exact has_mk X G (fun _ _ _ _ _ _ us hl => by (obtain ⟨x0, x1, x2, rfl⟩ := ba3 hl; rfl)) (of_decide_eq_true (p := PySem.W.nsIn K mainGlobals "is_listing" = some (some (.ref (He.ga K "is_listing")))) (c.t 6 (t := tY6))) lk cd kp
  case XD_is_factors => obtain ⟨oc, kV, doc, pm, cdv, ct, od, an, osl, lk, cd, kp⟩ := c.d 7 (d := dY7); exact has_mk X G (fun _ _ _ _ _ _ us hl => by (obtain ⟨x0, x1, rfl⟩ := ba2 hl; rfl)) (of_decide_eq_true (p := PySem.W.nsIn K mainGlobals "is_factors" = some (some (.ref (He.ga K "is_factors")))) (c.t 7 (t := tY7))) lk cd kp
  case XD_is_register => obtain ⟨oc, kV, doc, pm, cdv, ct, od, an, osl, lk, cd, kp⟩ := c.d 8 (d := dY8); exact has_mk X G (fun _ _ _ _ _ _ us hl => by (obtain ⟨x0, rfl⟩ := ba1 hl; rfl)) (of_decide_eq_true (p := PySem.W.nsIn K mainGlobals "is_register" = some (some (.ref (He.ga K "is_register")))) (c.t 8 (t := tY8))) lk cd kp
  case XD_is_mode => obtain ⟨oc, kV, doc, pm, cdv, ct, od, an, osl, lk, cd, kp⟩ := c.d 9 (d := dY9); exact has_mk X G (fun _ _ _ _ _ _ us hl => by (obtain ⟨x0, rfl⟩ := ba1 hl; rfl)) (of_decide_eq_true (p := PySem.W.nsIn K mainGlobals "is_mode" = some (some (.ref (He.ga K "is_mode")))) (c.t 9 (t := tY9))) lk cd kp
  case XD_is_row => obtain ⟨oc, kV, doc, pm, cdv, ct, od, an, osl, lk, cd, kp⟩ := c.d 10 (d := dY10); exact has_mk X G (fun _ _ _ _ _ _ us hl => by (obtain ⟨x0, x1, x2, x3, rfl⟩ := ba4 hl; rfl)) (of_decide_eq_true (p := PySem.W.nsIn K mainGlobals "is_row" = some (some (.ref (He.ga K "is_row")))) (c.t 10 (t := tY10))) lk cd kp
  case XD_first_wrong => obtain ⟨oc, kV, doc, pm, cdv, ct, od, an, osl, lk, cd, kp⟩ := c.d 11 (d := dY11); exact has_mk X G (fun _ _ _ _ _ _ us hl => by (obtain ⟨x0, x1, rfl⟩ := ba2 hl; rfl)) (of_decide_eq_true (p := PySem.W.nsIn K mainGlobals "first_wrong" = some (some (.ref (He.ga K "first_wrong")))) (c.t 11 (t := tY11))) lk cd kp
  case XD_check_registers => obtain ⟨oc, kV, doc, pm, cdv, ct, od, an, osl, lk, cd, kp⟩ := c.d 12 (d := dY12); exact has_mk X G (fun _ _ _ _ _ _ us hl => by (obtain ⟨x0, rfl⟩ := ba1 hl; rfl)) (of_decide_eq_true (p := PySem.W.nsIn K mainGlobals "check_registers" = some (some (.ref (He.ga K "check_registers")))) (c.t 12 (t := tY12))) lk cd kp
  case XD_check_modes => obtain ⟨oc, kV, doc, pm, cdv, ct, od, an, osl, lk, cd, kp⟩ := c.d 13 (d := dY13); exact has_mk X G (fun _ _ _ _ _ _ us hl => by (obtain ⟨x0, rfl⟩ := ba1 hl; rfl)) (of_decide_eq_true (p := PySem.W.nsIn K mainGlobals "check_modes" = some (some (.ref (He.ga K "check_modes")))) (c.t 13 (t := tY13))) lk cd kp
  case XD_check_rows => obtain ⟨oc, kV, doc, pm, cdv, ct, od, an, osl, lk, cd, kp⟩ := c.d 14 (d := dY14); exact has_mk X G (fun _ _ _ _ _ _ us hl => by (obtain ⟨x0, x1, x2, x3, x4, rfl⟩ := ba5 hl; rfl)) (of_decide_eq_true (p := PySem.W.nsIn K mainGlobals "check_rows" = some (some (.ref (He.ga K "check_rows")))) (c.t 14 (t := tY14))) lk cd kp
  case XD_check_ends => obtain ⟨oc, kV, doc, pm, cdv, ct, od, an, osl, lk, cd, kp⟩ := c.d 15 (d := dY15); exact has_mk X G (fun _ _ _ _ _ _ us hl => by (obtain ⟨x0, x1, rfl⟩ := ba2 hl; rfl)) (of_decide_eq_true (p := PySem.W.nsIn K mainGlobals "check_ends" = some (some (.ref (He.ga K "check_ends")))) (c.t 15 (t := tY15))) lk cd kp
  case XD_check_program => obtain ⟨oc, kV, doc, pm, cdv, ct, od, an, osl, lk, cd, kp⟩ := c.d 16 (d := dY16); exact has_mk X G (fun _ _ _ _ _ _ us hl => by (obtain ⟨x0, x1, x2, x3, x4, rfl⟩ := ba5 hl; rfl)) (of_decide_eq_true (p := PySem.W.nsIn K mainGlobals "check_program" = some (some (.ref (He.ga K "check_program")))) (c.t 16 (t := tY16))) lk cd kp
  case XD_table_of => obtain ⟨oc, kV, doc, pm, cdv, ct, od, an, osl, lk, cd, kp⟩ := c.d 17 (d := dY17); exact has_mk X G (fun _ _ _ _ _ _ us hl => by (obtain ⟨x0, rfl⟩ := ba1 hl; rfl)) (of_decide_eq_true (p := PySem.W.nsIn K mainGlobals "table_of" = some (some (.ref (He.ga K "table_of")))) (c.t 17 (t := tY17))) lk cd kp
  case XD_is_same => obtain ⟨oc, kV, doc, pm, cdv, ct, od, an, osl, lk, cd, kp⟩ := c.d 18 (d := dY18); exact has_mk X G (fun _ _ _ _ _ _ us hl => by (obtain ⟨x0, x1, rfl⟩ := ba2 hl; rfl)) (of_decide_eq_true (p := PySem.W.nsIn K mainGlobals "is_same" = some (some (.ref (He.ga K "is_same")))) (c.t 18 (t := tY18))) lk cd kp
  case XD_place_of => obtain ⟨oc, kV, doc, pm, cdv, ct, od, an, osl, lk, cd, kp⟩ := c.d 19 (d := dY19); exact has_mk X G (fun _ _ _ _ _ _ us hl => by (obtain ⟨x0, x1, x2, rfl⟩ := ba3 hl; rfl)) (of_decide_eq_true (p := PySem.W.nsIn K mainGlobals "place_of" = some (some (.ref (He.ga K "place_of")))) (c.t 19 (t := tY19))) lk cd kp
  case XD__law_pool => obtain ⟨oc, kV, doc, pm, cdv, ct, od, an, osl, lk, cd, kp⟩ := c.d 20 (d := dY20); exact has_mk X G (fun _ _ _ _ _ _ us hl => by (obtain ⟨x0, x1, rfl⟩ := ba2 hl; rfl)) (of_decide_eq_true (p := PySem.W.nsIn K mainGlobals "_law_pool" = some (some (.ref (He.ga K "_law_pool")))) (c.t 20 (t := tY20))) lk cd kp
  case XD__law_draw => obtain ⟨oc, kV, doc, pm, cdv, ct, od, an, osl, lk, cd, kp⟩ := c.d 21 (d := dY21); exact has_mk X G (fun _ _ _ _ _ _ us hl => by (obtain ⟨x0, x1, rfl⟩ := ba2 hl; rfl)) (of_decide_eq_true (p := PySem.W.nsIn K mainGlobals "_law_draw" = some (some (.ref (He.ga K "_law_draw")))) (c.t 21 (t := tY21))) lk cd kp
  case XD__law_choose => obtain ⟨oc, kV, doc, pm, cdv, ct, od, an, osl, lk, cd, kp⟩ := c.d 22 (d := dY22); exact has_mk X G (fun _ _ _ _ _ _ us hl => by (obtain ⟨x0, x1, rfl⟩ := ba2 hl; rfl)) (of_decide_eq_true (p := PySem.W.nsIn K mainGlobals "_law_choose" = some (some (.ref (He.ga K "_law_choose")))) (c.t 22 (t := tY22))) lk cd kp
  case XD__law_updates => obtain ⟨oc, kV, doc, pm, cdv, ct, od, an, osl, lk, cd, kp⟩ := c.d 23 (d := dY23); exact has_mk X G (fun _ _ _ _ _ _ us hl => by (obtain ⟨x0, x1, x2, rfl⟩ := ba3 hl; rfl)) (of_decide_eq_true (p := PySem.W.nsIn K mainGlobals "_law_updates" = some (some (.ref (He.ga K "_law_updates")))) (c.t 23 (t := tY23))) lk cd kp
  case XD__law_then => obtain ⟨oc, kV, doc, pm, cdv, ct, od, an, osl, lk, cd, kp⟩ := c.d 24 (d := dY24); exact has_mk X G (fun _ _ _ _ _ _ us hl => by (obtain ⟨x0, x1, rfl⟩ := ba2 hl; rfl)) (of_decide_eq_true (p := PySem.W.nsIn K mainGlobals "_law_then" = some (some (.ref (He.ga K "_law_then")))) (c.t 24 (t := tY24))) lk cd kp
  case XD__law_rows => obtain ⟨oc, kV, doc, pm, cdv, ct, od, an, osl, lk, cd, kp⟩ := c.d 25 (d := dY25); exact has_mk X G (fun _ _ _ _ _ _ us hl => by (obtain ⟨x0, x1, x2, x3, rfl⟩ := ba4 hl; rfl)) (of_decide_eq_true (p := PySem.W.nsIn K mainGlobals "_law_rows" = some (some (.ref (He.ga K "_law_rows")))) (c.t 25 (t := tY25))) lk cd kp
  case XD__law_parts => obtain ⟨oc, kV, doc, pm, cdv, ct, od, an, osl, lk, cd, kp⟩ := c.d 26 (d := dY26); exact has_mk X G (fun _ _ _ _ _ _ us hl => by (obtain ⟨x0, x1, x2, rfl⟩ := ba3 hl; rfl)) (of_decide_eq_true (p := PySem.W.nsIn K mainGlobals "_law_parts" = some (some (.ref (He.ga K "_law_parts")))) (c.t 26 (t := tY26))) lk cd kp
  case XD__law_told => obtain ⟨oc, kV, doc, pm, cdv, ct, od, an, osl, lk, cd, kp⟩ := c.d 27 (d := dY27); exact has_mk X G (fun _ _ _ _ _ _ us hl => by (obtain ⟨x0, rfl⟩ := ba1 hl; rfl)) (of_decide_eq_true (p := PySem.W.nsIn K mainGlobals "_law_told" = some (some (.ref (He.ga K "_law_told")))) (c.t 27 (t := tY27))) lk cd kp
  case XD__law_bent_registers => obtain ⟨oc, kV, doc, pm, cdv, ct, od, an, osl, lk, cd, kp⟩ := c.d 28 (d := dY28); exact has_mk X G (fun _ _ _ _ _ _ us hl => by (obtain ⟨x0, x1, rfl⟩ := ba2 hl; rfl)) (of_decide_eq_true (p := PySem.W.nsIn K mainGlobals "_law_bent_registers" = some (some (.ref (He.ga K "_law_bent_registers")))) (c.t 28 (t := tY28))) lk cd kp
  case XD__law_bent_modes => obtain ⟨oc, kV, doc, pm, cdv, ct, od, an, osl, lk, cd, kp⟩ := c.d 29 (d := dY29); exact has_mk X G (fun _ _ _ _ _ _ us hl => by (obtain ⟨x0, x1, rfl⟩ := ba2 hl; rfl)) (of_decide_eq_true (p := PySem.W.nsIn K mainGlobals "_law_bent_modes" = some (some (.ref (He.ga K "_law_bent_modes")))) (c.t 29 (t := tY29))) lk cd kp
  case XD__law_bent_rows => obtain ⟨oc, kV, doc, pm, cdv, ct, od, an, osl, lk, cd, kp⟩ := c.d 30 (d := dY30); exact has_mk X G (fun _ _ _ _ _ _ us hl => by (obtain ⟨x0, x1, x2, x3, rfl⟩ := ba4 hl; rfl)) (of_decide_eq_true (p := PySem.W.nsIn K mainGlobals "_law_bent_rows" = some (some (.ref (He.ga K "_law_bent_rows")))) (c.t 30 (t := tY30))) lk cd kp
  case XN_InvalidBase => obtain ⟨oc, kV, doc, pm, cdv, ct, od, an, osl, lk, cd, kp⟩ := c.d 31 (d := dY31); exact cin_mk (of_decide_eq_true (p := PySem.W.nsIn K mainGlobals "InvalidBase" = some (some (.ref (He.ga K "InvalidBase")))) (c.t 33 (t := tY33))) (of_decide_eq_true (p := PySem.W.findIn K (.ref (He.ga K "InvalidBase")) "__init__" = some (some (.ref (He.ma K (He.ga K "InvalidBase") "__init__")))) (c.t 34 (t := tY34))) lk cd kp (of_decide_eq_true (p := PySem.W.specialIn K (.builtin "object.__class__") "__get__" = some (some (.builtin "getset_descriptor.__get__"))) (c.t 31 (t := tY31))) (of_decide_eq_true (p := PySem.W.takesIn K (.builtin "object.__class__") = some true) (c.t 32 (t := tY32))) (of_decide_eq_true (p := (PySem.W.excInitIn K (He.ga K "InvalidBase") [.type "ValueError", .type "Exception", .type "BaseException", .type "object"] "ValueError.__new__", PySem.W.excOver K (He.ga K "InvalidBase") [.type "ValueError", .type "Exception", .type "BaseException", .type "object"], PySem.W.hasDictIn K (He.ga K "InvalidBase"), PySem.W.isFn K (.ref (He.ma K (He.ga K "InvalidBase") "__init__")), PySem.W.keepIn K (.ref (He.ga K "InvalidBase"))) = (true, true, true, true, true)) (c.t 35 (t := tY35))) (of_decide_eq_true (p := (PySem.W.findIn K (.ref (He.ga K "InvalidBase")) "__setattr__", PySem.W.findIn K (.ref (He.ga K "InvalidBase")) "__getattribute__", PySem.W.findIn K (.ref (He.ga K "InvalidBase")) "__getattr__", PySem.W.findIn K (.ref (He.ga K "InvalidBase")) "__class__") = (some (some (.builtin "object.__setattr__")), some (some (.builtin "BaseException.__getattribute__")), some none, some (some (.builtin "object.__class__")))) (c.t 36 (t := tY36))) (of_decide_eq_true (p := (PySem.W.subIn K (.ref (He.ga K "InvalidBase")) (.type "BaseException"), PySem.W.mroIn K (He.ga K "InvalidBase") (.type "object"), (PySem.W.clsIn K (He.ga K "InvalidBase")).map (·.mro), PySem.W.typeIn K (.ref (He.ga K "InvalidBase"))) = (some true, some true, some (.ref (He.ga K "InvalidBase") :: [.type "ValueError", .type "Exception", .type "BaseException", .type "object"]), some (.type "type"))) (c.t 37 (t := tY37))) (of_decide_eq_true (p := (["value"] : List Str).map (fun f => PySem.W.findIn K (.ref (He.ga K "InvalidBase")) f) = (["value"] : List Str).map fun _ => some none) (c.t 38 (t := tY38)))
  case XN_InvalidRegisters => obtain ⟨oc, kV, doc, pm, cdv, ct, od, an, osl, lk, cd, kp⟩ := c.d 32 (d := dY32); exact cin_mk (of_decide_eq_true (p := PySem.W.nsIn K mainGlobals "InvalidRegisters" = some (some (.ref (He.ga K "InvalidRegisters")))) (c.t 39 (t := tY39))) (of_decide_eq_true (p := PySem.W.findIn K (.ref (He.ga K "InvalidRegisters")) "__init__" = some (some (.ref (He.ma K (He.ga K "InvalidRegisters") "__init__")))) (c.t 40 (t := tY40))) lk cd kp (of_decide_eq_true (p := PySem.W.specialIn K (.builtin "object.__class__") "__get__" = some (some (.builtin "getset_descriptor.__get__"))) (c.t 31 (t := tY31))) (of_decide_eq_true (p := PySem.W.takesIn K (.builtin "object.__class__") = some true) (c.t 32 (t := tY32))) (of_decide_eq_true (p := (PySem.W.excInitIn K (He.ga K "InvalidRegisters") [.type "ValueError", .type "Exception", .type "BaseException", .type "object"] "ValueError.__new__", PySem.W.excOver K (He.ga K "InvalidRegisters") [.type "ValueError", .type "Exception", .type "BaseException", .type "object"], PySem.W.hasDictIn K (He.ga K "InvalidRegisters"), PySem.W.isFn K (.ref (He.ma K (He.ga K "InvalidRegisters") "__init__")), PySem.W.keepIn K (.ref (He.ga K "InvalidRegisters"))) = (true, true, true, true, true)) (c.t 41 (t := tY41))) (of_decide_eq_true (p := (PySem.W.findIn K (.ref (He.ga K "InvalidRegisters")) "__setattr__", PySem.W.findIn K (.ref (He.ga K "InvalidRegisters")) "__getattribute__", PySem.W.findIn K (.ref (He.ga K "InvalidRegisters")) "__getattr__", PySem.W.findIn K (.ref (He.ga K "InvalidRegisters")) "__class__") = (some (some (.builtin "object.__setattr__")), some (some (.builtin "BaseException.__getattribute__")), some none, some (some (.builtin "object.__class__")))) (c.t 42 (t := tY42))) (of_decide_eq_true (p := (PySem.W.subIn K (.ref (He.ga K "InvalidRegisters")) (.type "BaseException"), PySem.W.mroIn K (He.ga K "InvalidRegisters") (.type "object"), (PySem.W.clsIn K (He.ga K "InvalidRegisters")).map (·.mro), PySem.W.typeIn K (.ref (He.ga K "InvalidRegisters"))) = (some true, some true, some (.ref (He.ga K "InvalidRegisters") :: [.type "ValueError", .type "Exception", .type "BaseException", .type "object"]), some (.type "type"))) (c.t 43 (t := tY43))) (of_decide_eq_true (p := (["number"] : List Str).map (fun f => PySem.W.findIn K (.ref (He.ga K "InvalidRegisters")) f) = (["number"] : List Str).map fun _ => some none) (c.t 44 (t := tY44)))
  case XN_InvalidModes => obtain ⟨oc, kV, doc, pm, cdv, ct, od, an, osl, lk, cd, kp⟩ := c.d 33 (d := dY33); exact cin_mk (of_decide_eq_true (p := PySem.W.nsIn K mainGlobals "InvalidModes" = some (some (.ref (He.ga K "InvalidModes")))) (c.t 45 (t := tY45))) (of_decide_eq_true (p := PySem.W.findIn K (.ref (He.ga K "InvalidModes")) "__init__" = some (some (.ref (He.ma K (He.ga K "InvalidModes") "__init__")))) (c.t 46 (t := tY46))) lk cd kp (of_decide_eq_true (p := PySem.W.specialIn K (.builtin "object.__class__") "__get__" = some (some (.builtin "getset_descriptor.__get__"))) (c.t 31 (t := tY31))) (of_decide_eq_true (p := PySem.W.takesIn K (.builtin "object.__class__") = some true) (c.t 32 (t := tY32))) (of_decide_eq_true (p := (PySem.W.excInitIn K (He.ga K "InvalidModes") [.type "ValueError", .type "Exception", .type "BaseException", .type "object"] "ValueError.__new__", PySem.W.excOver K (He.ga K "InvalidModes") [.type "ValueError", .type "Exception", .type "BaseException", .type "object"], PySem.W.hasDictIn K (He.ga K "InvalidModes"), PySem.W.isFn K (.ref (He.ma K (He.ga K "InvalidModes") "__init__")), PySem.W.keepIn K (.ref (He.ga K "InvalidModes"))) = (true, true, true, true, true)) (c.t 47 (t := tY47))) (of_decide_eq_true (p := (PySem.W.findIn K (.ref (He.ga K "InvalidModes")) "__setattr__", PySem.W.findIn K (.ref (He.ga K "InvalidModes")) "__getattribute__", PySem.W.findIn K (.ref (He.ga K "InvalidModes")) "__getattr__", PySem.W.findIn K (.ref (He.ga K "InvalidModes")) "__class__") = (some (some (.builtin "object.__setattr__")), some (some (.builtin "BaseException.__getattribute__")), some none, some (some (.builtin "object.__class__")))) (c.t 48 (t := tY48))) (of_decide_eq_true (p := (PySem.W.subIn K (.ref (He.ga K "InvalidModes")) (.type "BaseException"), PySem.W.mroIn K (He.ga K "InvalidModes") (.type "object"), (PySem.W.clsIn K (He.ga K "InvalidModes")).map (·.mro), PySem.W.typeIn K (.ref (He.ga K "InvalidModes"))) = (some true, some true, some (.ref (He.ga K "InvalidModes") :: [.type "ValueError", .type "Exception", .type "BaseException", .type "object"]), some (.type "type"))) (c.t 49 (t := tY49))) (of_decide_eq_true (p := (["number"] : List Str).map (fun f => PySem.W.findIn K (.ref (He.ga K "InvalidModes")) f) = (["number"] : List Str).map fun _ => some none) (c.t 50 (t := tY50)))
  case XN_InvalidRow => obtain ⟨oc, kV, doc, pm, cdv, ct, od, an, osl, lk, cd, kp⟩ := c.d 34 (d := dY34); exact cin_mk (of_decide_eq_true (p := PySem.W.nsIn K mainGlobals "InvalidRow" = some (some (.ref (He.ga K "InvalidRow")))) (c.t 51 (t := tY51))) (of_decide_eq_true (p := PySem.W.findIn K (.ref (He.ga K "InvalidRow")) "__init__" = some (some (.ref (He.ma K (He.ga K "InvalidRow") "__init__")))) (c.t 52 (t := tY52))) lk cd kp (of_decide_eq_true (p := PySem.W.specialIn K (.builtin "object.__class__") "__get__" = some (some (.builtin "getset_descriptor.__get__"))) (c.t 31 (t := tY31))) (of_decide_eq_true (p := PySem.W.takesIn K (.builtin "object.__class__") = some true) (c.t 32 (t := tY32))) (of_decide_eq_true (p := (PySem.W.excInitIn K (He.ga K "InvalidRow") [.type "ValueError", .type "Exception", .type "BaseException", .type "object"] "ValueError.__new__", PySem.W.excOver K (He.ga K "InvalidRow") [.type "ValueError", .type "Exception", .type "BaseException", .type "object"], PySem.W.hasDictIn K (He.ga K "InvalidRow"), PySem.W.isFn K (.ref (He.ma K (He.ga K "InvalidRow") "__init__")), PySem.W.keepIn K (.ref (He.ga K "InvalidRow"))) = (true, true, true, true, true)) (c.t 53 (t := tY53))) (of_decide_eq_true (p := (PySem.W.findIn K (.ref (He.ga K "InvalidRow")) "__setattr__", PySem.W.findIn K (.ref (He.ga K "InvalidRow")) "__getattribute__", PySem.W.findIn K (.ref (He.ga K "InvalidRow")) "__getattr__", PySem.W.findIn K (.ref (He.ga K "InvalidRow")) "__class__") = (some (some (.builtin "object.__setattr__")), some (some (.builtin "BaseException.__getattribute__")), some none, some (some (.builtin "object.__class__")))) (c.t 54 (t := tY54))) (of_decide_eq_true (p := (PySem.W.subIn K (.ref (He.ga K "InvalidRow")) (.type "BaseException"), PySem.W.mroIn K (He.ga K "InvalidRow") (.type "object"), (PySem.W.clsIn K (He.ga K "InvalidRow")).map (·.mro), PySem.W.typeIn K (.ref (He.ga K "InvalidRow"))) = (some true, some true, some (.ref (He.ga K "InvalidRow") :: [.type "ValueError", .type "Exception", .type "BaseException", .type "object"]), some (.type "type"))) (c.t 55 (t := tY55))) (of_decide_eq_true (p := (["mode", "number"] : List Str).map (fun f => PySem.W.findIn K (.ref (He.ga K "InvalidRow")) f) = (["mode", "number"] : List Str).map fun _ => some none) (c.t 56 (t := tY56)))
  case XN_InvalidEnds => obtain ⟨oc, kV, doc, pm, cdv, ct, od, an, osl, lk, cd, kp⟩ := c.d 35 (d := dY35); exact cin_mk (of_decide_eq_true (p := PySem.W.nsIn K mainGlobals "InvalidEnds" = some (some (.ref (He.ga K "InvalidEnds")))) (c.t 57 (t := tY57))) (of_decide_eq_true (p := PySem.W.findIn K (.ref (He.ga K "InvalidEnds")) "__init__" = some (some (.ref (He.ma K (He.ga K "InvalidEnds") "__init__")))) (c.t 58 (t := tY58))) lk cd kp (of_decide_eq_true (p := PySem.W.specialIn K (.builtin "object.__class__") "__get__" = some (some (.builtin "getset_descriptor.__get__"))) (c.t 31 (t := tY31))) (of_decide_eq_true (p := PySem.W.takesIn K (.builtin "object.__class__") = some true) (c.t 32 (t := tY32))) (of_decide_eq_true (p := (PySem.W.excInitIn K (He.ga K "InvalidEnds") [.type "ValueError", .type "Exception", .type "BaseException", .type "object"] "ValueError.__new__", PySem.W.excOver K (He.ga K "InvalidEnds") [.type "ValueError", .type "Exception", .type "BaseException", .type "object"], PySem.W.hasDictIn K (He.ga K "InvalidEnds"), PySem.W.isFn K (.ref (He.ma K (He.ga K "InvalidEnds") "__init__")), PySem.W.keepIn K (.ref (He.ga K "InvalidEnds"))) = (true, true, true, true, true)) (c.t 59 (t := tY59))) (of_decide_eq_true (p := (PySem.W.findIn K (.ref (He.ga K "InvalidEnds")) "__setattr__", PySem.W.findIn K (.ref (He.ga K "InvalidEnds")) "__getattribute__", PySem.W.findIn K (.ref (He.ga K "InvalidEnds")) "__getattr__", PySem.W.findIn K (.ref (He.ga K "InvalidEnds")) "__class__") = (some (some (.builtin "object.__setattr__")), some (some (.builtin "BaseException.__getattribute__")), some none, some (some (.builtin "object.__class__")))) (c.t 60 (t := tY60))) (of_decide_eq_true (p := (PySem.W.subIn K (.ref (He.ga K "InvalidEnds")) (.type "BaseException"), PySem.W.mroIn K (He.ga K "InvalidEnds") (.type "object"), (PySem.W.clsIn K (He.ga K "InvalidEnds")).map (·.mro), PySem.W.typeIn K (.ref (He.ga K "InvalidEnds"))) = (some true, some true, some (.ref (He.ga K "InvalidEnds") :: [.type "ValueError", .type "Exception", .type "BaseException", .type "object"]), some (.type "type"))) (c.t 61 (t := tY61))) (of_decide_eq_true (p := (["value"] : List Str).map (fun f => PySem.W.findIn K (.ref (He.ga K "InvalidEnds")) f) = (["value"] : List Str).map fun _ => some none) (c.t 62 (t := tY62)))
  case XN_InvalidResult => obtain ⟨oc, kV, doc, pm, cdv, ct, od, an, osl, lk, cd, kp⟩ := c.d 36 (d := dY36); exact cin_mk (of_decide_eq_true (p := PySem.W.nsIn K mainGlobals "InvalidResult" = some (some (.ref (He.ga K "InvalidResult")))) (c.t 63 (t := tY63))) (of_decide_eq_true (p := PySem.W.findIn K (.ref (He.ga K "InvalidResult")) "__init__" = some (some (.ref (He.ma K (He.ga K "InvalidResult") "__init__")))) (c.t 64 (t := tY64))) lk cd kp (of_decide_eq_true (p := PySem.W.specialIn K (.builtin "object.__class__") "__get__" = some (some (.builtin "getset_descriptor.__get__"))) (c.t 31 (t := tY31))) (of_decide_eq_true (p := PySem.W.takesIn K (.builtin "object.__class__") = some true) (c.t 32 (t := tY32))) (of_decide_eq_true (p := (PySem.W.excInitIn K (He.ga K "InvalidResult") [.type "ValueError", .type "Exception", .type "BaseException", .type "object"] "ValueError.__new__", PySem.W.excOver K (He.ga K "InvalidResult") [.type "ValueError", .type "Exception", .type "BaseException", .type "object"], PySem.W.hasDictIn K (He.ga K "InvalidResult"), PySem.W.isFn K (.ref (He.ma K (He.ga K "InvalidResult") "__init__")), PySem.W.keepIn K (.ref (He.ga K "InvalidResult"))) = (true, true, true, true, true)) (c.t 65 (t := tY65))) (of_decide_eq_true (p := (PySem.W.findIn K (.ref (He.ga K "InvalidResult")) "__setattr__", PySem.W.findIn K (.ref (He.ga K "InvalidResult")) "__getattribute__", PySem.W.findIn K (.ref (He.ga K "InvalidResult")) "__getattr__", PySem.W.findIn K (.ref (He.ga K "InvalidResult")) "__class__") = (some (some (.builtin "object.__setattr__")), some (some (.builtin "BaseException.__getattribute__")), some none, some (some (.builtin "object.__class__")))) (c.t 66 (t := tY66))) (of_decide_eq_true (p := (PySem.W.subIn K (.ref (He.ga K "InvalidResult")) (.type "BaseException"), PySem.W.mroIn K (He.ga K "InvalidResult") (.type "object"), (PySem.W.clsIn K (He.ga K "InvalidResult")).map (·.mro), PySem.W.typeIn K (.ref (He.ga K "InvalidResult"))) = (some true, some true, some (.ref (He.ga K "InvalidResult") :: [.type "ValueError", .type "Exception", .type "BaseException", .type "object"]), some (.type "type"))) (c.t 67 (t := tY67))) (of_decide_eq_true (p := (["value"] : List Str).map (fun f => PySem.W.findIn K (.ref (He.ga K "InvalidResult")) f) = (["value"] : List Str).map fun _ => some none) (c.t 68 (t := tY68)))
  case XN_UnknownName => obtain ⟨oc, kV, doc, pm, cdv, ct, od, an, osl, lk, cd, kp⟩ := c.d 37 (d := dY37); exact cin_mk (of_decide_eq_true (p := PySem.W.nsIn K mainGlobals "UnknownName" = some (some (.ref (He.ga K "UnknownName")))) (c.t 69 (t := tY69))) (of_decide_eq_true (p := PySem.W.findIn K (.ref (He.ga K "UnknownName")) "__init__" = some (some (.ref (He.ma K (He.ga K "UnknownName") "__init__")))) (c.t 70 (t := tY70))) lk cd kp (of_decide_eq_true (p := PySem.W.specialIn K (.builtin "object.__class__") "__get__" = some (some (.builtin "getset_descriptor.__get__"))) (c.t 31 (t := tY31))) (of_decide_eq_true (p := PySem.W.takesIn K (.builtin "object.__class__") = some true) (c.t 32 (t := tY32))) (of_decide_eq_true (p := (PySem.W.excInitIn K (He.ga K "UnknownName") [.type "LookupError", .type "Exception", .type "BaseException", .type "object"] "LookupError.__new__", PySem.W.excOver K (He.ga K "UnknownName") [.type "LookupError", .type "Exception", .type "BaseException", .type "object"], PySem.W.hasDictIn K (He.ga K "UnknownName"), PySem.W.isFn K (.ref (He.ma K (He.ga K "UnknownName") "__init__")), PySem.W.keepIn K (.ref (He.ga K "UnknownName"))) = (true, true, true, true, true)) (c.t 71 (t := tY71))) (of_decide_eq_true (p := (PySem.W.findIn K (.ref (He.ga K "UnknownName")) "__setattr__", PySem.W.findIn K (.ref (He.ga K "UnknownName")) "__getattribute__", PySem.W.findIn K (.ref (He.ga K "UnknownName")) "__getattr__", PySem.W.findIn K (.ref (He.ga K "UnknownName")) "__class__") = (some (some (.builtin "object.__setattr__")), some (some (.builtin "BaseException.__getattribute__")), some none, some (some (.builtin "object.__class__")))) (c.t 72 (t := tY72))) (of_decide_eq_true (p := (PySem.W.subIn K (.ref (He.ga K "UnknownName")) (.type "BaseException"), PySem.W.mroIn K (He.ga K "UnknownName") (.type "object"), (PySem.W.clsIn K (He.ga K "UnknownName")).map (·.mro), PySem.W.typeIn K (.ref (He.ga K "UnknownName"))) = (some true, some true, some (.ref (He.ga K "UnknownName") :: [.type "LookupError", .type "Exception", .type "BaseException", .type "object"]), some (.type "type"))) (c.t 73 (t := tY73))) (of_decide_eq_true (p := (["value"] : List Str).map (fun f => PySem.W.findIn K (.ref (He.ga K "UnknownName")) f) = (["value"] : List Str).map fun _ => some none) (c.t 74 (t := tY74)))
  case XN_InvalidSign => obtain ⟨oc, kV, doc, pm, cdv, ct, od, an, osl, lk, cd, kp⟩ := c.d 38 (d := dY38); exact cin_mk (of_decide_eq_true (p := PySem.W.nsIn K mainGlobals "InvalidSign" = some (some (.ref (He.ga K "InvalidSign")))) (c.t 75 (t := tY75))) (of_decide_eq_true (p := PySem.W.findIn K (.ref (He.ga K "InvalidSign")) "__init__" = some (some (.ref (He.ma K (He.ga K "InvalidSign") "__init__")))) (c.t 76 (t := tY76))) lk cd kp (of_decide_eq_true (p := PySem.W.specialIn K (.builtin "object.__class__") "__get__" = some (some (.builtin "getset_descriptor.__get__"))) (c.t 31 (t := tY31))) (of_decide_eq_true (p := PySem.W.takesIn K (.builtin "object.__class__") = some true) (c.t 32 (t := tY32))) (of_decide_eq_true (p := (PySem.W.excInitIn K (He.ga K "InvalidSign") [.type "ValueError", .type "Exception", .type "BaseException", .type "object"] "ValueError.__new__", PySem.W.excOver K (He.ga K "InvalidSign") [.type "ValueError", .type "Exception", .type "BaseException", .type "object"], PySem.W.hasDictIn K (He.ga K "InvalidSign"), PySem.W.isFn K (.ref (He.ma K (He.ga K "InvalidSign") "__init__")), PySem.W.keepIn K (.ref (He.ga K "InvalidSign"))) = (true, true, true, true, true)) (c.t 77 (t := tY77))) (of_decide_eq_true (p := (PySem.W.findIn K (.ref (He.ga K "InvalidSign")) "__setattr__", PySem.W.findIn K (.ref (He.ga K "InvalidSign")) "__getattribute__", PySem.W.findIn K (.ref (He.ga K "InvalidSign")) "__getattr__", PySem.W.findIn K (.ref (He.ga K "InvalidSign")) "__class__") = (some (some (.builtin "object.__setattr__")), some (some (.builtin "BaseException.__getattribute__")), some none, some (some (.builtin "object.__class__")))) (c.t 78 (t := tY78))) (of_decide_eq_true (p := (PySem.W.subIn K (.ref (He.ga K "InvalidSign")) (.type "BaseException"), PySem.W.mroIn K (He.ga K "InvalidSign") (.type "object"), (PySem.W.clsIn K (He.ga K "InvalidSign")).map (·.mro), PySem.W.typeIn K (.ref (He.ga K "InvalidSign"))) = (some true, some true, some (.ref (He.ga K "InvalidSign") :: [.type "ValueError", .type "Exception", .type "BaseException", .type "object"]), some (.type "type"))) (c.t 79 (t := tY79))) (of_decide_eq_true (p := (["value"] : List Str).map (fun f => PySem.W.findIn K (.ref (He.ga K "InvalidSign")) f) = (["value"] : List Str).map fun _ => some none) (c.t 80 (t := tY80)))
  case XN_InvalidNumber => obtain ⟨oc, kV, doc, pm, cdv, ct, od, an, osl, lk, cd, kp⟩ := c.d 39 (d := dY39); exact cin_mk (of_decide_eq_true (p := PySem.W.nsIn K mainGlobals "InvalidNumber" = some (some (.ref (He.ga K "InvalidNumber")))) (c.t 81 (t := tY81))) (of_decide_eq_true (p := PySem.W.findIn K (.ref (He.ga K "InvalidNumber")) "__init__" = some (some (.ref (He.ma K (He.ga K "InvalidNumber") "__init__")))) (c.t 82 (t := tY82))) lk cd kp (of_decide_eq_true (p := PySem.W.specialIn K (.builtin "object.__class__") "__get__" = some (some (.builtin "getset_descriptor.__get__"))) (c.t 31 (t := tY31))) (of_decide_eq_true (p := PySem.W.takesIn K (.builtin "object.__class__") = some true) (c.t 32 (t := tY32))) (of_decide_eq_true (p := (PySem.W.excInitIn K (He.ga K "InvalidNumber") [.type "ValueError", .type "Exception", .type "BaseException", .type "object"] "ValueError.__new__", PySem.W.excOver K (He.ga K "InvalidNumber") [.type "ValueError", .type "Exception", .type "BaseException", .type "object"], PySem.W.hasDictIn K (He.ga K "InvalidNumber"), PySem.W.isFn K (.ref (He.ma K (He.ga K "InvalidNumber") "__init__")), PySem.W.keepIn K (.ref (He.ga K "InvalidNumber"))) = (true, true, true, true, true)) (c.t 83 (t := tY83))) (of_decide_eq_true (p := (PySem.W.findIn K (.ref (He.ga K "InvalidNumber")) "__setattr__", PySem.W.findIn K (.ref (He.ga K "InvalidNumber")) "__getattribute__", PySem.W.findIn K (.ref (He.ga K "InvalidNumber")) "__getattr__", PySem.W.findIn K (.ref (He.ga K "InvalidNumber")) "__class__") = (some (some (.builtin "object.__setattr__")), some (some (.builtin "BaseException.__getattribute__")), some none, some (some (.builtin "object.__class__")))) (c.t 84 (t := tY84))) (of_decide_eq_true (p := (PySem.W.subIn K (.ref (He.ga K "InvalidNumber")) (.type "BaseException"), PySem.W.mroIn K (He.ga K "InvalidNumber") (.type "object"), (PySem.W.clsIn K (He.ga K "InvalidNumber")).map (·.mro), PySem.W.typeIn K (.ref (He.ga K "InvalidNumber"))) = (some true, some true, some (.ref (He.ga K "InvalidNumber") :: [.type "ValueError", .type "Exception", .type "BaseException", .type "object"]), some (.type "type"))) (c.t 85 (t := tY85))) (of_decide_eq_true (p := (["value"] : List Str).map (fun f => PySem.W.findIn K (.ref (He.ga K "InvalidNumber")) f) = (["value"] : List Str).map fun _ => some none) (c.t 86 (t := tY86)))
  case XN_InvalidRule => obtain ⟨oc, kV, doc, pm, cdv, ct, od, an, osl, lk, cd, kp⟩ := c.d 40 (d := dY40); exact cin_mk (of_decide_eq_true (p := PySem.W.nsIn K mainGlobals "InvalidRule" = some (some (.ref (He.ga K "InvalidRule")))) (c.t 87 (t := tY87))) (of_decide_eq_true (p := PySem.W.findIn K (.ref (He.ga K "InvalidRule")) "__init__" = some (some (.ref (He.ma K (He.ga K "InvalidRule") "__init__")))) (c.t 88 (t := tY88))) lk cd kp (of_decide_eq_true (p := PySem.W.specialIn K (.builtin "object.__class__") "__get__" = some (some (.builtin "getset_descriptor.__get__"))) (c.t 31 (t := tY31))) (of_decide_eq_true (p := PySem.W.takesIn K (.builtin "object.__class__") = some true) (c.t 32 (t := tY32))) (of_decide_eq_true (p := (PySem.W.excInitIn K (He.ga K "InvalidRule") [.type "ValueError", .type "Exception", .type "BaseException", .type "object"] "ValueError.__new__", PySem.W.excOver K (He.ga K "InvalidRule") [.type "ValueError", .type "Exception", .type "BaseException", .type "object"], PySem.W.hasDictIn K (He.ga K "InvalidRule"), PySem.W.isFn K (.ref (He.ma K (He.ga K "InvalidRule") "__init__")), PySem.W.keepIn K (.ref (He.ga K "InvalidRule"))) = (true, true, true, true, true)) (c.t 89 (t := tY89))) (of_decide_eq_true (p := (PySem.W.findIn K (.ref (He.ga K "InvalidRule")) "__setattr__", PySem.W.findIn K (.ref (He.ga K "InvalidRule")) "__getattribute__", PySem.W.findIn K (.ref (He.ga K "InvalidRule")) "__getattr__", PySem.W.findIn K (.ref (He.ga K "InvalidRule")) "__class__") = (some (some (.builtin "object.__setattr__")), some (some (.builtin "BaseException.__getattribute__")), some none, some (some (.builtin "object.__class__")))) (c.t 90 (t := tY90))) (of_decide_eq_true (p := (PySem.W.subIn K (.ref (He.ga K "InvalidRule")) (.type "BaseException"), PySem.W.mroIn K (He.ga K "InvalidRule") (.type "object"), (PySem.W.clsIn K (He.ga K "InvalidRule")).map (·.mro), PySem.W.typeIn K (.ref (He.ga K "InvalidRule"))) = (some true, some true, some (.ref (He.ga K "InvalidRule") :: [.type "ValueError", .type "Exception", .type "BaseException", .type "object"]), some (.type "type"))) (c.t 91 (t := tY91))) (of_decide_eq_true (p := (["value"] : List Str).map (fun f => PySem.W.findIn K (.ref (He.ga K "InvalidRule")) f) = (["value"] : List Str).map fun _ => some none) (c.t 92 (t := tY92)))
  case XaL => exact (of_decide_eq_true (p := PySem.W.nsIn K mainGlobals "law" = some (some (.ref (He.ga K "law")))) (c.t 93 (t := tY93)))
  case XlL => exact lkL
  case XcL => exact cdpL
  case XkL => exact kpL
  case XaV => exact (of_decide_eq_true (p := PySem.W.nsIn K mainGlobals "_law_doors_right" = some (some (.ref (He.ga K "_law_doors_right")))) (c.t 94 (t := tY94)))
  case XlV => exact lkV
  case XcV => exact cdpV
  case XkV => exact kpV
  case XaB => exact (of_decide_eq_true (p := PySem.W.nsIn K mainGlobals "_law_bent" = some (some (.ref (He.ga K "_law_bent")))) (c.t 95 (t := tY95)))
  case XlB => exact lkB
  case XcB => exact cdpB
  case XkB => exact kpB
  case XaCP => exact (of_decide_eq_true (p := PySem.W.nsIn K mainGlobals "Program" = some (some (.ref (He.ga K "Program")))) (c.t 96 (t := tY96)))
  case XclCP => exact cls_mk (of_decide_eq_true (p := (PySem.W.plainGet K (He.ga K "Program") Str.empty, PySem.W.hasDictIn K (He.ga K "Program"), PySem.W.plainOver K (He.ga K "Program")) = (true, true, true)) (c.t 97 (t := tY97))) (of_decide_eq_true (p := PySem.W.findIn K (.ref (He.ga K "Program")) "__setattr__" = some (some (.builtin "object.__setattr__"))) (c.t 98 (t := tY98)))
  case Xpin => exact (of_decide_eq_true (p := (["_base", "_registers", "_modes", "_ends", "_result", "_tables"] : List Str).map (fun f => PySem.W.findIn K (.ref (He.ga K "Program")) f) = (["_base", "_registers", "_modes", "_ends", "_result", "_tables"] : List Str).map fun _ => some none) (c.t 99 (t := tY99)))
  case XiP => obtain ⟨oc, kV, doc, pm, cdv, ct, od, an, osl, lk, cd, kp⟩ := c.d 41 (d := dY41); exact ifun_mk (fun _ _ _ _ _ _ us hl => by (obtain ⟨x0, x1, x2, x3, x4, x5, rfl⟩ := ba6 hl; rfl)) (of_decide_eq_true (p := PySem.W.findIn K (.ref (He.ga K "Program")) "__init__" = some (some (.ref (He.ma K (He.ga K "Program") "__init__")))) (c.t 100 (t := tY100))) lk cd kp (of_decide_eq_true (p := PySem.W.makesIn K (He.ga K "Program") = true) (c.t 101 (t := tY101))) (of_decide_eq_true (p := PySem.W.isFn K (.ref (He.ma K (He.ga K "Program") "__init__")) = true) (c.t 102 (t := tY102))) (of_decide_eq_true (p := PySem.W.keepIn K (.ref (He.ga K "Program")) = true) (c.t 103 (t := tY103)))
  case Xp_size => obtain ⟨oc, kV, doc, pm, cdv, ct, od, an, osl, lk, cd, kp⟩ := c.d 42 (d := dY42); obtain ⟨rest, r⟩ := gB_ok (K := K) (p := (He.ma K (He.ga K "Program") "size")) (c.t 107 (t := tY107)); exact pfun_mk (fun _ _ _ _ _ _ us hl => by (obtain ⟨x0, rfl⟩ := ba1 hl; rfl)) (of_decide_eq_true (p := PySem.W.findIn K (.ref (He.ga K "Program")) "size" = some (some (.ref (He.ma K (He.ga K "Program") "size")))) (c.t 104 (t := tY104))) (of_decide_eq_true (p := PySem.W.specialIn K (.ref (He.ma K (He.ga K "Program") "size")) "__get__" = some (some (.builtin "property.__get__"))) (c.t 105 (t := tY105))) (of_decide_eq_true (p := PySem.W.takesIn K (.ref (He.ma K (He.ga K "Program") "size")) = some true) (c.t 106 (t := tY106))) r lk cd kp
  case Xm__mode => obtain ⟨oc, kV, doc, pm, cdv, ct, od, an, osl, lk, cd, kp⟩ := c.d 43 (d := dY43); exact over_mk (fun _ _ _ _ _ _ us hl => by (obtain ⟨x0, x1, rfl⟩ := ba2 hl; rfl)) (of_decide_eq_true (p := PySem.W.findIn K (.ref (He.ga K "Program")) "_mode" = some (some (.ref (He.ma K (He.ga K "Program") "_mode")))) (c.t 108 (t := tY108))) lk cd kp (of_decide_eq_true (p := PySem.W.isFn K (.ref (He.ma K (He.ga K "Program") "_mode")) = true) (c.t 109 (t := tY109)))
  case Xm_rule_of => obtain ⟨oc, kV, doc, pm, cdv, ct, od, an, osl, lk, cd, kp⟩ := c.d 44 (d := dY44); exact over_mk (fun _ _ _ _ _ _ us hl => by (obtain ⟨x0, x1, rfl⟩ := ba2 hl; rfl)) (of_decide_eq_true (p := PySem.W.findIn K (.ref (He.ga K "Program")) "rule_of" = some (some (.ref (He.ma K (He.ga K "Program") "rule_of")))) (c.t 110 (t := tY110))) lk cd kp (of_decide_eq_true (p := PySem.W.isFn K (.ref (He.ma K (He.ga K "Program") "rule_of")) = true) (c.t 111 (t := tY111)))
  case Xm_rows_of => obtain ⟨oc, kV, doc, pm, cdv, ct, od, an, osl, lk, cd, kp⟩ := c.d 45 (d := dY45); exact over_mk (fun _ _ _ _ _ _ us hl => by (obtain ⟨x0, x1, rfl⟩ := ba2 hl; rfl)) (of_decide_eq_true (p := PySem.W.findIn K (.ref (He.ga K "Program")) "rows_of" = some (some (.ref (He.ma K (He.ga K "Program") "rows_of")))) (c.t 112 (t := tY112))) lk cd kp (of_decide_eq_true (p := PySem.W.isFn K (.ref (He.ma K (He.ga K "Program") "rows_of")) = true) (c.t 113 (t := tY113)))
  case Xm_with_rule => obtain ⟨oc, kV, doc, pm, cdv, ct, od, an, osl, lk, cd, kp⟩ := c.d 46 (d := dY46); exact over_mk (fun _ _ _ _ _ _ us hl => by (obtain ⟨x0, x1, x2, rfl⟩ := ba3 hl; rfl)) (of_decide_eq_true (p := PySem.W.findIn K (.ref (He.ga K "Program")) "with_rule" = some (some (.ref (He.ma K (He.ga K "Program") "with_rule")))) (c.t 114 (t := tY114))) lk cd kp (of_decide_eq_true (p := PySem.W.isFn K (.ref (He.ma K (He.ga K "Program") "with_rule")) = true) (c.t 115 (t := tY115)))
  case Xm_under => obtain ⟨oc, kV, doc, pm, cdv, ct, od, an, osl, lk, cd, kp⟩ := c.d 47 (d := dY47); exact over_mk (fun _ _ _ _ _ _ us hl => by (obtain ⟨x0, x1, rfl⟩ := ba2 hl; rfl)) (of_decide_eq_true (p := PySem.W.findIn K (.ref (He.ga K "Program")) "under" = some (some (.ref (He.ma K (He.ga K "Program") "under")))) (c.t 116 (t := tY116))) lk cd kp (of_decide_eq_true (p := PySem.W.isFn K (.ref (He.ma K (He.ga K "Program") "under")) = true) (c.t 117 (t := tY117)))
  case Xm_with_row => obtain ⟨oc, kV, doc, pm, cdv, ct, od, an, osl, lk, cd, kp⟩ := c.d 48 (d := dY48); exact over_mk (fun _ _ _ _ _ _ us hl => by (obtain ⟨x0, x1, x2, x3, x4, x5, rfl⟩ := ba6 hl; rfl)) (of_decide_eq_true (p := PySem.W.findIn K (.ref (He.ga K "Program")) "with_row" = some (some (.ref (He.ma K (He.ga K "Program") "with_row")))) (c.t 118 (t := tY118))) lk cd kp (of_decide_eq_true (p := PySem.W.isFn K (.ref (He.ma K (He.ga K "Program") "with_row")) = true) (c.t 119 (t := tY119)))
  case Xm__with_mode => obtain ⟨oc, kV, doc, pm, cdv, ct, od, an, osl, lk, cd, kp⟩ := c.d 49 (d := dY49); exact over_mk (fun _ _ _ _ _ _ us hl => by (obtain ⟨x0, x1, x2, x3, rfl⟩ := ba4 hl; rfl)) (of_decide_eq_true (p := PySem.W.findIn K (.ref (He.ga K "Program")) "_with_mode" = some (some (.ref (He.ma K (He.ga K "Program") "_with_mode")))) (c.t 120 (t := tY120))) lk cd kp (of_decide_eq_true (p := PySem.W.isFn K (.ref (He.ma K (He.ga K "Program") "_with_mode")) = true) (c.t 121 (t := tY121)))
  case Xm_getitem => obtain ⟨oc, kV, doc, pm, cdv, ct, od, an, osl, lk, cd, kp⟩ := c.d 50 (d := dY50); exact ixfun_mk (fun _ _ _ _ _ _ us hl => by (obtain ⟨x0, x1, rfl⟩ := ba2 hl; rfl)) (of_decide_eq_true (p := PySem.W.findIn K (.ref (He.ga K "Program")) "__getitem__" = some (some (.ref (He.ma K (He.ga K "Program") "__getitem__")))) (c.t 122 (t := tY122))) lk cd kp (of_decide_eq_true (p := PySem.W.isFn K (.ref (He.ma K (He.ga K "Program") "__getitem__")) = true) (c.t 123 (t := tY123))) (of_decide_eq_true (p := PySem.W.fnIn K (He.ma K (He.ga K "Program") "__getitem__") = true) (c.t 124 (t := tY124)))
  case XaT => exact (of_decide_eq_true (p := PySem.W.nsIn K mainGlobals "RULES" = some (some (.ref (He.ga K "RULES")))) (c.t 125 (t := tY125)))
  case XlT => exact lT
  case XcT => exact cT
  case XdT => exact dT
  case XsT => exact sT
  case XvT => exact vT
  case XgL => exact gL
  case XgS => exact gS
  case Xe0_0 => exact (of_decide_eq_true (p := PySem.W.exmOne K (.ref (He.ga K "InvalidBase")) (.ref (He.ga K "InvalidBase")) = some true) (c.t 129 (t := tY129)))
  case Xe1_0 => exact (of_decide_eq_true (p := PySem.W.exmOne K (.ref (He.ga K "InvalidRegisters")) (.ref (He.ga K "InvalidBase")) = some false) (c.t 130 (t := tY130)))
  case Xe1_1 => exact (of_decide_eq_true (p := PySem.W.exmOne K (.ref (He.ga K "InvalidRegisters")) (.ref (He.ga K "InvalidRegisters")) = some true) (c.t 131 (t := tY131)))
  case Xe2_0 => exact (of_decide_eq_true (p := PySem.W.exmOne K (.ref (He.ga K "InvalidModes")) (.ref (He.ga K "InvalidBase")) = some false) (c.t 132 (t := tY132)))
  case Xe2_1 => exact (of_decide_eq_true (p := PySem.W.exmOne K (.ref (He.ga K "InvalidModes")) (.ref (He.ga K "InvalidRegisters")) = some false) (c.t 133 (t := tY133)))
  case Xe2_2 => exact (of_decide_eq_true (p := PySem.W.exmOne K (.ref (He.ga K "InvalidModes")) (.ref (He.ga K "InvalidModes")) = some true) (c.t 134 (t := tY134)))
  case Xe3_0 => exact (of_decide_eq_true (p := PySem.W.exmOne K (.ref (He.ga K "InvalidRow")) (.ref (He.ga K "InvalidBase")) = some false) (c.t 135 (t := tY135)))
  case Xe3_1 => exact (of_decide_eq_true (p := PySem.W.exmOne K (.ref (He.ga K "InvalidRow")) (.ref (He.ga K "InvalidRegisters")) = some false) (c.t 136 (t := tY136)))
  case Xe3_2 => exact (of_decide_eq_true (p := PySem.W.exmOne K (.ref (He.ga K "InvalidRow")) (.ref (He.ga K "InvalidModes")) = some false) (c.t 137 (t := tY137)))
  case Xe3_3 => exact (of_decide_eq_true (p := PySem.W.exmOne K (.ref (He.ga K "InvalidRow")) (.ref (He.ga K "InvalidRow")) = some true) (c.t 138 (t := tY138)))
  case Xe4_0 => exact (of_decide_eq_true (p := PySem.W.exmOne K (.ref (He.ga K "InvalidEnds")) (.ref (He.ga K "InvalidBase")) = some false) (c.t 139 (t := tY139)))
  case Xe4_1 => exact (of_decide_eq_true (p := PySem.W.exmOne K (.ref (He.ga K "InvalidEnds")) (.ref (He.ga K "InvalidRegisters")) = some false) (c.t 140 (t := tY140)))
  case Xe4_2 => exact (of_decide_eq_true (p := PySem.W.exmOne K (.ref (He.ga K "InvalidEnds")) (.ref (He.ga K "InvalidModes")) = some false) (c.t 141 (t := tY141)))
  case Xe4_3 => exact (of_decide_eq_true (p := PySem.W.exmOne K (.ref (He.ga K "InvalidEnds")) (.ref (He.ga K "InvalidRow")) = some false) (c.t 142 (t := tY142)))
  case Xe4_4 => exact (of_decide_eq_true (p := PySem.W.exmOne K (.ref (He.ga K "InvalidEnds")) (.ref (He.ga K "InvalidEnds")) = some true) (c.t 143 (t := tY143)))
  case Xe5_0 => exact (of_decide_eq_true (p := PySem.W.exmOne K (.ref (He.ga K "InvalidResult")) (.ref (He.ga K "InvalidBase")) = some false) (c.t 144 (t := tY144)))
  case Xe5_1 => exact (of_decide_eq_true (p := PySem.W.exmOne K (.ref (He.ga K "InvalidResult")) (.ref (He.ga K "InvalidRegisters")) = some false) (c.t 145 (t := tY145)))
  case Xe5_2 => exact (of_decide_eq_true (p := PySem.W.exmOne K (.ref (He.ga K "InvalidResult")) (.ref (He.ga K "InvalidModes")) = some false) (c.t 146 (t := tY146)))
  case Xe5_3 => exact (of_decide_eq_true (p := PySem.W.exmOne K (.ref (He.ga K "InvalidResult")) (.ref (He.ga K "InvalidRow")) = some false) (c.t 147 (t := tY147)))
  case Xe5_4 => exact (of_decide_eq_true (p := PySem.W.exmOne K (.ref (He.ga K "InvalidResult")) (.ref (He.ga K "InvalidEnds")) = some false) (c.t 148 (t := tY148)))
  case Xe5_5 => exact (of_decide_eq_true (p := PySem.W.exmOne K (.ref (He.ga K "InvalidResult")) (.ref (He.ga K "InvalidResult")) = some true) (c.t 149 (t := tY149)))
  case Xe6_0 => exact (of_decide_eq_true (p := PySem.W.exmOne K (.ref (He.ga K "UnknownName")) (.ref (He.ga K "InvalidBase")) = some false) (c.t 150 (t := tY150)))
  case Xe6_1 => exact (of_decide_eq_true (p := PySem.W.exmOne K (.ref (He.ga K "UnknownName")) (.ref (He.ga K "InvalidRegisters")) = some false) (c.t 151 (t := tY151)))
  case Xe6_2 => exact (of_decide_eq_true (p := PySem.W.exmOne K (.ref (He.ga K "UnknownName")) (.ref (He.ga K "InvalidModes")) = some false) (c.t 152 (t := tY152)))
  case Xe6_3 => exact (of_decide_eq_true (p := PySem.W.exmOne K (.ref (He.ga K "UnknownName")) (.ref (He.ga K "InvalidRow")) = some false) (c.t 153 (t := tY153)))
  case Xe6_4 => exact (of_decide_eq_true (p := PySem.W.exmOne K (.ref (He.ga K "UnknownName")) (.ref (He.ga K "InvalidEnds")) = some false) (c.t 154 (t := tY154)))
  case Xe6_5 => exact (of_decide_eq_true (p := PySem.W.exmOne K (.ref (He.ga K "UnknownName")) (.ref (He.ga K "InvalidResult")) = some false) (c.t 155 (t := tY155)))
  case Xe6_6 => exact (of_decide_eq_true (p := PySem.W.exmOne K (.ref (He.ga K "UnknownName")) (.ref (He.ga K "UnknownName")) = some true) (c.t 156 (t := tY156)))
  case Xe7_0 => exact (of_decide_eq_true (p := PySem.W.exmOne K (.ref (He.ga K "InvalidSign")) (.ref (He.ga K "InvalidBase")) = some false) (c.t 157 (t := tY157)))
  case Xe7_1 => exact (of_decide_eq_true (p := PySem.W.exmOne K (.ref (He.ga K "InvalidSign")) (.ref (He.ga K "InvalidRegisters")) = some false) (c.t 158 (t := tY158)))
  case Xe7_2 => exact (of_decide_eq_true (p := PySem.W.exmOne K (.ref (He.ga K "InvalidSign")) (.ref (He.ga K "InvalidModes")) = some false) (c.t 159 (t := tY159)))
  case Xe7_3 => exact (of_decide_eq_true (p := PySem.W.exmOne K (.ref (He.ga K "InvalidSign")) (.ref (He.ga K "InvalidRow")) = some false) (c.t 160 (t := tY160)))
  case Xe7_4 => exact (of_decide_eq_true (p := PySem.W.exmOne K (.ref (He.ga K "InvalidSign")) (.ref (He.ga K "InvalidEnds")) = some false) (c.t 161 (t := tY161)))
  case Xe7_5 => exact (of_decide_eq_true (p := PySem.W.exmOne K (.ref (He.ga K "InvalidSign")) (.ref (He.ga K "InvalidResult")) = some false) (c.t 162 (t := tY162)))
  case Xe7_6 => exact (of_decide_eq_true (p := PySem.W.exmOne K (.ref (He.ga K "InvalidSign")) (.ref (He.ga K "UnknownName")) = some false) (c.t 163 (t := tY163)))
  case Xe7_7 => exact (of_decide_eq_true (p := PySem.W.exmOne K (.ref (He.ga K "InvalidSign")) (.ref (He.ga K "InvalidSign")) = some true) (c.t 164 (t := tY164)))
  case Xe8_0 => exact (of_decide_eq_true (p := PySem.W.exmOne K (.ref (He.ga K "InvalidNumber")) (.ref (He.ga K "InvalidBase")) = some false) (c.t 165 (t := tY165)))
  case Xe8_1 => exact (of_decide_eq_true (p := PySem.W.exmOne K (.ref (He.ga K "InvalidNumber")) (.ref (He.ga K "InvalidRegisters")) = some false) (c.t 166 (t := tY166)))
  case Xe8_2 => exact (of_decide_eq_true (p := PySem.W.exmOne K (.ref (He.ga K "InvalidNumber")) (.ref (He.ga K "InvalidModes")) = some false) (c.t 167 (t := tY167)))
  case Xe8_3 => exact (of_decide_eq_true (p := PySem.W.exmOne K (.ref (He.ga K "InvalidNumber")) (.ref (He.ga K "InvalidRow")) = some false) (c.t 168 (t := tY168)))
  case Xe8_4 => exact (of_decide_eq_true (p := PySem.W.exmOne K (.ref (He.ga K "InvalidNumber")) (.ref (He.ga K "InvalidEnds")) = some false) (c.t 169 (t := tY169)))
  case Xe8_5 => exact (of_decide_eq_true (p := PySem.W.exmOne K (.ref (He.ga K "InvalidNumber")) (.ref (He.ga K "InvalidResult")) = some false) (c.t 170 (t := tY170)))
  case Xe8_6 => exact (of_decide_eq_true (p := PySem.W.exmOne K (.ref (He.ga K "InvalidNumber")) (.ref (He.ga K "UnknownName")) = some false) (c.t 171 (t := tY171)))
  case Xe8_7 => exact (of_decide_eq_true (p := PySem.W.exmOne K (.ref (He.ga K "InvalidNumber")) (.ref (He.ga K "InvalidSign")) = some false) (c.t 172 (t := tY172)))
  case Xe8_8 => exact (of_decide_eq_true (p := PySem.W.exmOne K (.ref (He.ga K "InvalidNumber")) (.ref (He.ga K "InvalidNumber")) = some true) (c.t 173 (t := tY173)))
  case Xe9_0 => exact (of_decide_eq_true (p := PySem.W.exmOne K (.ref (He.ga K "InvalidRule")) (.ref (He.ga K "InvalidBase")) = some false) (c.t 174 (t := tY174)))
  case Xe9_1 => exact (of_decide_eq_true (p := PySem.W.exmOne K (.ref (He.ga K "InvalidRule")) (.ref (He.ga K "InvalidRegisters")) = some false) (c.t 175 (t := tY175)))
  case Xe9_2 => exact (of_decide_eq_true (p := PySem.W.exmOne K (.ref (He.ga K "InvalidRule")) (.ref (He.ga K "InvalidModes")) = some false) (c.t 176 (t := tY176)))
  case Xe9_3 => exact (of_decide_eq_true (p := PySem.W.exmOne K (.ref (He.ga K "InvalidRule")) (.ref (He.ga K "InvalidRow")) = some false) (c.t 177 (t := tY177)))
  case Xe9_4 => exact (of_decide_eq_true (p := PySem.W.exmOne K (.ref (He.ga K "InvalidRule")) (.ref (He.ga K "InvalidEnds")) = some false) (c.t 178 (t := tY178)))
  case Xe9_5 => exact (of_decide_eq_true (p := PySem.W.exmOne K (.ref (He.ga K "InvalidRule")) (.ref (He.ga K "InvalidResult")) = some false) (c.t 179 (t := tY179)))
  case Xe9_6 => exact (of_decide_eq_true (p := PySem.W.exmOne K (.ref (He.ga K "InvalidRule")) (.ref (He.ga K "UnknownName")) = some false) (c.t 180 (t := tY180)))
  case Xe9_7 => exact (of_decide_eq_true (p := PySem.W.exmOne K (.ref (He.ga K "InvalidRule")) (.ref (He.ga K "InvalidSign")) = some false) (c.t 181 (t := tY181)))
  case Xe9_8 => exact (of_decide_eq_true (p := PySem.W.exmOne K (.ref (He.ga K "InvalidRule")) (.ref (He.ga K "InvalidNumber")) = some false) (c.t 182 (t := tY182)))
  case Xe9_9 => exact (of_decide_eq_true (p := PySem.W.exmOne K (.ref (He.ga K "InvalidRule")) (.ref (He.ga K "InvalidRule")) = some true) (c.t 183 (t := tY183)))
  case XhchL => exact hdL
  case XhtkL => exact outL
  case XhtbL => exact empL
  case XhchV => exact hdV
  case XhtkV => exact outV
  case XhtbV => exact empV
  case XneLV => exact neLV
  case Xz0 => exact (of_decide_eq_true (p := PySem.W.nsIn K mainGlobals "isinstance" = some none) (c.t 185 (t := tY185)))
  case Xz1 => exact (of_decide_eq_true (p := PySem.W.nsIn K mainGlobals "int" = some none) (c.t 186 (t := tY186)))
  case Xz2 => exact (of_decide_eq_true (p := PySem.W.nsIn K mainGlobals "bool" = some none) (c.t 187 (t := tY187)))
  case Xz3 => exact (of_decide_eq_true (p := PySem.W.nsIn K mainGlobals "str" = some none) (c.t 188 (t := tY188)))
  case Xz4 => exact (of_decide_eq_true (p := PySem.W.nsIn K mainGlobals "abs" = some none) (c.t 189 (t := tY189)))
  case Xz5 => exact (of_decide_eq_true (p := PySem.W.nsIn K mainGlobals "len" = some none) (c.t 190 (t := tY190)))
  case Xz6 => exact (of_decide_eq_true (p := PySem.W.nsIn K mainGlobals "list" = some none) (c.t 191 (t := tY191)))
  case Xz7 => exact (of_decide_eq_true (p := PySem.W.nsIn K mainGlobals "tuple" = some none) (c.t 192 (t := tY192)))
  case Xz8 => exact (of_decide_eq_true (p := PySem.W.nsIn K mainGlobals "range" = some none) (c.t 193 (t := tY193)))
  case Xz9 => exact (of_decide_eq_true (p := PySem.W.nsIn K mainGlobals "enumerate" = some none) (c.t 194 (t := tY194)))
  case Xz10 => exact (of_decide_eq_true (p := PySem.W.nsIn K mainGlobals "all" = some none) (c.t 195 (t := tY195)))
  case Xz11 => exact (of_decide_eq_true (p := PySem.W.nsIn K mainGlobals "max" = some none) (c.t 196 (t := tY196)))
  case Xz12 => exact (of_decide_eq_true (p := PySem.W.nsIn K mainGlobals "min" = some none) (c.t 197 (t := tY197)))
  case Xz13 => exact (of_decide_eq_true (p := PySem.W.nsIn K mainGlobals "repr" = some none) (c.t 198 (t := tY198)))
end
end W1
open PySem PySem.W PySem.Calls PyProof.Rows
set_option maxRecDepth 100000 in
set_option maxHeartbeats 0 in
theorem PySem.Challenge.cw_twodivisions_k04_programs_refused_holds : PySem.Challenge.rw_twodivisions_k04_programs_refused.Holds := by
  w_on; o_law
  refine HandSHeadRun.head_any (r := OpenLaw.row PySem.Challenge.rw_twodivisions_k04_programs_refused) (q := view (OpenLaw.row PySem.Challenge.rw_twodivisions_k04_programs_refused).prog [65]) (H := W1.hkY) (ob := W1.obY) (M := 8000) (loose := W1.topN) (d := HandSHeadRun.topDef (OpenLaw.row PySem.Challenge.rw_twodivisions_k04_programs_refused).prog 65) (kwd := []) W1.obY_eq
    (by kernel_rfl) (fun s => by kernel_rfl) W1.runY (by kernel_rfl) (by kernel_rfl) (by kernel_rfl) (by rfl) (by first | assumption | decide +kernel) (by decide +kernel) ⟨rfl, rfl, rfl, rfl, rfl, by decide +kernel⟩ ?hw ?hc
  case hw => w_witness2
  case hc =>
    refine W1.walk_ofL (l := PySem.Challenge.rw_twodivisions_k04_programs_refused) (n := 63) (k := 15) (x := "_law_script") (CX := fun _ => L2.CX0) (sp := W1.spLawL) rfl (by decide) (by kernel_rfl) ⟨rfl, by decide, by decide⟩ ?F (fun K Ps H a ns hl t hS => W1.wantL K Ps H a ns hl t hS) (fun _ _ _ _ _ z => z)
    intro w mg fa h Y G hmg0
    obtain ⟨K, KX, c⟩ := Y
    have hmg : mg ("law" : PySem.Str) = some (.ref fa) := by
      have e : (HandSHeadRun.topDef (OpenLaw.row PySem.Challenge.rw_twodivisions_k04_programs_refused).prog 65).name = ("law" : PySem.Str) := by kernel_rfl
      rw [← e]
      exact hmg0
    exact ⟨K, KX, W1.top2 KX G hmg c⟩
