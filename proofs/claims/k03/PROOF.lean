import PyProof.Rows.All
import Wide.All
import OpenK.AllK
import Wide.FinOn
import HandS.Codes
import HandS.Defaults
import HandS.ExcField
import HandS.ExcInit
import HandS.ExcIs
import HandS.Finally
import HandS.ForExc
import HandS.ForMost
import HandS.Gcd
import HandS.IsInst
import HandS.Lambda
import HandS.MakeKw
import HandS.OwnEq
import HandS.Property
import HandS.TryMany
import HandS.TryOnly
import HandS.Walk
import HandS.Wide
import HandS.WordsExc
import HandS.DictComp
import HandS.DictTup
import HandS.CallLocal
import HandS.Deep
import HandS.TupAny
import HandS.Star
import HandS.MakeKwOnly
import HandS.TupMul
import KE.KExcInit
import KE.KExcIs
import KE.KExcPX
import KE.KLam
import KE.KNest
import KE.KNestM
import KE.KOpsOwn
import KE.KWithOwn
import KE.KDictKeyed
import KE.KDictCopyH
import KE.GoesMore
import KE.KEqNest
import KE.KRevSl
import PyProof.CallFns
import PyProof.InstNe
import PyProof.ReprLen
import PyProof.ReprRoads
import PySem.Challenge.RW_twodivisions_k03_programs_told_and_chang
set_option Elab.async false
set_option maxRecDepth 100000
set_option maxHeartbeats 4000000
set_option linter.all false
set_option exponentiation.threshold 5000
namespace W1
open PySem L2
local macro_rules | `(tactic| and_intros) => `(tactic| first | refine ⟨_, rfl, ?_⟩ | refine ⟨_, _, rfl, rfl, ?_⟩)
/-! ### own layer: promises that are kept where no repr is under way (A.guards = some []) -/
structure FnG (P : Program) (w : World) (K : PySem.W.Frag) (mg : Str → Option Value) (base : Heap) (CX : CXT) (k : Nat) (f : Addr) (fd : FuncData) (ps : List Str) (sp : Sp) : Prop where
  lens : ∀ vs H Q E, sp vs H Q E → vs.length = ps.length
  goes : ∀ (A : Around) (outer : List Env) (s : Shared) (H : Hp) (args : Args) (us : List Value) (vs : List V) (Q : VK) (E : XK), A.guards = some [] → Room k A → Env0 P w K mg base A outer s H →
    BindsTo s fd args (ps.zip us) → Vals vs us → sp vs H Q E → codeAny (model P w) A (.call (.ref f) args) (CR CX outer P w H s Q E) s
theorem FnG.of {P : Program} {w : World} {K : PySem.W.Frag} {mg : Str → Option Value} {base : Heap} {CX : CXT} {k : Nat} {f : Addr} {fd : FuncData} {ps : List Str} {sp : Sp} (F : FnOk P w K mg base CX k f fd ps sp) : FnG P w K mg base CX k f fd ps sp :=
  ⟨F.len, fun A outer s H args us vs Q E _ => F.run A outer s H args us vs Q E⟩
section
variable {X : Cx} {CX : CXT} {k : Nat} {f C : Addr} {fd : FuncData} {ps : List Str} {sp : Sp} {dvs : List V} {ds : List Value} {E : XK} {x m : Str} {p pos apos : Pos} {e o : Expr} {es : List Expr} {ta : TE} {t : TA}
theorem goG {pins : List (Addr × Obj)} {σ : St} {H : Hp} {s : Shared} {Q : VK} {us : List Value} {vs : List V} (F : FnG X.prog X.w X.K X.mg X.base CX k f fd ps sp) (hG : X.A.guards = some []) (hr : Room k X.A) (hb : Binds X.K fd ps ds) (hd : Vals dvs ds)
    (hx : Passes CX X E) (I : Inv X pins σ H s) (r : Vals vs us) (h : sp (vs ++ dvs) H Q E) : wpAny (model X.prog X.w) X.A (call (.ref f) us) (EP X pins σ Q) X.xe s := by
  have both := r.append hd
  have many : (us ++ ds).length = ps.length := both.length.symm.trans (F.lens _ _ _ _ h)
  refine wpAny_call (codeAny_mono (F.goes X.A X.stack s H ⟨us, []⟩ (us ++ ds) (vs ++ dvs) Q E hG hr I.env0 (hb s us I.kIn many) both h) ?_)
  rintro (er | fl) s' z
  · exact hx pins σ H s er s' I z
  · cases fl with
    | ret u => exact I.after z
    | _ => exact z.elim
theorem pe_callG (F : FnG X.prog X.w X.K X.mg X.base CX k f fd ps sp) (hG : X.A.guards = some []) (hr : Room k X.A) (hg : Gl X x) (hm : X.mg x = some (.ref f)) (hk : PySem.W.keepIn X.K (.ref f) = true) (hb : Binds X.K fd ps ds) (hd : Vals dvs ds) (hx : Passes CX X E)
    (ha : PA X (e :: es) t) (hdb : (x == ("__debug__" : Str)) = false := by decide) (he : starEach (e :: es) X.env = (false, eval e X.env) :: starEach es X.env := by rfl) (hpl : (backTo pos (starEach es X.env)).any (·.1) = false := by rfl) :
    PE X (.Call (.Name x p) (e :: es) [] pos) (tCall sp dvs E t) :=
  ⟨fun pins s σ H Q I h => wpAny_Call_Name_kw (ld_glob I hg hm (PySem.W.callWith_K (h₀ := X.base) I.ok.mod.kin hk (thn (ha.run pos pins s σ H _ I h) fun us s1 ⟨vs, H1, I1, r, q⟩ => ⟨I1.kIn, goG F hG hr hb hd hx I1 r q⟩) he hpl) hdb)⟩
theorem pe_callG0 (F : FnG X.prog X.w X.K X.mg X.base CX k f fd ps sp) (hG : X.A.guards = some []) (hr : Room k X.A) (hg : Gl X x) (hm : X.mg x = some (.ref f)) (hk : PySem.W.keepIn X.K (.ref f) = true) (hb : Binds X.K fd ps ds) (hd : Vals dvs ds) (hx : Passes CX X E)
    (hdb : (x == ("__debug__" : Str)) = false := by decide) : PE X (.Call (.Name x p) [] [] pos) (tCall sp dvs E tNil) :=
  ⟨fun pins s σ H Q I h => wpAny_Call_Name_kw (ld_glob I hg hm (PySem.W.callWith_K0 I.kIn hk (goG (us := []) F hG hr hb hd hx I .nil h)) hdb)⟩
end
/-- a def keeps its promise by its body, in such surroundings -/
theorem fnG_of {CX : CXT} {P : Program} {w : World} {K : PySem.W.Frag} {mg : Str → Option Value} {base : Heap} {k : Nat} {f : Addr} {name qual : Str} {params : Arguments} {body : List Stmt} {scope : Scope} {dV kV doc pm cdv ct oc : Value} {an od : Option Addr}
    {osl : Array (Option Value)} {N ps : List Str} {sp : Sp} (lk : K.lookup f = some ⟨oc, od, .func (PySem.W.fnOf name qual params body scope dV kV doc pm an cdv ct), osl⟩) (hcd : PySem.W.codeIn K cdv qual = true) (S : FnScope N ps scope)
    (len : ∀ vs H Q E, sp vs H Q E → vs.length = ps.length)
    (hbody : ∀ (A : Around) (outer : List Env) (s : Shared) (H : Hp) (vs : List V) (Q : VK) (E : XK), A.guards = some [] → Room k (A.deeper (PyProof.Rows.envOfC qual scope s.heap.objs.size f cdv)) → sp vs H Q E →
      ∃ t, PSs (cxOf CX P w K mg base N qual scope f cdv A outer s H E) body t ∧ t { nx := fun _ H' => Q .non H', rt := Q } (start N vs) H) :
    FnG P w K mg base CX (k + 1) f (PySem.W.fnOf name qual params body scope dV kV doc pm an cdv ct) ps sp := by
  refine ⟨len, fun A outer s H args us vs Q E hG hr e0 hb r hsp => ?_⟩
  have many := len _ _ _ _ hsp
  have part : K.In s.heap := e0.mod.kin.keeps fun b o z => (e0.bs b o z).1
  have below : s.heap.NoLimit := e0.mod.nolimit.keeps fun b o z => (e0.bs b o z).1
  have kinds : ∀ y ∈ ps.zip us, scope.names.lookup y.1 = some .local ∨ (scope.names.lookup y.1 = some .cell ∧ ((PySem.cellsFrom (s.heap.objs.size + 1) scope.names []).lookup y.1).isSome = true) := by
    rintro ⟨n, v⟩ hy
    exact (S.par n (List.of_mem_zip hy).1).imp id fun q => ⟨q, PySem.W.cellsFrom_some _ _ _ (.inl q)⟩
  refine PySem.codeAny_call_function hr.depth (part _ _ lk) rfl S.co S.gen rfl (PySem.W.codeRec_of part hcd) (hb _ _ _ _ (PySem.wpAny_newFunctionEnv_cells S.kind kinds ?_))
  intro env he s1 x
  subst he
  obtain ⟨t, ht, hq⟩ := hbody A outer s H vs Q E hG (hr.deeper _) hsp
  have I := inv_start (CX := CX) (N := N) (qual := qual) (f := f) (cd := cdv) (E := E) S hr.hd e0 many r x
  refine ⟨below.keeps x.toInCall.keep, PySem.codeAny_func (wpAny_mono (ht.run [] s1 (start N vs) H _ I hq) ?_ fun _ _ z => z)⟩
  rintro (_ | _ | _ | u) s' hs
  · obtain ⟨σ', H', J, q⟩ := hs
    exact ⟨V.non, H', J.os, J.bare, J.base, J.hok, rfl, q⟩
  · exact hs.elim fun _ z => z.elim fun _ z => z.2.elim
  · exact hs.elim fun _ z => z.elim fun _ z => z.2.elim
  · obtain ⟨v, σ', H', J, rv, q⟩ := hs
    exact ⟨v, H', J.os, J.bare, J.base, J.hok, rv, q⟩
theorem Fun.okG {P : Program} {w : World} {K : PySem.W.Frag} {mg : Str → Option Value} {base : Heap} {x qual : Str} {st : Stmt} {f : Addr} {fd : FuncData} {N ps : List Str} {k : Nat} {sp : Sp} (F : Fun K x qual st f fd) (S : FnScope N ps (defScope st)) (len : ∀ vs H Q E, sp vs H Q E → vs.length = ps.length)
    (hbody : ∀ (cdv : Value) (A : Around) (outer : List Env) (s : Shared) (H : Hp) (vs : List V) (Q : VK) (E : XK), A.guards = some [] → Room k (A.deeper (PyProof.Rows.envOfC qual (defScope st) s.heap.objs.size f cdv)) → sp vs H Q E →
      ∃ t, PSs (cxOf CX0 P w K mg base N qual (defScope st) f cdv A outer s H E).nox (defBody st) t ∧ t { nx := fun _ H' => Q .non H', rt := Q } (start N vs) H) : FnG P w K mg base CX0 (k + 1) f fd ps sp := by
  obtain ⟨oc, od, kV, doc, pm, an, cdv, ct, osl, rfl, lk, hcd⟩ := F.ex
  refine fnG_of lk hcd S len fun A outer s H vs Q E hG hr hsp => ?_
  obtain ⟨t, h, q⟩ := hbody cdv A outer s H vs Q E hG hr hsp
  exact ⟨t, h.nox, q⟩
/-! ### the law's own call, by such a promise -/
/-- what the caller wants of the law's call -/
abbrev Wanted (s₁ : Shared) (r : Result) (s' : Shared) : Prop := r = .ok (.ret (.bool true)) ∧ PySem.OldK s₁.heap s'.heap ∧ s'.os = s₁.os ∧ PyProof.Rows.AllBare s'.gens
/-- the abstract heap H tells of the script at a, and of nothing else -/
structure Sole (P : Program) (w : World) (K : PySem.W.Frag) (H : Hp) (h : Heap) (a : Addr) (ns : List Int) : Prop where
  only : Only H
  seq : SqL K H a (ns.map V.int)
  ok : HOk P w H h
  at_a : ∀ b, H b ≠ none → b = a
  notK : H a ≠ none → K.lookup a = none
theorem sole_run {P : Program} {w : World} {K : PySem.W.Frag} {mg mb : Str → Option Value} {CX : CXT} {k : Nat} {fa a : Addr} {fd : FuncData} {x : Str} {sp : Sp} {s₁ : Shared} {vs : List Value} {ns : List Int} {H : Hp}
    (Z : Sole P w K H s₁.heap a ns) (KX : K.In s₁.heap) (gN : s₁.heap.Ns mainGlobals mg) (bN : s₁.heap.Ns builtinsNs mb) (bB : ∀ y : Str, y ≠ "__name__" → mb y = bootBuiltins y) (lim : s₁.heap.NoLimit) (gens0 : s₁.gens = #[])
    (obj : s₁.heap.get? a = some { cls := .type "list", data := .seq vs.toArray }) (room : Room k callerA) (F : ∀ base : Heap, K.In base → base.Ns mainGlobals mg → FnG P w K mg base CX k fa fd [x] sp)
    (bind : ∀ (s : Shared) (u : Value), BindsTo s fd ⟨[u], []⟩ [(x, u)]) (want : ∀ H : Hp, Only H → SqL K H a (ns.map V.int) → sp [.ref a] H (fun v _ => v = .bl true) fun _ _ _ => False)
    (noX : ∀ H e s', CX [] H s₁ (fun _ _ _ => False) e s' → False) : codeAny (model P w) callerA (.call (.ref fa) ⟨[.ref a], []⟩) (Wanted s₁) s₁ := by
  -- what H tells of an address is the script's list
  have told : ∀ {b : Addr} {o : Obj}, s₁.heap.get? b = some o → H b ≠ none → b = a ∧ o = { cls := .type "list", data := .seq vs.toArray } := fun {b o} g n => by
    have e := Z.at_a b n
    rw [e, obj] at g
    exact ⟨e, (Option.some.inj g).symm⟩
  have hid : ∀ {b : Addr} {o : Obj}, s₁.heap.get? b = some o → ¬ H b ≠ none → (hidT s₁.heap H).get? b = some o := fun g n => hidT_get g (Classical.byContradiction n)
  have names : ∀ {b : Addr} {m : Str → Option Value}, s₁.heap.Ns b m → (hidT s₁.heap H).Ns b m := by
    rintro b m ⟨o, es, ep, g, d, r⟩
    refine ⟨o, es, ep, hid g fun n => ?_, d, r⟩
    rw [(told g n).2] at d
    exact Data.noConfusion d
  have part : K.In (hidT s₁.heap H) := fun b o g => hid (KX b o g) fun n => by
    have e := (told (KX b o g) n).1
    subst e
    rw [Z.notK n] at g
    cases g
  obtain ⟨mc, c1, c2⟩ := lim
  have md : Mod K mg (hidT s₁.heap H) := ⟨part, names gN, ⟨mb, names bN, bB⟩, ⟨mc, names c1, c2⟩⟩
  have e0 : Env0 P w K mg (hidT s₁.heap H) callerA [] s₁ H := ⟨rfl, md, fun _ _ g => of_hidT g, Nat.le_of_eq (hidT_size _ _), trivial, fun b m => absurd m (List.not_mem_nil (a := b)), Z.ok, PyProof.Rows.AllBare.of_eq gens0⟩
  refine codeAny_mono ((F _ part (names gN)).goes callerA [] s₁ H ⟨[.ref a], []⟩ [.ref a] [.ref a] _ _ rfl room e0 (bind s₁ (.ref a)) (.cons rfl .nil) (want H Z.only Z.seq)) ?_
  rintro (er | _ | _ | _ | u) s' q
  · exact (noX H er s' q).elim
  · exact q.elim
  · exact q.elim
  · exact q.elim
  · obtain ⟨v, H', os, bare, un, ok', rv, rfl⟩ := q
    obtain rfl : u = Value.bool true := rv
    refine ⟨rfl, PySem.OldK.of_keep fun b o g => ?_, os, bare⟩
    rcases Z.only b with n | ⟨ob, xs, n⟩
    · exact un.keep b o g n (fun m => by cases m) (fun m => by cases m)
    · have g1 := (Z.ok b _ n).1
      have g2 := (ok' b _ (un.frzs b ob _ n)).1
      rw [g] at g1
      rw [g2, Option.some.inj g1]
theorem law_callG {P : Program} {w : World} {K : PySem.W.Frag} {mg mb : Str → Option Value} {CX : CXT} {k : Nat} {fa a : Addr} {fd : FuncData} {x : Str} {sp : Sp} {s₁ : Shared} {vs : List Value} {ns : List Int} (KX : K.In s₁.heap) (gN : s₁.heap.Ns mainGlobals mg)
    (bN : s₁.heap.Ns builtinsNs mb) (bB : ∀ y : Str, y ≠ "__name__" → mb y = bootBuiltins y) (lim : s₁.heap.NoLimit) (gens0 : s₁.gens = #[]) (obj : s₁.heap.get? a = some { cls := .type "list", data := .seq vs.toArray }) (hints : PyProof.Rows.IntsAre vs ns) (few : ns.length ≤ sizeLine)
    (room : Room k callerA) (F : ∀ base : Heap, K.In base → base.Ns mainGlobals mg → FnG P w K mg base CX k fa fd [x] sp) (bind : ∀ (s : Shared) (u : Value), BindsTo s fd ⟨[u], []⟩ [(x, u)])
    (want : ∀ H : Hp, Only H → SqL K H a (ns.map V.int) → sp [.ref a] H (fun v _ => v = .bl true) fun _ _ _ => False) (noX : ∀ H e s', CX [] H s₁ (fun _ _ _ => False) e s' → False) :
    codeAny (model P w) callerA (.call (.ref fa) ⟨[.ref a], []⟩) (Wanted s₁) s₁ := by
  have rv := vals_ints hints
  have many := hints.length
  by_cases hk : K.lookup a = none
  · -- the script is the caller's own: told as a locked list
    have at_a : ∀ b : Addr, (if b = a then some (HO.frz { cls := .type "list", data := .seq vs.toArray } (.lst (ns.map V.int))) else none) ≠ none → b = a := fun b n => Classical.byContradiction fun z => n (if_neg z)
    refine sole_run (H := fun b => if b = a then some (.frz { cls := .type "list", data := .seq vs.toArray } (.lst (ns.map V.int))) else none) ⟨fun b => ?_, .inl (.inr ⟨_, if_pos rfl⟩), fun b u z => ?_, at_a, fun _ => hk⟩ KX gN bN bB lim gens0 obj room F bind want noX
    · by_cases e : b = a
      · exact .inr ⟨_, _, if_pos e⟩
      · exact .inl (if_neg e)
    · have e := at_a b (by rw [z]; exact Option.some_ne_none u)
      subst e
      obtain rfl := Option.some.inj ((if_pos rfl).symm.trans z)
      exact ⟨obj, by rw [List.length_map]; exact few, vs, _, rv, obj⟩
  · -- the script is one of the module's objects
    obtain ⟨o, ho⟩ := Option.ne_none_iff_exists'.mp hk
    have eo := Option.some.inj (obj.symm.trans (KX a o ho))
    refine sole_run (H := fun _ => none) ⟨fun _ => .inl rfl, .inr ⟨o, vs.toArray, 0, ho, by rw [← eo], by rw [← eo], by rw [← eo], by rw [List.size_toArray, many]; exact few, by simpa using rv⟩, fun b u z => (by cases z), fun b n => absurd rfl n, fun n => absurd rfl n⟩ KX gN bN bB lim gens0 obj room F bind want noX
/-- the goal behind the head, by such a promise -/
theorem walk_ofG {l : PySem.W.OpenLaw} {n k : Nat} {q : Program} {loose : List Str} {XP : (Str → Option Value) → Heap → Prop} {YP : World → Heap → Prop} {d : DefRec} {K : Params → PySem.W.Frag} {CX : World → CXT} {sp : World → Sp} {x : Str}
    (hn : l.most = some n) (few : n ≤ sizeLine) (hdf : d.params.defaults = []) (room : Room k callerA) (hY : ∀ (w : World) (h : Heap), YP w h → (K w.params).In h)
    (F : ∀ (w : World) (mg : Str → Option Value) (fa : Addr) (h : Heap), (K w.params).In h → h.Ns mainGlobals mg → mg d.name = some (.ref fa) → ∃ fd : FuncData, (∀ (s : Shared) (u : Value), BindsTo s fd ⟨[u], []⟩ [(x, u)]) ∧
      ∀ base : Heap, (K w.params).In base → base.Ns mainGlobals mg → FnG l.prog w (K w.params) mg base (CX w) k fa fd [x] (sp w))
    (want : ∀ (w : World) (H : Hp) (a : Addr) (ns : List Int), ns.length ≤ n → Only H → SqL (K w.params) H a (ns.map V.int) → sp w [.ref a] H (fun v _ => v = .bl true) fun _ _ _ => False)
    (noX : ∀ (w : World) (H : Hp) (s : Shared) (e : Value) (s' : Shared), CX w [] H s (fun _ _ _ => False) e s' → False) : PySem.W.WalkO q loose XP YP l.row.toRowW d [] (fun f vs => PySem.call f vs) :=
  Att.attach_call hn hdf fun w s₀ s₁ mg mb fa o pm cd doc a vs ns G Y ho hd hcd hmg hobj hints hlen hg => by
    have KX := hY w _ Y
    obtain ⟨fd, hb, hF⟩ := F w mg fa _ KX G.T.g hmg
    exact law_callG KX G.T.g G.T.b G.T.builtins G.T.nolimit hg hobj hints (Nat.le_trans hlen few) room hF hb (fun H z1 z2 => want w H a ns hlen z1 z2) fun H e s' => noX w H s₁ e s'
/-! ### own exception classes, called with keywords (rest: by place; kw: by name) -/
section
open PySem.PX
variable {prog : Program} {w : World} {M : Model} {A : Around} {E : Value → Shared → Prop} {R : Result → Shared → Prop} {h : Heap} {g : Array GenState} {d : Drawn} {t : Nat} {os : OsState}
variable {nm q : Str} {C N : Addr} {bs bm tl : List Value} {hdct : Bool} {sn : List Str} {sub : List Value} {ab : Bool} {col : Option Bool} {dd : Option Addr} {k0 k1 k2 k3 k5 : Option Value} {B newId initId : String}
abbrev exLaid (h : Heap) (C : Addr) (rest : List Value) : Heap := (h.push { cls := .type "tuple", data := .seq rest.toArray }).push { cls := .ref C, data := .fields #[.ref h.objs.size, .none, .none, .none, .bool false, .none] }
theorem kw_check_new (F : ExcBaseFacts B newId initId tl) (same : ∀ Y : String, bm.contains (.type Y) = tl.contains (.type Y)) {rest : List Value} {kw : List (Str × Value)} {Q : Unit → Shared → Prop}
    (hC : h.get? C = some (excClassObj nm q C N bs bm hdct sn sub ab col dd k0 k1 k2 k3 k5 newId)) (z : Q () ⟨h, g, d, t, os⟩) : wpAny M A (checkBuiltinCall newId ⟨.ref C :: rest, kw⟩) Q E ⟨h, g, d, t, os⟩ := by
  have inB : (Value.ref C :: bm).contains (.type B) = true := by
    rw [List.contains_cons, same, F.hasB, Bool.or_true]
  have star := F.noStar
  simp only [checkBuiltinCall, F.newKind, F.newSplit, F.newRow]
  repeat (first
    | refine wpAny_loadPart_at hC ?_
    | (refine wpAny_isSubtype_exc hC ?_; rw [inB])
    | refine wpAny_staticBase_exc hC ?_
    | refine wpAny_madeBy_exc hC ?_
    | simp only [bne_self_eq_false, Bool.false_eq_true, if_false]
    | wp_step)
  exact z
theorem kw_new (F : ExcBaseFacts B newId initId tl) (same : ∀ Y : String, bm.contains (.type Y) = tl.contains (.type Y)) {rest : List Value} {kw : List (Str × Value)}
    (hC : h.get? C = some (excClassObj nm q C N bs bm hdct sn sub ab col dd k0 k1 k2 k3 k5 newId)) (z : R (.ok (.ret (.ref (h.objs.size + 1)))) ⟨exLaid h C rest, g, d, t, os⟩) (few : rest.length ≤ sizeLine) :
    codeAny (model prog w) A (.builtin newId ⟨.ref C :: rest, kw⟩) R ⟨h, g, d, t, os⟩ := by
  have stops := F.ends
  have inB : (Value.ref C :: bm).contains (.type B) = true := by
    rw [List.contains_cons, same, F.hasB, Bool.or_true]
  have noA : (Value.ref C :: bm).contains (.type "AttributeError") = false := by
    rw [List.contains_cons, same, F.noAttr]
    rfl
  have noN : (Value.ref C :: bm).contains (.type "NameError") = false := by
    rw [List.contains_cons, same, F.noName]
    rfl
  refine codeAny_builtinAt F.entry ?_
  unfold Builtin.«BaseException.__new__»
  refine wpAt_bind ?_
  show wpAt _ _ _ (stack >>= _) _ _ _
  refine wpAt_bind (wpAt_stack fun p below => wpAt_of_wpAny ?_)
  wp_walk
  refine wpAt_of_wpAny ?_
  rw [F.owner]
  repeat (first
    | with_reducible refine wpAny_madeHere_exc F.canon hC ?_
    | with_reducible refine wpAny_loadPart_at hC ?_
    | (with_reducible refine wpAny_isSubtype_exc hC ?_; first | rw [inB] | rw [noA] | rw [noN])
    | wp_step)
  show R _ _
  rw [Heap.size_push]
  exact z
theorem kw_type_call (F : ExcBaseFacts B newId initId tl) (same : ∀ Y : String, bm.contains (.type Y) = tl.contains (.type Y)) {rest : List Value} {kw : List (Str × Value)} {fI : Addr} {Q : Fin → Shared → Prop}
    (hC : h.get? C = some (excClassObj nm q C N bs bm hdct sn sub ab col dd k0 k1 k2 k3 k5 newId)) (li : PySem.W.Looks (model prog w) h (typeLookup (.ref C) "__init__") (some (.ref fI)))
    (lb : ∀ self, PySem.W.Looks (model prog w) h (bindSpecial (.ref fI) self) (.ref fI, [self])) (few : rest.length ≤ sizeLine)
    (z : codeAny (model prog w) A (.call (.ref fI) ⟨.ref (h.objs.size + 1) :: rest, kw⟩) (fun r s' => match r with | .ok (.ret v) => v = .none ∧ Q (.done (.ret (.ref (h.objs.size + 1)))) s' | .ok _ => False | .error e => E e s') ⟨exLaid h C rest, g, d, t, os⟩) :
    wpAny (model prog w) A (Builtin.«type.__call__» ⟨.ref C :: rest, kw⟩) Q E ⟨h, g, d, t, os⟩ := by
  repeat (first
    | with_reducible refine wpAny_loadPart_at hC ?_
    | with_reducible refine wpAny_madeBy_exc hC ?_
    | wp_step)
  refine codeAny_call_builtin_code (Code.quiet_builtin _ F.quiet) (kw_check_new F same hC (kw_new F same hC ?_ few))
  show wpAny _ _ _ _ _ _
  have stay : ∀ b o, h.get? b = some o → (exLaid h C rest).get? b = some o := fun b o e => Heap.get?_push_of_some _ (Heap.get?_push_of_some _ e)
  have hC2 := stay _ _ hC
  have made : (exLaid h C rest).get? (h.objs.size + 1) = some { cls := .ref C, data := .fields #[.ref h.objs.size, .none, .none, .none, .bool false, .none] } := by
    unfold exLaid
    heap_get
  have inC : (Value.ref C :: bm).contains (.ref C) = true := by simp
  have li2 := li.keeps stay
  have lb2 := (lb (.ref (h.objs.size + 1))).keeps stay
  unfold isInstance
  repeat (first
    | with_reducible refine wpAny_loadPart_at made ?_
    | (with_reducible refine wpAny_isSubtype_exc hC2 ?_; rw [inC])
    | wp_step)
  show wpAny _ _ (typeLookup (.ref C) _) _ _ _
  refine li2.at (wpAny_holding (wpAny_bind (lb2.at (wpAny_bind (wpAny_call (codeAny_mono z ?_))))))
  rintro (e | _ | _ | _ | v) s' y <;> first | exact y | exact y.elim | skip
  obtain ⟨rfl, y⟩ := y
  first
    | exact wpAny_pure (wpAny_pure y)
    | (wp_walk; exact y)
theorem kw_call (F : ExcBaseFacts B newId initId tl) (same : ∀ Y : String, bm.contains (.type Y) = tl.contains (.type Y)) {rest : List Value} {kw : List (Str × Value)} {fI : Addr}
    (hC : h.get? C = some (excClassObj nm q C N bs bm hdct sn sub ab col dd k0 k1 k2 k3 k5 newId)) (li : PySem.W.Looks (model prog w) h (typeLookup (.ref C) "__init__") (some (.ref fI)))
    (lb : ∀ self, PySem.W.Looks (model prog w) h (bindSpecial (.ref fI) self) (.ref fI, [self])) (few : rest.length ≤ sizeLine)
    (z : codeAny (model prog w) (A.under (.builtin "type.__call__" ⟨.ref C :: rest, kw⟩)) (.call (.ref fI) ⟨.ref (h.objs.size + 1) :: rest, kw⟩) (PySem.W.InitBack (h.objs.size + 1) R) ⟨exLaid h C rest, g, d, t, os⟩) :
    codeAny (model prog w) A (.call (.ref C) ⟨rest, kw⟩) R ⟨h, g, d, t, os⟩ := by
  have f1 := tc_lookup
  have f2 := tc_bind (.ref C)
  have isT : (⟨h, g, d, t, os⟩ : Shared).TypeIs (.ref C) "type" := ⟨_, hC, rfl⟩
  refine codeAny_of_tree ?_
  show wpAny _ _ (callAny (.ref C) _) _ _ _
  repeat (any_goals (first
    | assumption
    | with_reducible refine wpAny_loadPart_at hC ?_
    | wp_step))
  refine ⟨rfl, codeAny_call_builtin_at (Code.quiet_builtin _ (by decide +kernel)) entry_typeCall (wpAny_check_type_call_sub hC (kw_type_call F same hC li lb few (codeAny_mono z ?_)))⟩
  rintro (e | _ | _ | _ | v) s' y <;> exact y
end
/-! ### a store into an own exception, whatever built-in class is its base -/
section
open PySem.PX Builtin Builtin.ObjectAttr
variable {prog : Program} {w : World} {A : Around} {E : Value → Shared → Prop} {R : Result → Shared → Prop} {hp : Heap} {g : Array GenState} {d : Drawn} {t : Nat} {os : OsState} {B : String} {tl : List Value} {K : PySem.W.Frag}
theorem taker_none {C : Addr} {name : Str} (no : PySem.W.findIn K (.ref C) name = some none) : PySem.W.takerIn K C name = some none := by
  unfold PySem.W.takerIn
  rw [no]
  rfl
theorem xs_first {name : Str} {tk : Tok} {v : Value} {x C : Addr} {fv : Array Value} (SF : StoreFacts B tl "object.__setattr__" "object") (X : K.In hp) (at_x : hp.get? x = some { cls := .ref C, data := .fields fv }) (ov : PySem.W.excOver K C tl = true)
    (hasD : PySem.W.hasDictIn K C = true) (no : PySem.W.findIn K (.ref C) name = some none)
    (z : ∀ h' tk' dx, (∀ b o, b ≠ x → hp.get? b = some o → h'.get? b = some o) → hp.objs.size ≤ dx → dx ≠ x → h'.get? x = some { cls := .ref C, dict := some dx, data := .fields fv } →
      h'.Ns1 dx (fun y => if y = name then some v else none) → R (.ok (.ret .none)) ⟨h', g, d, tk', os⟩) :
    codeAny (model prog w) A (.call (.builtin "object.__setattr__") ⟨[.ref x, .str name tk, v], []⟩) R ⟨hp, g, d, t, os⟩ := by
  refine PySem.W.osa_openX (od := none) SF X ⟨at_x, rfl, rfl, trivial⟩ ov (taker_none no) fun b => ?_
  obtain ⟨cd, hc, hd⟩ := PySem.W.any_some hasD
  have lk : PySem.W.Looks (model prog w) hp (classData C) cd := PySem.W.looks_clsIn X hc
  have apart : x ≠ hp.objs.size := Nat.ne_of_lt (Heap.lt_size at_x)
  show wpAny _ _ (storeInOwnDict (.ref x) (.ref C) (.str name tk) name v b) _ _ _
  obtain ⟨nm, bs, mro, ns, qn, hd1, sn, sb, ab, col, del⟩ := cd
  obtain rfl : hd1 = true := hd
  unfold storeInOwnDict ownDictForStores
  repeat (first
    | with_reducible refine store_in_new ?_ ?_
    | with_reducible refine wpAny_loadPart_at at_x ?_
    | with_reducible refine lk.at ?_
    | wp_step)
  · exact ⟨_, #[], _, (Heap.get?_update_ne _ _ _ _ apart.symm).trans (Heap.get?_push_at rfl rfl), rfl, fun e he => absurd he (by simp), fun _ => rfl⟩
  · intro h' tk' hn hs
    have x2 : (hp.push { cls := .type "dict", data := .dict #[] }).get? x = some { cls := .ref C, data := .fields fv } := Heap.get?_push_of_some _ at_x
    refine z h' tk' hp.objs.size (fun b o nb ho => ?_) (Nat.le_refl _) apart.symm ((hs.2 x apart).trans (Heap.get?_update_self _ x2 rfl)) hn
    exact (hs.2 b (Nat.ne_of_lt (Heap.lt_size ho))).trans ((Heap.get?_update_ne _ _ _ _ nb).trans (Heap.get?_push_of_some _ ho))
theorem xs_later {name : Str} {tk : Tok} {v : Value} {x C dx : Addr} {fv : Array Value} {m0 : Str → Option Value} {nl : List Str} (SF : StoreFacts B tl "object.__setattr__" "object") (X : K.In hp)
    (at_x : hp.get? x = some { cls := .ref C, dict := some dx, data := .fields fv }) (nd : hp.Ns1 dx m0) (wi : Within m0 nl) (few : nl.length ≤ 1000) (ov : PySem.W.excOver K C tl = true) (hasD : PySem.W.hasDictIn K C = true) (no : PySem.W.findIn K (.ref C) name = some none)
    (z : ∀ h' tk', (∀ b o, b ≠ dx → hp.get? b = some o → h'.get? b = some o) → h'.Ns1 dx (fun y => if y = name then some v else m0 y) → R (.ok (.ret .none)) ⟨h', g, d, tk', os⟩) :
    codeAny (model prog w) A (.call (.builtin "object.__setattr__") ⟨[.ref x, .str name tk, v], []⟩) R ⟨hp, g, d, t, os⟩ := by
  obtain ⟨oD, esD, epD, at_d, dD, _⟩ := nd.count wi
  refine PySem.W.osa_openX (od := some oD) SF X ⟨at_x, rfl, rfl, at_d⟩ ov (taker_none no) fun b => ?_
  obtain ⟨cd, hc, hd⟩ := PySem.W.any_some hasD
  have lk : PySem.W.Looks (model prog w) hp (classData C) cd := PySem.W.looks_clsIn X hc
  show wpAny _ _ (storeInOwnDict (.ref x) (.ref C) (.str name tk) name v b) _ _ _
  obtain ⟨nm, bs, mro, ns, qn, hd1, sn, sb, ab, col, del⟩ := cd
  obtain rfl : hd1 = true := hd
  unfold storeInOwnDict ownDictForStores
  repeat (first
    | with_reducible refine store_in_old nd wi few ?_
    | with_reducible refine wpAny_loadPart_at at_x ?_
    | with_reducible refine lk.at ?_
    | wp_step)
  intro h' tk' hn hs
  exact z h' tk' (fun b o nb ho => (hs.2 b nb).trans ho) hn
end
/-! ### the same over the layer: self.f = y in an own exception's __init__ -/
/-- what the written part says of an own exception class C, its __init__ at fI -/
structure XCls (K : PySem.W.Frag) (C fI : Addr) (tl : List Value) (newId : String) : Prop where
  ini : PySem.W.excInitIn K C tl newId = true
  over : PySem.W.excOver K C tl = true
  hasD : PySem.W.hasDictIn K C = true
  sa : PySem.W.findIn K (.ref C) "__setattr__" = some (some (.builtin "object.__setattr__"))
  init : PySem.W.findIn K (.ref C) "__init__" = some (some (.ref fI))
  isF : PySem.W.isFn K (.ref fI) = true
  kp : PySem.W.keepIn K (.ref C) = true
section
variable {X : Cx} {pins : List (Addr × Obj)} {σ : St} {H : Hp} {s : Shared} {a C fI dx : Addr} {f : Str} {y : V} {u : Value} {fs : List (Str × V)} {Q : Unit → Shared → Prop} {E : Value → Shared → Prop} {A : Around} {B newId : String} {tl : List Value}
theorem xset_first (SF : StoreFacts B tl "object.__setattr__" "object") (T : XCls X.K C fI tl newId) (I : Inv X pins σ H s) (ex : H a = some (exo a C none)) (no : PySem.W.findIn X.K (.ref C) f = some none) (ry : RelV y u)
    (z : ∀ dx s', H dx = none → dx ≠ a → Inv X pins σ (upd (upd H dx (exd dx [(f, y)])) a (exo a C (some dx))) s' → Q () s') : wpAny (model X.prog X.w) A (setAttr (.ref a) f u) Q E s := by
  obtain ⟨t1, ho⟩ := exo_at I.hok ex
  obtain ⟨hp, g, d, t, os⟩ := s
  refine PySem.W.set_plain I.kIn (ox := { cls := .ref C, dict := none, data := .fields #[.ref t1, .none, .none, .none, .bool false, .none] }) (od := none) ⟨ho, rfl, rfl, trivial⟩ T.sa (xs_first SF I.kIn ho T.over T.hasD no fun h' tk' dx k dn dne hx hn => ?_)
  have free : H dx = none := I.hok.fresh dn
  have old : ∀ {b : Addr} {o : Obj}, hp.get? b = some o → b ≠ dx := fun {b o} q => Nat.ne_of_lt (Nat.lt_of_lt_of_le (Heap.lt_size q) dn)
  have off : ∀ {b : Addr}, H b = none → b ≠ a := fun {b} n e => by
    subst e
    rw [n] at ex
    cases ex
  -- what is told elsewhere is told as before
  have same : ∀ {b : Addr} {o : HO}, H b = some o → o ≠ exo a C none → (upd (upd H dx (exd dx [(f, y)])) a (exo a C (some dx))) b = some o := fun {b o} q ne => by
    rw [upd_ne (at_ne ex q (Ne.symm ne)), upd_ne (ne_of_none q free)]
    exact q
  have U : Un X.fs [] H (upd (upd H dx (exd dx [(f, y)])) a (exo a C (some dx))) hp h' :=
    { keep := fun b o q n _ _ => k b o (off n) q
      slot := fun b o q n _ _ => ⟨o.slots, k b o (off n) q⟩
      free := fun b o q n _ => by
        rw [upd_ne (off n), upd_ne (old q)]
        exact n
      there := fun b o q _ => (Classical.em (b = a)).elim (fun e => ⟨_, e ▸ hx⟩) fun e => ⟨o, k b o e q⟩
      tups := fun b xs q => same q (Ne.symm exo_tup)
      frzs := fun b o v q => same q (Ne.symm exo_frz)
      tbls := fun b ps q => ⟨#[], by rw [same q (Ne.symm exo_tbl)]; simp⟩ }
  refine z dx _ free dne (I.un (t' := tk') U fun b o q => ?_)
  by_cases e1 : b = a
  · subst e1
    obtain rfl := Option.some.inj (upd_same.symm.trans q)
    exact exo_ok hx
  · rw [upd_ne e1] at q
    by_cases e2 : b = dx
    · subst e2
      obtain rfl := Option.some.inj (upd_same.symm.trans q)
      exact exd_ok hn (relO_put (fs := []) ry fun _ => True.intro)
    · rw [upd_ne e2] at q
      refine (I.hok b o q).stay (fun c v hc r => k c v ?_ r) (fun c hc => same hc (Ne.symm exo_own)) fun c xs hc => same hc (Ne.symm exo_tup)
      rcases hc with rfl | hc
      · exact e1
      · exact at_ne ex hc exo_own
theorem xset_later (SF : StoreFacts B tl "object.__setattr__" "object") (T : XCls X.K C fI tl newId) (I : Inv X pins σ H s) (ex : H a = some (exo a C (some dx))) (ed : H dx = some (exd dx fs)) (few : fs.length ≤ 900) (no : PySem.W.findIn X.K (.ref C) f = some none) (ry : RelV y u)
    (z : ∀ s', Inv X pins σ (upd H dx (exd dx ((f, y) :: fs))) s' → Q () s') : wpAny (model X.prog X.w) A (setAttr (.ref a) f u) Q E s := by
  obtain ⟨t1, ho⟩ := exo_at I.hok ex
  obtain ⟨mA, nd, rel⟩ := exd_at I.hok ed
  obtain ⟨hp, g, d, t, os⟩ := s
  obtain ⟨oD, _, _, at_d, _, _⟩ := nd.count (within_of rel)
  refine PySem.W.set_plain I.kIn (ox := { cls := .ref C, dict := some dx, data := .fields #[.ref t1, .none, .none, .none, .bool false, .none] }) (od := some oD) ⟨ho, rfl, rfl, at_d⟩ T.sa
    (xs_later SF I.kIn ho nd (within_of rel) (by rw [List.length_map]; omega) T.over T.hasD no fun h' tk' k hn => z _ (I.write (t' := tk') (x := dx) (e := dx) (o := exd dx ((f, y) :: fs)) (by rw [ed]; exact True.intro) (.inl rfl) k ?_ (exd_ok hn (relO_put ry rel))))
  obtain ⟨o, _, _, e, _⟩ := hn
  exact ⟨o, e⟩
end
/-- self.f = e, in an __init__ of an own exception class -/
def tXst (K : PySem.W.Frag) (tl : List Value) (newId : String) (f : Str) (to te : TE) : TS := fun D σ H => te σ H fun y H1 => to σ H1 fun x H2 => ∃ a C fI : Addr, x = .ref a ∧ XCls K C fI tl newId ∧ PySem.W.findIn K (.ref C) f = some none ∧
  ((H2 a = some (exo a C none) ∧ ∀ dx, H2 dx = none → dx ≠ a → D.nx σ (upd (upd H2 dx (exd dx [(f, y)])) a (exo a C (some dx)))) ∨
    ∃ (dx : Addr) (fs : List (Str × V)), H2 a = some (exo a C (some dx)) ∧ H2 dx = some (exd dx fs) ∧ fs.length ≤ 900 ∧ D.nx σ (upd H2 dx (exd dx ((f, y) :: fs))))
theorem ps_xst {X : Cx} {o e : Expr} {to te : TE} {f : Str} {p' pos : Pos} {B newId : String} {tl : List Value} (SF : StoreFacts B tl "object.__setattr__" "object") (ho : PE X o to) (he : PE X e te) (hs : swapsWith e (some (.Attribute o f p')) pos.line X.env = pure false := by rfl) :
    PS X (.Assign [.Attribute o f p'] e pos) (tXst X.K tl newId f to te) := by
  refine ⟨fun pins s σ H D I h => PySem.plainObj_wpAny_Assign_Attribute (thn (he.run pins s σ H _ I h) fun v s1 ⟨y, H1, I1, r1, q1⟩ => thn (ho.run pins s1 σ H1 _ I1 q1) fun u s2 ⟨x, H2, I2, r2, a, C, fI, ex, T, no, q⟩ => ?_) hs⟩
  subst ex
  obtain rfl : u = Value.ref a := r2
  rcases q with ⟨ea, q⟩ | ⟨dx, fs, ea, ed, few, q⟩
  · exact xset_first SF T I2 ea no r1 fun dx s' n ne J => ⟨σ, _, J, q dx n ne⟩
  · exact xset_later SF T I2 ea ed few no r1 fun s' J => ⟨σ, _, J, q⟩
/-! ### an own exception made as a value, its fields read, isinstance of it, repr -/
/-- C(.. by place .., .. by name ..) of an own exception class: a new exception, then its __init__ -/
def tXmk (C : Addr) (n m : Nat) (sp : Sp) (gV : List V → List V → List V) (t tk : TA) : TE := fun σ H Q => t σ H fun vs H1 => tk σ H1 fun zs H2 => vs.length = n ∧ zs.length = m ∧ vs.length ≤ 1000 ∧
  ∀ a, H2 a = none → sp (gV (.ref a :: vs) zs) (upd H2 a (exo a C none)) (fun v H3 => v = .non ∧ Q (.ref a) H3) E0
section
variable {X : Cx} {k n : Nat} {fI C : Addr} {fd : FuncData} {ps ks : List Str} {sp : Sp} {x : Str} {p pos : Pos} {e : Expr} {es : List Expr} {kws : List Keyword} {t tk : TA} {g : List Value → List Value → List Value} {gV : List V → List V → List V} {B newId initId : String} {tl : List Value}
theorem run_xmk {pins : List (Addr × Obj)} {σ : St} {H : Hp} {s : Shared} {Q : VK} {us ws : List Value} {vs zs : List V} (FB : ExcBaseFacts B newId initId tl) (T : XCls X.K C fI tl newId) (F : FnOk X.prog X.w X.K X.mg X.base CX0 k fI fd ps sp) (hr : Room (k + 1) X.A)
    (hb : KBn X.K fd ps (n + 1) ks g gV) (I : Inv X pins σ H s) (r : Vals vs us) (rz : Vals zs ws) (l1 : vs.length = n) (l2 : zs.length = ks.length) (few : vs.length ≤ 1000)
    (z : ∀ a, H a = none → sp (gV (.ref a :: vs) zs) (upd H a (exo a C none)) (fun v H3 => v = .non ∧ Q (.ref a) H3) E0) : wpAny (model X.prog X.w) X.A (call (.ref C) us (ks.zip ws)) (EP X pins σ Q) X.xe s := by
  obtain ⟨hp, gs, dr, tk, os⟩ := s
  obtain ⟨nm, N, qn, bs, bm, hdct, sn, sub, ab, col, dd, k0, k1, k2, k3, k5, hC, same⟩ := PySem.W.excInit_of I.kIn T.ini
  have up : hp.objs.size ≤ hp.objs.size + 1 := Nat.le_succ _
  have hq := z (hp.objs.size + 1) (I.hok.fresh up)
  have stay : ∀ b o, hp.get? b = some o → (exLaid hp C us).get? b = some o := fun b o q => Heap.get?_push_of_some _ (Heap.get?_push_of_some _ q)
  have made : (exLaid hp C us).get? (hp.objs.size + 1) = some { cls := .ref C, data := .fields #[.ref hp.objs.size, .none, .none, .none, .bool false, .none] } := by
    unfold exLaid
    heap_get
  have I2 : Inv X pins σ (upd H (hp.objs.size + 1) (exo (hp.objs.size + 1) C none)) ⟨exLaid hp C us, gs, dr, tk, os⟩ := I.laid (t' := tk) stay up (exo_ok made)
  have r1 : Vals (V.ref (hp.objs.size + 1) :: vs) (Value.ref (hp.objs.size + 1) :: us) := .cons rfl r
  have n1 : (Value.ref (hp.objs.size + 1) :: us).length = n + 1 := by
    rw [List.length_cons, ← r.length, l1]
  have fewU : us.length ≤ sizeLine := by
    rw [← r.length]
    exact Nat.le_trans few (by decide)
  obtain ⟨oI, at_I, isI⟩ : ∃ oI, hp.get? fI = some oI ∧ oI.cls = .type "function" := by
    obtain ⟨o, q, c⟩ := Option.map_eq_some_iff.mp (show (X.K.lookup fI).map (·.cls) = some (.type "function") from beq_iff_eq.mp T.isF)
    exact ⟨o, I.kIn _ _ q, c⟩
  refine wpAny_call (kw_call FB same hC (PySem.W.looks_findIn I.kIn T.init) (fun self => PySem.W.exc_bind at_I isI self) fewU (codeAny_mono (F.run _ X.stack _ _ ⟨Value.ref (hp.objs.size + 1) :: us, ks.zip ws⟩ (g (Value.ref (hp.objs.size + 1) :: us) ws) _ _ E0
    (hr.make C us (ks.zip ws)) (I2.env0.make C us (ks.zip ws)) (hb.to _ (Value.ref (hp.objs.size + 1) :: us) ws I2.kIn n1 (rz.length.symm.trans l2)) (hb.rel r1 rz) hq) ?_))
  rintro (er | _ | _ | _ | u) s' q
  · exact q.elim
  · exact q.elim
  · exact q.elim
  · exact q.elim
  · obtain ⟨v, H3, I3, rv, ev, q3⟩ := I2.after q
    subst ev
    exact ⟨rv, ⟨V.ref (hp.objs.size + 1), H3, I3, rfl, q3⟩⟩
/-- C(e, ..) -/
theorem pe_xmk (FB : ExcBaseFacts B newId initId tl) (T : XCls X.K C fI tl newId) (F : FnOk X.prog X.w X.K X.mg X.base CX0 k fI fd ps sp) (hr : Room (k + 1) X.A) (hg : Gl X x) (hm : X.mg x = some (.ref C)) (hb : KBn X.K fd ps (n + 1) [] g gV) (ha : PA X (e :: es) t)
    (hdb : (x == ("__debug__" : Str)) = false := by decide) (he : starEach (e :: es) X.env = (false, eval e X.env) :: starEach es X.env := by rfl) (hpl : (backTo pos (starEach es X.env)).any (·.1) = false := by rfl) :
    PE X (.Call (.Name x p) (e :: es) [] pos) (tXmk C n 0 sp gV t tNil) :=
  ⟨fun pins s σ H Q I h => wpAny_Call_Name_kw (ld_glob I hg hm (PySem.W.callWith_K (h₀ := X.base) I.ok.mod.kin T.kp (thn (ha.run pos pins s σ H _ I h) fun us s1 ⟨vs, H1, I1, r, l1, l2, l3, q⟩ => ⟨I1.kIn, run_xmk (ws := []) FB T F hr hb I1 r .nil l1 rfl l3 q⟩) he hpl) hdb)⟩
/-- C() -/
theorem pe_xmk0 (FB : ExcBaseFacts B newId initId tl) (T : XCls X.K C fI tl newId) (F : FnOk X.prog X.w X.K X.mg X.base CX0 k fI fd ps sp) (hr : Room (k + 1) X.A) (hg : Gl X x) (hm : X.mg x = some (.ref C)) (hb : KBn X.K fd ps 1 [] g gV)
    (hdb : (x == ("__debug__" : Str)) = false := by decide) : PE X (.Call (.Name x p) [] [] pos) (tXmk C 0 0 sp gV tNil tNil) :=
  ⟨fun pins s σ H Q I h => wpAny_Call_Name_kw (ld_glob I hg hm (PySem.W.callWith_K0 I.kIn T.kp (run_xmk (us := []) (vs := []) (ws := []) (zs := []) FB T F hr hb I .nil .nil rfl rfl (Nat.zero_le _) h.2.2.2)) hdb)⟩
/-- C(k = e, ..) -/
theorem pe_xmkK (FB : ExcBaseFacts B newId initId tl) (T : XCls X.K C fI tl newId) (F : FnOk X.prog X.w X.K X.mg X.base CX0 k fI fd ps sp) (hr : Room (k + 1) X.A) (hg : Gl X x) (hm : X.mg x = some (.ref C)) (hb : KBn X.K fd ps 1 ks g gV) (hkw : PK X kws tk)
    (hall : (backToKw pos (keywordEach kws X.env)).all (·.1.isSome) = true := by rfl) (hks : (backToKw pos (keywordEach kws X.env)).filterMap (·.1) = ks := by rfl) (hdb : (x == ("__debug__" : Str)) = false := by decide)
    (hpl : ((backTo pos (starEach [] X.env)).any (·.1) || (backToKw pos (keywordEach kws X.env)).any (·.1.isNone)) = false := by rfl) : PE X (.Call (.Name x p) [] kws pos) (tXmk C 0 ks.length sp gV tNil tk) := by
  refine ⟨fun pins s σ H Q I h => wpAny_Call_Name_kw (ld_glob I hg hm (PySem.W.callWith_KW0 (h₀ := X.base) I.ok.mod.kin T.kp hall (thn (hkw.run pos pins s σ H _ I h) fun ws s2 ⟨zs, H2, I2, rz, l1, l2, l3, q2⟩ => ⟨I2.kIn, ?_⟩) hpl) hdb)⟩
  rw [hks]
  exact run_xmk (us := []) (vs := []) FB T F hr hb I2 .nil rz rfl l2 l3 q2
end
/-- what is asked of an own exception class so that its fields are read and isinstance answers -/
structure XLook (K : PySem.W.Frag) (C : Addr) : Prop where
  xf : XfC K C
  ex : ExcC K C
/-- e.f of an own exception -/
def tXfd (K : PySem.W.Frag) (f : Str) (te : TE) : TE := fun σ H Q => te σ H fun x H1 => ∃ (a C d : Addr) (fs : List (Str × V)) (v : V), x = .ref a ∧ XLook K C ∧ PySem.W.findIn K (.ref C) f = some none ∧ H1 a = some (exo a C (some d)) ∧ H1 d = some (exd d fs) ∧ fs.lookup f = some v ∧ Q v H1
theorem pe_xfd {X : Cx} {e : Expr} {te : TE} {pos : Pos} {f : Str} (he : PE X e te) (hb : attributeBase e f X.env (eval e X.env) = eval e X.env := by rfl) : PE X (.Attribute e f pos) (tXfd X.K f te) := by
  refine ⟨fun pins s σ H Q I h => attr_of hb (thn (he.run pins s σ H _ I h) fun u s1 ⟨x, H1, I1, rx, a, C, d, fs, v, ex, T, no, ea, ed, l, q⟩ => ?_)⟩
  subst ex
  obtain rfl : u = Value.ref a := rx
  obtain ⟨t1, ha⟩ := exo_at I1.hok ea
  obtain ⟨mA, hns, hr⟩ := exd_at I1.hok ed
  obtain ⟨od, ho, hl⟩ := lookIn_ns hns
  obtain ⟨u, hu, ru⟩ := RelO.some_of (v := v) (o := mA f) (by rw [← l]; exact hr f)
  exact HandSPX.exc_get I1.kIn ⟨ha, rfl, rfl, ho⟩ T.xf.ga T.xf.gg T.xf.exC (PySem.W.findObj_own T.xf.hdC no rfl (by rw [hl, hu])) (handed_of ru) ⟨v, H1, I1.tok _, ru, q⟩
/-- isinstance(e, c) of an own exception -/
def rIsX (K : PySem.W.Frag) : List V → Hp → VK → Prop := fun xs H Q => ∃ (a D : Addr) (d : Option Addr) (c : V) (cv : Value) (b : Bool), xs = [.ref a, c] ∧ ExcC K D ∧ (H a = some (exo a D d) ∧ ∀ dd, d = some dd → ∃ fs, H dd = some (exd dd fs)) ∧ ClsV c cv ∧
  PySem.W.kitOne K (.ref D) cv = some b ∧ Q (.bl b) H
theorem call_isX {X : Cx} : CallR X (.builtin "isinstance") (rIsX X.K) := by
  intro pins s σ H xs us Q I r h
  obtain ⟨a, D, d, c, cv, b, rfl, T, ⟨ea, ed⟩, hc, hk, q⟩ := h
  obtain ⟨u1, u2, rfl, r1, r2⟩ := vals2 r
  obtain rfl : u1 = Value.ref a := r1
  obtain rfl := hc.eq r2
  obtain ⟨t1, ha⟩ := exo_at I.hok ea
  have cl : (PySem.W.clsIn X.K D).isSome = true := by
    obtain ⟨cd, hc, _⟩ := PySem.W.any_some T.hd
    rw [hc]
    rfl
  have J : ∃ od, PySem.W.InstAt s.heap a { cls := .ref D, dict := d, data := .fields #[.ref t1, .none, .none, .none, .bool false, .none] } D od := by
    cases d with
    | none => exact ⟨none, ha, rfl, rfl, trivial⟩
    | some dd =>
      obtain ⟨fs, e⟩ := ed dd rfl
      obtain ⟨mA, hns, _⟩ := exd_at I.hok e
      obtain ⟨od, ho, _⟩ := lookIn_ns hns
      exact ⟨some od, ha, rfl, rfl, ho⟩
  obtain ⟨od, J⟩ := J
  exact PySem.W.kia_one (PySem.W.kitx_exc (od := od) cl T.hg T.hk T.hs T.ha T.hn T.ht T.hm) I.kIn J hk (fun z => nomatch z) fun tk => ⟨.bl b, H, I.tok tk, rfl, q⟩
/-- v is read as the data d -/
def Rds (X : Cx) (H : Hp) (v : V) (d : PyData) : Prop := ∀ (pins : List (Addr × Obj)) (σ : St) (s : Shared) (u : Value), Inv X pins σ H s → RelV v u → ∃ as, Reads s.heap u d as ∧ (d.hasDict = true → sysModules ∉ as)
theorem Rds.of {X : Cx} {H : Hp} {v : V} {d : PyData} (h : Dp X.K H v d) (n : d.hasDict = false) : Rds X H v d := fun pins σ s u I r => by
  obtain ⟨as, q⟩ := Dp.reads I d v u h r
  exact ⟨as, q, fun z => by rw [n] at z; cases z⟩
theorem call_repr {X : Cx} (hG : X.A.guards = some []) (hu : X.A.units + 64 < cLine) : CallR X (.builtin "repr") (fun xs H Q => ∃ v d, xs = [v] ∧ Rds X H v d ∧ d.showable = true ∧ d.depth + 1 ≤ 64 ∧ d.shown.length ≤ sizeLine ∧ Q (.str d.shown) H) := by
  intro pins s σ H xs us Q I r h
  obtain ⟨v, d, rfl, hv, sh, dp, sz, q⟩ := h
  obtain ⟨u, rfl, ru⟩ := vals1 r
  obtain ⟨as, rd, nos⟩ := hv pins σ s u I ru
  cases rd with
  | none => exact PySem.P.repr_of_none ⟨.str _, H, I.tok _, ⟨_, rfl⟩, q⟩
  | bool b => exact PySem.P.repr_of_bool ⟨.str _, H, I.tok _, ⟨_, rfl⟩, by cases b <;> exact q⟩
  | int i t => exact PySem.P.repr_of_int (of_decide_eq_true sh) ⟨.str _, H, I.tok _, ⟨_, rfl⟩, q⟩
  | str y t => exact PySem.P.repr_of_str ⟨.str _, H, I.tok _, ⟨_, rfl⟩, q⟩ sz
  | list h1 h2 h3 h4 => exact PySem.repr_of_reads' (.list h1 h2 h3 h4) sh nos hG (by omega) (fun _ _ z => z) (fun h' u tk kk => ⟨.str _, H, I.kept kk, ⟨_, rfl⟩, q⟩) sz
  | tuple h1 h2 h3 h4 => exact PySem.repr_of_reads' (.tuple h1 h2 h3 h4) sh nos hG (by omega) (fun _ _ z => z) (fun h' u tk kk => ⟨.str _, H, I.kept kk, ⟨_, rfl⟩, q⟩) sz
  | dict h1 h2 h3 h4 h5 => exact PySem.repr_of_reads' (.dict h1 h2 h3 h4 h5) sh nos hG (by omega) (fun _ _ z => z) (fun h' u tk kk => ⟨.str _, H, I.kept kk, ⟨_, rfl⟩, q⟩) sz
/-! ### lists that are made anew do not lie where sys.modules lies -/
section
variable {X : Cx}
theorem above {pins : List (Addr × Obj)} {σ : St} {H : Hp} {s : Shared} (I : Inv X pins σ H s) : s.heap.objs.size ≠ sysModules := by
  have h1 : (3 : Nat) < X.base.objs.size := I.ok.mod.glob.lt
  have h2 : X.base.objs.size ≤ X.s_0.heap.objs.size := I.ok.bsz
  have h3 : X.s_0.heap.objs.size ≤ s.heap.objs.size := I.sz
  show s.heap.objs.size ≠ 1
  omega
def rCatS : R2 := fun x y H Q => ∃ l b xs zs, x = .ref l ∧ y = .ref b ∧ H l = some (.lst xs) ∧ H b = some (.lst zs) ∧ xs.length + zs.length ≤ sizeLine ∧ ∀ p, H p = none → p ≠ sysModules → Q (.ref p) (upd H p (.lst (xs ++ zs)))
theorem op_catS : OpR X (binaryOp .Add) rCatS := by
  rintro pins s σ H x y v u Q I rx ry ⟨l, b, xs, zs, rfl, rfl, hl, hb, few, q⟩
  cases rx
  cases ry
  obtain ⟨_, its, n, r, n1, at_l⟩ := I.lstM hl
  obtain ⟨_, jts, m, t, n2, at_b⟩ := I.lstM hb
  refine PySem.P.add_list at_l at_b ?_ (by simp only [List.size_toArray]; omega)
  rw [show its.toArray ++ jts.toArray = (its ++ jts).toArray by simp]
  exact ⟨.ref _, _, I.lnew (t' := s.toks) (r.append t) (by rw [List.length_append]; exact few), rfl, q _ I.fresh (above I)⟩
def rRepS : R2 := fun x y H Q => ∃ l k xs, x = .ref l ∧ y = .int k ∧ H l = some (.lst xs) ∧ -(2 ^ 63) ≤ k ∧ k < 2 ^ 63 ∧ xs.length * k.toNat ≤ sizeLine ∧
  ∀ p, H p = none → p ≠ sysModules → Q (.ref p) (upd H p (.lst (List.replicate k.toNat xs).flatten))
theorem op_repS : OpR X (binaryOp .Mult) rRepS := by
  rintro pins s σ H x y v u Q I rx ry ⟨l, k, xs, rfl, rfl, hl, lo, hi, few, q⟩
  cases rx
  obtain ⟨t, rfl⟩ := ry
  obtain ⟨_, its, n, r, n1, at_l⟩ := I.lstM hl
  have fewI : its.toArray.size * k.toNat ≤ sizeLine := by
    rw [List.size_toArray, ← n1]
    exact few
  have cap : ¬ its.toArray.size * k.toNat > (2 ^ 63 - 1) / 8 := Nat.not_lt.mpr (Nat.le_trans fewI (by decide))
  have fit : ¬ (!Builtin.List.listFitsIndex k) = true := by simp [fitsIndex_both lo hi]
  have long : ¬ Builtin.List.listTooLong (its.toArray.size * k.toNat) = true := by
    rw [notLongL fewI]
    exact Bool.false_ne_true
  have made : List.foldl (fun a b => a ++ b) #[] (List.replicate (if its.toArray.isEmpty = true then 0 else k.toNat) its.toArray) = (List.replicate k.toNat its).flatten.toArray := by
    have all := fun j : Nat => foldl_rep its j []
    simp only [List.nil_append] at all
    cases its with
    | nil => simpa using all 0
    | cons a r2 => exact (by simpa using all k.toNat)
  refine PySem.wpAny_binaryOp_repeat_ref (T := "list") (U := "int") (by decide) ⟨_, at_l, rfl⟩ (fun s' => typeIs_int s' k t) PySem.noFill_list_mul F.fills_int_mul F.slot_int_rmul PySem.repeat_list F.slot_int_index.lookup ?_
  refine PySem.call_meets F.slot_int_rmul (typeIs_int s k t) F.entry_int_rmul (F.args_int_rmul_2 _ _) (PySem.int___rmul___int_list k t l its.toArray n) ⟨at_l, rfl, ⟨_, at_l, rfl⟩, ?_⟩
  refine PySem.call_meets F.slot_list_mul ⟨_, at_l, rfl⟩ F.entry_list_mul (F.args_list_mul_2 _ _) (AutoListH.list___mul___list_int_3 l its.toArray n k t fit cap long) ⟨at_l, ?_⟩
  rw [made]
  exact ⟨.ref _, _, I.lnew (t' := s.toks) (r.rep k.toNat) (by rw [PyProof.Rows.lm_len_rep_flat, Nat.mul_comm]; exact few), rfl, q _ I.fresh (above I)⟩
end
/-! ### data that are read, a dict without pairs among them -/
/-- v is the data d: none, bools, ints, texts, lists, tuples of these, or a dict without pairs -/
inductive De (K : PySem.W.Frag) (H : Hp) : V → PyData → Prop
  | dp {v : V} {d : PyData} (h : Dp K H v d) (n : d.hasDict = false) : De K H v d
  | dic {a : Addr} (h : H a = some (.dK [])) : De K H (.ref a) (.dict [])
theorem De.rds {X : Cx} {H : Hp} {v : V} {d : PyData} (h : De X.K H v d) : Rds X H v d := by
  cases h with
  | dp h n => exact Rds.of h n
  | @dic a h =>
    intro pins σ s u I r
    obtain rfl : u = Value.ref a := r
    obtain ⟨_, low, vs, kv, o, es, ep, at_a, ex, dd, _, pr, _⟩ := (show ObjOk X.prog X.w H s.heap a (.dK []) from I.hok a _ h)
    cases kv
    have e0 : es.toList = [] := by cases e : es.toList with
      | nil => rfl
      | cons z r =>
        rw [e] at pr
        cases pr
    refine ⟨_, .dict (kvs := []) at_a ex.1 dd (by rw [e0]; exact .nil) (by rw [e0]; exact .nil), fun _ m => ?_⟩
    have m2 : sysModules = a := by simpa using m
    rw [← m2] at low
    exact absurd low (by decide)
/-! ### own exception classes whose __init__ stores its parameters -/
/-- an exception of the class C stands at a; its dict holds fs -/
def Ex (H : Hp) (a C : Addr) (fs : List (Str × V)) : Prop := ∃ d, H a = some (exo a C (some d)) ∧ H d = some (exd d fs)
/-- all but a stays -/
abbrev Near (a : Addr) (H H' : Hp) : Prop := ∀ b o, H b = some o → b ≠ a → H' b = some o
def sp1 (f : Str) (C : Addr) : Sp := fun vs H Q _ => ∃ (a : Addr) (v : V), vs = [.ref a, v] ∧ H a = some (exo a C none) ∧ ∀ H', Near a H H' → Ex H' a C [(f, v)] → Q .non H'
def sp2 (f g : Str) (C : Addr) : Sp := fun vs H Q _ => ∃ (a : Addr) (v u : V), vs = [.ref a, v, u] ∧ H a = some (exo a C none) ∧ ∀ H', Near a H H' → Ex H' a C [(g, u), (f, v)] → Q .non H'
def sp0 (C : Addr) : Sp := fun vs H Q _ => ∃ a : Addr, vs = [.ref a] ∧ H a = some (exo a C none) ∧ Q .non H
/-- the class x of the module, at C, is made with n values by place or by the names ks, the last one first -/
def XOk (P : Program) (w : World) (K : PySem.W.Frag) (mg : Str → Option Value) (base : Heap) (x : Str) (C : Addr) (n : Nat) (ps ks : List Str) (sp : Sp) : Prop :=
  ∃ (fI : Addr) (fd : FuncData) (B newId initId : String) (tl : List Value), ExcBaseFacts B newId initId tl ∧ XCls K C fI tl newId ∧ mg x = some (.ref C) ∧ FnOk P w K mg base CX0 1 fI fd ps sp ∧
    KBn K fd ps (n + 1) [] (fun us _ => us) (fun vs _ => vs) ∧ KBn K fd ps 1 ks (fun us ws => us ++ ws.reverse) (fun vs zs => vs ++ zs.reverse)
section
variable {X : Cx} {n : Nat} {C : Addr} {ps ks : List Str} {sp : Sp} {x : Str} {p pos : Pos} {e : Expr} {es : List Expr} {kws : List Keyword} {t tk : TA}
theorem pe_xV (o : XOk X.prog X.w X.K X.mg X.base x C n ps ks sp) (hr : Room 2 X.A) (hg : Gl X x) (ha : PA X (e :: es) t) (hdb : (x == ("__debug__" : Str)) = false := by decide) (he : starEach (e :: es) X.env = (false, eval e X.env) :: starEach es X.env := by rfl)
    (hpl : (backTo pos (starEach es X.env)).any (·.1) = false := by rfl) : PE X (.Call (.Name x p) (e :: es) [] pos) (tXmk C n 0 sp (fun vs _ => vs) t tNil) := by
  obtain ⟨fI, fd, B, newId, initId, tl, FB, T, m, F, b, _⟩ := o
  exact pe_xmk FB T F hr hg m b ha hdb he hpl
theorem pe_xV0 (o : XOk X.prog X.w X.K X.mg X.base x C 0 ps ks sp) (hr : Room 2 X.A) (hg : Gl X x) (hdb : (x == ("__debug__" : Str)) = false := by decide) : PE X (.Call (.Name x p) [] [] pos) (tXmk C 0 0 sp (fun vs _ => vs) tNil tNil) := by
  obtain ⟨fI, fd, B, newId, initId, tl, FB, T, m, F, b, _⟩ := o
  exact pe_xmk0 FB T F hr hg m b hdb
theorem pe_xVK (o : XOk X.prog X.w X.K X.mg X.base x C n ps ks sp) (hr : Room 2 X.A) (hg : Gl X x) (hkw : PK X kws tk) (hall : (backToKw pos (keywordEach kws X.env)).all (·.1.isSome) = true := by rfl) (hks : (backToKw pos (keywordEach kws X.env)).filterMap (·.1) = ks := by rfl)
    (hdb : (x == ("__debug__" : Str)) = false := by decide) (hpl : ((backTo pos (starEach [] X.env)).any (·.1) || (backToKw pos (keywordEach kws X.env)).any (·.1.isNone)) = false := by rfl) :
    PE X (.Call (.Name x p) [] kws pos) (tXmk C 0 ks.length sp (fun vs zs => vs ++ zs.reverse) tNil tk) := by
  obtain ⟨fI, fd, B, newId, initId, tl, FB, T, m, F, _, b⟩ := o
  exact pe_xmkK FB T F hr hg m b hkw hall hks hdb hpl
end
theorem Near.up {a : Addr} {o : HO} {H H' : Hp} (n : H a = none) (h : Near a (upd H a o) H') : Same H H' := fun b u e => h b u (by rw [upd_ne (ne_of_none e n)]; exact e) (ne_of_none e n)
section
variable {H : Hp} {Q : VK} {C : Addr} {f g : Str} {v u : V}
theorem mk1 (z : ∀ a H', H a = none → Same H H' → Ex H' a C [(f, v)] → Q (.ref a) H') : ([v] : List V).length = 1 ∧ ([] : List V).length = 0 ∧ ([v] : List V).length ≤ 1000 ∧ ∀ a, H a = none → sp1 f C ((fun vs _ => vs) (.ref a :: [v]) ([] : List V)) (upd H a (exo a C none)) (fun v H3 => v = .non ∧ Q (.ref a) H3) E0 :=
  ⟨rfl, rfl, by show 1 ≤ 1000; decide, fun a n => ⟨a, v, rfl, upd_same, fun H' k x => ⟨rfl, z a H' n (Near.up n k) x⟩⟩⟩
theorem mk1K (z : ∀ a H', H a = none → Same H H' → Ex H' a C [(f, v)] → Q (.ref a) H') : ([] : List V).length = 0 ∧ ([v] : List V).length = 1 ∧ ([] : List V).length ≤ 1000 ∧ ∀ a, H a = none → sp1 f C ((fun vs zs => vs ++ zs.reverse) (.ref a :: []) ([v] : List V)) (upd H a (exo a C none)) (fun v H3 => v = .non ∧ Q (.ref a) H3) E0 :=
  ⟨rfl, rfl, by decide, fun a n => ⟨a, v, rfl, upd_same, fun H' k x => ⟨rfl, z a H' n (Near.up n k) x⟩⟩⟩
theorem mk2 (z : ∀ a H', H a = none → Same H H' → Ex H' a C [(g, u), (f, v)] → Q (.ref a) H') : ([v, u] : List V).length = 2 ∧ ([] : List V).length = 0 ∧ ([v, u] : List V).length ≤ 1000 ∧ ∀ a, H a = none → sp2 f g C ((fun vs _ => vs) (.ref a :: [v, u]) ([] : List V)) (upd H a (exo a C none)) (fun v H3 => v = .non ∧ Q (.ref a) H3) E0 :=
  ⟨rfl, rfl, by show 2 ≤ 1000; decide, fun a n => ⟨a, v, u, rfl, upd_same, fun H' k x => ⟨rfl, z a H' n (Near.up n k) x⟩⟩⟩
theorem mk2K (z : ∀ a H', H a = none → Same H H' → Ex H' a C [(g, u), (f, v)] → Q (.ref a) H') : ([] : List V).length = 0 ∧ ([u, v] : List V).length = 2 ∧ ([] : List V).length ≤ 1000 ∧ ∀ a, H a = none → sp2 f g C ((fun vs zs => vs ++ zs.reverse) (.ref a :: []) ([u, v] : List V)) (upd H a (exo a C none)) (fun v H3 => v = .non ∧ Q (.ref a) H3) E0 :=
  ⟨rfl, rfl, by decide, fun a n => ⟨a, v, u, rfl, upd_same, fun H' k x => ⟨rfl, z a H' n (Near.up n k) x⟩⟩⟩
theorem mk0 (z : ∀ a H', H a = none → Same H H' → H' a = some (exo a C none) → Q (.ref a) H') : ([] : List V).length = 0 ∧ ([] : List V).length = 0 ∧ ([] : List V).length ≤ 1000 ∧ ∀ a, H a = none → sp0 C ((fun vs _ => vs) (.ref a :: []) ([] : List V)) (upd H a (exo a C none)) (fun v H3 => v = .non ∧ Q (.ref a) H3) E0 :=
  ⟨rfl, rfl, by decide, fun a n => ⟨a, rfl, upd_same, rfl, z a _ n (fun b o e => by rw [upd_ne (ne_of_none e n)]; exact e) upd_same⟩⟩
end
/-- the bodies self.f = f and self.f = f; self.g = g -/
theorem ex_first {H : Hp} {Q : VK} {a C : Addr} {f : Str} {v : V} (ha : H a = some (exo a C none)) (q : ∀ H', Near a H H' → Ex H' a C [(f, v)] → Q .non H') : ∀ dx, H dx = none → dx ≠ a → Q .non (upd (upd H dx (exd dx [(f, v)])) a (exo a C (some dx))) := fun dx n ne =>
  q _ (fun b o e nb => by rw [upd_ne nb, upd_ne (ne_of_none e n)]; exact e) ⟨dx, upd_same, by rw [upd_ne ne, upd_same]⟩
theorem ex_next {H : Hp} {Q : VK} {a C dx : Addr} {f g : Str} {v u : V} (ha : H a = some (exo a C none)) (n : H dx = none) (ne : dx ≠ a) (q : ∀ H', Near a H H' → Ex H' a C [(g, u), (f, v)] → Q .non H') :
    Q .non (upd (upd (upd H dx (exd dx [(f, v)])) a (exo a C (some dx))) dx (exd dx ((g, u) :: [(f, v)]))) :=
  q _ (fun b o e nb => by rw [upd_ne (ne_of_none e n), upd_ne nb, upd_ne (ne_of_none e n)]; exact e) ⟨dx, by rw [upd_ne ne.symm, upd_same], upd_same⟩
/-! ### a list of one value so many times, shown -/
theorem Rds.rep {X : Cx} {H : Hp} {v : V} {d : PyData} {p : Addr} {n : Nat} (h : H p = some (.lst (List.replicate n v))) (np : p ≠ sysModules) (hv : De X.K H v d) : Rds X H (.ref p) (.list (List.replicate n d)) := by
  intro pins σ s u I r
  obtain rfl : u = Value.ref p := r
  obtain ⟨_, its, m, rv, at_p⟩ := (show ObjOk X.prog X.w H s.heap p (.lst (List.replicate n v)) from I.hok p _ h)
  have all : ∀ (n : Nat) (its : List Value), Vals (List.replicate n v) its → ∃ as, ReadsAll s.heap its (List.replicate n d) as ∧ (d.hasDict = true → sysModules ∉ as) := by
    intro n
    induction n with
    | zero =>
      intro its z
      cases z
      exact ⟨[], .nil, fun _ m => nomatch m⟩
    | succ n ih =>
      intro its z
      cases z with
      | cons r1 r2 =>
        obtain ⟨as, q1, n1⟩ := hv.rds pins σ s _ I r1
        obtain ⟨bs, q2, n2⟩ := ih _ r2
        exact ⟨as ++ bs, .cons q1 q2, fun e m => (List.mem_append.mp m).elim (n1 e) (n2 e)⟩
  obtain ⟨as, q, no⟩ := all n its rv
  refine ⟨_, .list at_p rfl rfl (by simpa using q), fun e m => ?_⟩
  rcases List.mem_cons.mp m with z | z
  · exact np z.symm
  · have hd : d.hasDict = true := by
      have key : ∀ k : Nat, PyData.hasDictAll (List.replicate k d) = true → d.hasDict = true := fun k => by
        induction k with
        | zero => intro z; cases z
        | succ k ih =>
          intro z
          rw [List.replicate_succ] at z
          have z2 : (d.hasDict || PyData.hasDictAll (List.replicate k d)) = true := by simpa [PyData.hasDictAll] using z
          rcases Bool.or_eq_true_iff.mp z2 with z2 | z2
          · exact z2
          · exact ih z2
      exact key n (by simpa [PyData.hasDict] using e)
    exact no hd z
theorem rep_show {d : PyData} {n : Nat} (sh : d.showable = true) : (PyData.list (List.replicate n d)).showable = true := by
  have key : ∀ k : Nat, PyData.showableAll (List.replicate k d) = true := fun k => by
    induction k with
    | zero => rfl
    | succ k ih => rw [List.replicate_succ, PyData.showableAll, sh, ih]; rfl
  rw [PyData.showable]
  exact key n
theorem rep_depth {d : PyData} {n k : Nat} (h : d.depth ≤ k) : (PyData.list (List.replicate n d)).depth ≤ k + 1 := by
  have key : ∀ m : Nat, PyData.depthAll (List.replicate m d) ≤ k := fun m => by
    induction m with
    | zero => exact Nat.zero_le _
    | succ m ih =>
      rw [List.replicate_succ, PyData.depthAll]
      exact Nat.max_le.mpr ⟨h, ih⟩
  rw [PyData.depth]
  have := key n
  omega
theorem rep_size {d : PyData} {n k : Nat} (h : d.shown.length ≤ k) : (PyData.list (List.replicate n d)).shown.length ≤ n * (k + 2) + 3 := by
  have all : ∀ m : Nat, PyData.shownAll (List.replicate m d) = List.replicate m d.shown := fun m => by
    induction m with
    | zero => rfl
    | succ m ih => rw [List.replicate_succ, PyData.shownAll, ih, List.replicate_succ]
  have e := listText_len_le (List.replicate n d.shown)
  rw [PyData.shown, all]
  simp only [List.map_replicate, List.sum_replicate_nat, List.length_replicate] at e
  have : n * d.shown.length ≤ n * k := Nat.mul_le_mul_left n h
  rw [Nat.mul_add]
  omega
/-! ### raise of own exceptions, whatever built-in class is their base -/
def sp1n (f : Str) (C : Addr) : Sp := fun vs H Q _ => ∃ (a : Addr) (v : V), vs = [.ref a, v] ∧ H a = some (exo a C none) ∧ ∀ d, H d = none → d ≠ a → Q .non (upd (upd H d (exd d [(f, v)])) a (exo a C (some d)))
def sp2n (f g : Str) (C : Addr) : Sp := fun vs H Q _ => ∃ (a : Addr) (v u : V), vs = [.ref a, v, u] ∧ H a = some (exo a C none) ∧ ∀ d, H d = none → d ≠ a → Q .non (upd (upd (upd H d (exd d [(f, v)])) a (exo a C (some d))) d (exd d ((g, u) :: [(f, v)])))
/-- the class x of the module, at C, is made with n values by place, and may be raised -/
def XRz (P : Program) (w : World) (K : PySem.W.Frag) (mg : Str → Option Value) (base : Heap) (x : Str) (C : Addr) (n : Nat) (sp : Sp) : Prop :=
  ∃ (fI : Addr) (fd : FuncData) (ps : List Str) (B newId initId : String) (tl : List Value), ExcBaseFacts B newId initId tl ∧ XCls K C fI tl newId ∧ mg x = some (.ref C) ∧ FnOk P w K mg base CX0 1 fI fd ps sp ∧
    KBn K fd ps (n + 1) [] (fun us _ => us) (fun vs _ => vs) ∧ PySem.W.subIn K (.ref C) (.type "BaseException") = some true ∧ PySem.W.typeIn K (.ref C) = some (.type "type")
section
variable {X : Cx} {pins : List (Addr × Obj)} {σ : St} {s : Shared}
/-- the exception without a dict is let go -/
theorem mk_bare {H : Hp} {Q : XK} {h0 h1 h2 : Heap} {g1 g2 : Array GenState} {d1 d2 : Drawn} {t1 t2 : Nat} {o1 o2 : OsState} {a C : Addr} (R : Raises X (.ref C)) (I : Inv X pins σ H ⟨h0, g1, d1, t1, o1⟩) (new : h0.objs.size ≤ a) (on : ∀ b o, h0.get? b = some o → h1.get? b = some o)
    (un : Un (frs X.stack) [] (upd H a (exo a C none)) (upd H a (exo a C none)) h1 h2) (ok : HOk X.prog X.w (upd H a (exo a C none)) h2) (os : o2 = o1) (gens : PyProof.Rows.AllBare g2) (q : Q (.ref C) none H) : MkP X pins σ Q (.ref a) ⟨h2, g2, d2, t2, o2⟩ := by
  obtain ⟨t0, at_a⟩ := exo_at ok upd_same
  have free : H a = none := I.hok.fresh new
  obtain ⟨G, g_in, g_out⟩ := restrict h2 fun b => decide (b ≠ a)
  have same : ∀ b, b ≠ a → G.get? b = h2.get? b := fun b n => g_in b (decide_eq_true n)
  have gone : G.get? a = none := g_out a (by simp)
  have old : ∀ {b : Addr} {o : Obj}, h0.get? b = some o → b ≠ a := fun e => Nat.ne_of_lt (Nat.lt_of_lt_of_le (Heap.lt_size e) new)
  have off : ∀ {b : Addr} {o : HO}, H b = some o → b ≠ a := fun e => ne_of_none e free
  have still : ∀ {b : Addr}, b ≠ a → H b = none → upd H a (exo a C none) b = none := fun n e => by rw [upd_ne n]; exact e
  have U : Un (frs X.stack) [] H H h0 G :=
    { keep := fun b o e n m x => (same b (old e)).trans (un.keep b o (on b o e) (still (old e) n) m x)
      slot := fun b o e n m x => by
        obtain ⟨sl, y⟩ := un.slot b o (on b o e) (still (old e) n) m x
        exact ⟨sl, (same b (old e)).trans y⟩
      free := fun _ _ _ n _ => n
      there := fun b o e x => by
        obtain ⟨o', y⟩ := un.there b o (on b o e) x
        exact ⟨o', (same b (old e)).trans y⟩
      tups := fun _ _ e => e
      frzs := fun _ _ _ e => e
      tbls := fun b ps e => ⟨#[], by rw [e]; simp⟩ }
  have okG : HOk X.prog X.w H G := fun b o e => by
    have y := ok b o (by rw [upd_ne (off e)]; exact e)
    have noOwn : ∀ {c : Addr}, upd H a (exo a C none) c = some (.own b) → c ≠ a := fun {c} z m => by
      rw [m, upd_same] at z
      exact exo_own (Option.some.inj z)
    refine y.stay (fun c v hc z => ?_) (fun c z => ?_) fun c xs z => ?_
    · have hca : c ≠ a := by
        rcases hc with m | m
        · rw [m]
          exact off e
        · exact noOwn m
      exact (same c hca).trans z
    · rw [upd_ne (noOwn z)] at z
      exact z
    · by_cases m : c = a
      · rw [m, upd_same] at z
        exact (exo_tup (Option.some.inj z)).elim
      · rw [upd_ne m] at z
        exact z
  have J : Inv X pins σ H ⟨G, g2, d2, t2, o2⟩ := I.call' (ch := []) os U okG gens fun b m => absurd m (by simp)
  refine ⟨a, _, _, ⟨G, g2, d2, t2, o2⟩, H, .ref C, none, rfl, J, fun b o e => ?_, gone, at_a, ⟨rfl, rfl⟩, rfl, rfl, free, rfl, gens, R, q⟩
  by_cases m : b = a
  · rw [m, gone] at e
    cases e
  · exact (same b m).symm.trans e
/-- what is asked so that C(vs ..) is raised: its dict, where it has one, is new -/
def Flies (C : Addr) (sp : Sp) (vs : List V) (H1 : Hp) (Q : XK) : Prop := ∀ a, H1 a = none → sp (.ref a :: vs) (upd H1 a (exo a C none)) (fun v H2 => v = .non ∧
  ((∃ (d : Addr) (fs : List (Str × V)), H2 a = some (exo a C (some d)) ∧ H2 d = some (exd d fs) ∧ H1 d = none ∧ Q (.ref C) (some d) (upd (del H2 a) d (.xd fs))) ∨ (H2 = upd H1 a (exo a C none) ∧ Q (.ref C) none H1))) E0
theorem run_flies {x : Str} {C : Addr} {n : Nat} {sp : Sp} {H : Hp} {Q : XK} {us : List Value} {vs : List V} (o : XRz X.prog X.w X.K X.mg X.base x C n sp) (hr : Room 2 X.A) (I : Inv X pins σ H s) (r : Vals vs us) (l1 : vs.length = n) (few : vs.length ≤ 1000) (z : Flies C sp vs H Q) :
    wpAny (model X.prog X.w) X.A (call (.ref C) us) (MkP X pins σ Q) X.xe s := by
  obtain ⟨fI, fd, ps, B, newId, initId, tl, FB, T, m, F, hb, sub, ty⟩ := o
  have R : Raises X (.ref C) := raises_own sub ty
  obtain ⟨hp, gs, dr, tk, os⟩ := s
  obtain ⟨nm, N, qn, bs, bm, hdct, sn, sub', ab, col, dd, k0, k1, k2, k3, k5, hC, same⟩ := PySem.W.excInit_of I.kIn T.ini
  have up : hp.objs.size ≤ hp.objs.size + 1 := Nat.le_succ _
  have hq := z (hp.objs.size + 1) (I.hok.fresh up)
  have stay : ∀ b o, hp.get? b = some o → (exLaid hp C us).get? b = some o := fun b o q => Heap.get?_push_of_some _ (Heap.get?_push_of_some _ q)
  have made : (exLaid hp C us).get? (hp.objs.size + 1) = some { cls := .ref C, data := .fields #[.ref hp.objs.size, .none, .none, .none, .bool false, .none] } := by
    unfold exLaid
    heap_get
  have I2 : Inv X pins σ (upd H (hp.objs.size + 1) (exo (hp.objs.size + 1) C none)) ⟨exLaid hp C us, gs, dr, tk, os⟩ := I.laid (t' := tk) stay up (exo_ok made)
  have r1 : Vals (V.ref (hp.objs.size + 1) :: vs) (Value.ref (hp.objs.size + 1) :: us) := .cons rfl r
  have n1 : (Value.ref (hp.objs.size + 1) :: us).length = n + 1 := by
    rw [List.length_cons, ← r.length, l1]
  have fewU : us.length ≤ sizeLine := by
    rw [← r.length]
    exact Nat.le_trans few (by decide)
  obtain ⟨oI, at_I, isI⟩ : ∃ oI, hp.get? fI = some oI ∧ oI.cls = .type "function" := by
    obtain ⟨o, q, c⟩ := Option.map_eq_some_iff.mp (show (X.K.lookup fI).map (·.cls) = some (.type "function") from beq_iff_eq.mp T.isF)
    exact ⟨o, I.kIn _ _ q, c⟩
  refine wpAny_call (kw_call FB same hC (PySem.W.looks_findIn I.kIn T.init) (fun self => PySem.W.exc_bind at_I isI self) fewU (codeAny_mono (F.run _ X.stack _ _ ⟨Value.ref (hp.objs.size + 1) :: us, []⟩ (Value.ref (hp.objs.size + 1) :: us) _ _ E0
    (hr.make C us []) (I2.env0.make C us []) (hb.to _ (Value.ref (hp.objs.size + 1) :: us) [] I2.kIn n1 rfl) r1 hq) ?_))
  rintro (er | _ | _ | _ | u) s' y
  · exact y.elim
  · exact y.elim
  · exact y.elim
  · exact y.elim
  · obtain ⟨v, H2, os2, bare2, un2, ok2, rv, ev, y⟩ := y
    subst ev
    refine ⟨rv, ?_⟩
    obtain ⟨h2, g2, d2, t2, os'⟩ := s'
    rcases y with ⟨d, fs, ea, ed, nd, q⟩ | ⟨e, q⟩
    · exact mk_end R I up stay un2 ok2 os2 bare2 ea ed nd q
    · subst e
      exact mk_bare R I up stay un2 ok2 os2 bare2 q
/-- x(e, ..) in a raise -/
theorem pmk_flies {x : Str} {C : Addr} {n : Nat} {sp : Sp} {e : Expr} {es : List Expr} {t : TA} {p pos : Pos} (o : XRz X.prog X.w X.K X.mg X.base x C n sp) (hr : Room 2 X.A) (hg : Gl X x) (ha : PA X (e :: es) t) (hdb : (x == ("__debug__" : Str)) = false := by decide)
    (he : starEach (e :: es) X.env = (false, eval e X.env) :: starEach es X.env := by rfl) (hpl : (backTo pos (starEach es X.env)).any (·.1) = false := by rfl) :
    PMk X (.Call (.Name x p) (e :: es) [] pos) (fun σ H Q => t σ H fun vs H1 => vs.length = n ∧ vs.length ≤ 1000 ∧ Flies C sp vs H1 Q) := by
  intro pins s σ H Q I h
  obtain ⟨fI, fd, ps, B, newId, initId, tl, FB, T, m, F, hb, sub, ty⟩ := id o
  exact wpAny_Call_Name_kw (ld_glob I hg m (PySem.W.callWith_K (h₀ := X.base) I.ok.mod.kin T.kp (thn (ha.run pos pins s σ H _ I h) fun us s1 ⟨vs, H1, I1, r, l1, l2, q⟩ => ⟨I1.kIn, run_flies o hr I1 r l1 l2 q⟩) he hpl) hdb)
theorem pmk_flies0 {x : Str} {C : Addr} {sp : Sp} {p pos : Pos} (o : XRz X.prog X.w X.K X.mg X.base x C 0 sp) (hr : Room 2 X.A) (hg : Gl X x) (hdb : (x == ("__debug__" : Str)) = false := by decide) : PMk X (.Call (.Name x p) [] [] pos) (fun _ H Q => Flies C sp [] H Q) := by
  intro pins s σ H Q I h
  obtain ⟨fI, fd, ps, B, newId, initId, tl, FB, T, m, F, hb, sub, ty⟩ := id o
  exact wpAny_Call_Name_kw (ld_glob I hg m (PySem.W.callWith_K0 I.kIn T.kp (run_flies (us := []) (vs := []) o hr I .nil rfl (Nat.zero_le _) h)) hdb)
theorem xd_eq {H : Hp} {a C d : Addr} {o o' : HO} {fs : List (Str × V)} (n : H a = none) (ne : d ≠ a) : upd (del (upd (upd (upd H a o) d o') a (exo a C (some d))) a) d (.xd fs) = upd H d (.xd fs) := by
  funext b
  by_cases hb : b = d
  · rw [hb, upd_same, upd_same]
  · rw [upd_ne hb, upd_ne hb]
    by_cases ha : b = a
    · rw [ha, del_same, n]
    · rw [del_ne ha, upd_ne ha, upd_ne hb, upd_ne ha]
theorem xd_eq2 {H : Hp} {a C d : Addr} {o o' o2 : HO} {fs : List (Str × V)} (n : H a = none) (ne : d ≠ a) : upd (del (upd (upd (upd (upd H a o) d o') a (exo a C (some d))) d o2) a) d (.xd fs) = upd H d (.xd fs) := by
  funext b
  by_cases hb : b = d
  · rw [hb, upd_same, upd_same]
  · rw [upd_ne hb, upd_ne hb]
    by_cases ha : b = a
    · rw [ha, del_same, n]
    · rw [del_ne ha, upd_ne hb, upd_ne ha, upd_ne hb, upd_ne ha]
theorem flies1 {H : Hp} {f : Str} {C : Addr} {v : V} {Q : XK} (q : ∀ d, H d = none → Q (.ref C) (some d) (upd H d (.xd [(f, v)]))) : Flies C (sp1n f C) [v] H Q := fun a na => ⟨a, v, rfl, upd_same, fun d nd ne => ⟨rfl, .inl ⟨d, [(f, v)], upd_same, by rw [upd_ne ne, upd_same], by rw [upd_ne ne] at nd; exact nd, by
  rw [xd_eq na ne]
  rw [upd_ne ne] at nd
  exact q d nd⟩⟩⟩
theorem flies2 {H : Hp} {f g : Str} {C : Addr} {v u : V} {Q : XK} (q : ∀ d, H d = none → Q (.ref C) (some d) (upd H d (.xd [(g, u), (f, v)]))) : Flies C (sp2n f g C) [v, u] H Q := fun a na => ⟨a, v, u, rfl, upd_same, fun d nd ne => ⟨rfl, .inl ⟨d, [(g, u), (f, v)], by rw [upd_ne (Ne.symm ne), upd_same], upd_same, by rw [upd_ne ne] at nd; exact nd, by
  rw [xd_eq2 na ne]
  rw [upd_ne ne] at nd
  exact q d nd⟩⟩⟩
theorem flies0 {H : Hp} {C : Addr} {Q : XK} (q : Q (.ref C) none H) : Flies C (sp0 C) [] H Q := fun a na => ⟨a, rfl, upd_same, rfl, .inr ⟨rfl, q⟩⟩
variable {x : Str} {C : Addr} {n : Nat} {sp : Sp} {W : WX} {e : Expr} {es : List Expr} {t : TA} {p pos pos2 : Pos}
/-- raise x(e, ..) -/
theorem ps_raiseN (o : XRz X.prog X.w X.K X.mg X.base x C n sp) (hr : Room 2 X.A) (hc : X.calm = true) (tk : Takes X W) (hg : Gl X x) (ha : PA X (e :: es) t) (hdb : (x == ("__debug__" : Str)) = false := by decide)
    (he : starEach (e :: es) X.env = (false, eval e X.env) :: starEach es X.env := by rfl) (hpl : (backTo pos (starEach es X.env)).any (·.1) = false := by rfl) :
    PS X (.Raise (some (.Call (.Name x p) (e :: es) [] pos)) none pos2) (fun _ σ H => t σ H fun vs H1 => vs.length = n ∧ vs.length ≤ 1000 ∧ Flies C sp vs H1 fun cls d H' => W cls d σ H') :=
  ps_raise hc tk (pmk_flies o hr hg ha hdb he hpl)
/-- raise x() -/
theorem ps_raiseE (o : XRz X.prog X.w X.K X.mg X.base x C 0 sp) (hr : Room 2 X.A) (hc : X.calm = true) (tk : Takes X W) (hg : Gl X x) (hdb : (x == ("__debug__" : Str)) = false := by decide) :
    PS X (.Raise (some (.Call (.Name x p) [] [] pos)) none pos2) (fun _ σ H => Flies C sp [] H fun cls d H' => W cls d σ H') := ps_raise hc tk (pmk_flies0 o hr hg hdb)
end
/-! ### try with several except clauses, each with a name of its own or with none -/
/-- what is wanted behind a suite whose name stands in slot i: there the name is gone -/
def behindName (i : Nat) (D : Ends) : Ends :=
  { nx := fun τ G => D.nx (τ.set i none) G, rt := D.rt, bk := fun τ G => D.bk (τ.set i none) G, ct := fun τ G => D.ct (τ.set i none) G }
/-- a clause: its class, its name's slot, its suite's reading -/
structure Clause where
  cls : Value
  slot : Option Nat
  ts : Addr → Value → Option Addr → TS
/-- the suite is entered with the exception at a -/
def Clause.enters (c : Clause) (a : Addr) (kd : Value) (dd : Option Addr) (D : Ends) (τ : St) (G : Hp) : Prop :=
  match c.slot with
  | none => c.ts a kd dd D τ G
  | some i => c.ts a kd dd (behindName i D) (τ.set i (some (.ref a))) G
/-- what the clauses, one after the other, wish of an exception -/
def wishes (K : PySem.W.Frag) (out : WX) (D : Ends) : List Clause → WX
  | [] => out
  | c :: r => fun kd dd τ G => ∃ hit, PySem.W.exmOne K kd c.cls = some hit ∧ (hit = true → ∀ a, G a = none → c.enters a kd dd D τ G) ∧ (hit = false → wishes K out D r kd dd τ G)
abbrev SuiteOk (X : Cx) (sts : List Stmt) (ts : Addr → Value → Option Addr → TS) : Prop :=
  ∀ (a : Addr) (ob : Obj) (kd : Value) (dd : Option Addr) (ps : List (Addr × Obj)), Zc kd dd ob → (∃ fv, ob.data = .fields fv) → PSs (X.suite a ((a, ob) :: ps)) sts (ts a kd dd)
inductive Clauses (X : Cx) : List ExceptHandler → List Clause → Prop
  | nil : Clauses X [] []
  | bare {x : Str} {c : Value} {ts : Addr → Value → Option Addr → TS} {st : Stmt} {sts : List Stmt} {p1 p2 : Pos} {hs : List ExceptHandler} {l : List Clause} (nm : Names X x c) (su : SuiteOk X (st :: sts) ts) (r : Clauses X hs l) :
      Clauses X (.ExceptHandler (some (.Name x p1)) none (st :: sts) p2 :: hs) (⟨c, none, ts⟩ :: l)
  | named {x y : Str} {i : Nat} {c : Value} {ts : Addr → Value → Option Addr → TS} {st : Stmt} {sts : List Stmt} {p1 p2 : Pos} {hs : List ExceptHandler} {l : List Clause} (nm : Names X x c) (at_i : X.N[i]? = some y) (lo : X.env.kindOf y = some .local) (su : SuiteOk X (st :: sts) ts)
      (r : Clauses X hs l) : Clauses X (.ExceptHandler (some (.Name x p1)) (some y) (st :: sts) p2 :: hs) (⟨c, some i, ts⟩ :: l)
section
variable {X : Cx} {body : List Stmt} {hd : ExceptHandler} {hs : List ExceptHandler} {l : List Clause} {pos : Pos} {tb : WX → TS} {out : WX}
theorem ps_tryN (top : X.stack = X.env :: X.outer) (own : X.env.frame = some X.env.locals) (nd : X.N.Nodup) (tk : Takes X out)
    (bd : ∀ (W : WX) (ps : List (Addr × Obj)) (xe : Value → Shared → Prop), Takes (X.tr ps xe) W → PassesOwn (model X.prog X.w) X.A X.env xe → PSs (X.tr ps xe) body (tb W))
    (cl : Clauses X (hd :: hs) l) : PS X (.Try body (hd :: hs) [] [] pos) (fun D τ G => tb (wishes X.K out D l) D τ G) := by
  refine ⟨fun pins s τ G D I q => wpAny_Try_except (wpAny_mono ((bd (wishes X.K out D l) (X.pn ++ pins) (fun e z1 => wpAny (model X.prog X.w) X.A (noteFrame e X.env) (fun _ z2 => wpAny (model X.prog X.w) X.A (setFlight e none)
    (fun _ z3 => wpAny (model X.prog X.w) X.A (handleBy e X.env (hd :: hs)) (SP X pins D) X.xe z3) X.xe z2) X.xe z1) (fun u z caught => ?_) PassesOwn.looking).run [] s τ G D (I.toTry _) q) ?_ fun _ _ w => w)⟩
  · -- an exception of the body
    have fit := I.ok
    have frs_ : X.A.frames = some (X.env :: X.outer) := fit.frames.trans (by rw [top])
    obtain ⟨a, B, sI, pins1, τ1, G1, kd, dd, rfl, J1, nb, up, sky, free, os, ag, wish⟩ := caught
    have J : Inv X pins τ1 G1 sI := J1.ofTry fit
    show wpAny (model X.prog X.w) X.A (noteFrame (.ref a) X.env) _ _ _
    refine Sky.land Zc.steady frs_ own (by rw [← top]; exact sky) fun h1 fly1 up1 => ?_
    have J2 : Inv X pins τ1 G1 { z with heap := h1 } := J.landed nb fly1.1 (up.trans up1) os ag
    obtain ⟨ob, fv, at_a, zc, isF⟩ := fly1.there
    -- the exception is no frame
    have noFrame : a ∉ frs (X.env :: X.outer) := fun m => by
      obtain ⟨_, o2, e2, no⟩ := fly1.2.2.1.mem m
      rw [at_a] at e2
      cases e2
      exact no _ isF
    have neL : a ≠ X.env.locals := fun e => noFrame (List.mem_filterMap.mpr ⟨X.env, List.mem_cons_self, by rw [own, e]⟩)
    have notF : a ∉ X.fs := fun m => by
      obtain ⟨en, hen, e⟩ := List.mem_filterMap.mp m
      exact noFrame (List.mem_filterMap.mpr ⟨en, List.mem_cons_of_mem _ hen, e⟩)
    have U := J2.suite at_a isF free neL notF
    have tyA : PySem.W.Looks (model X.prog X.w) h1 (typeOf (.ref a)) kd := fun _ _ _ _ kp w => wpAny_typeOf_ref (kp _ _ at_a) (by rw [zc.1]; exact w)
    -- a clause's class is looked up
    have class_ : ∀ {x : Str} {c : Value} {p1 : Pos} {Q : Value → Shared → Prop} {E : Value → Shared → Prop}, Names X x c → Q c { z with heap := h1 } →
        wpAny (model X.prog X.w) (X.A.mark (some (.ref a))) (eval (.Name x p1) X.env) Q E { z with heap := h1 } := fun {x c p1 Q E} nm w => by
      rcases nm with ⟨g, nodbg, m | ⟨m, v, noname⟩⟩
      · exact ld_glob (X := X.suite a ((a, ob) :: (X.pn ++ pins))) U g m w nodbg
      · exact ld_blt (X := X.suite a ((a, ob) :: (X.pn ++ pins))) U g m v w noname nodbg
    have walk : ∀ {hs' : List ExceptHandler} {l' : List Clause}, Clauses X hs' l' → wishes X.K out D l' kd dd τ1 G1 → wpAny (model X.prog X.w) X.A (handleBy (.ref a) X.env hs') (SP X pins D) X.xe { z with heap := h1 } := by
      intro hs' l' c
      induction c with
      | nil =>
        intro w
        obtain ⟨_, _, _, oe, vs, T, oT, _, e1, _, e2, e3, _⟩ := id fly1
        have on : wpAny (model X.prog X.w) X.A (setFlight (.ref a) X.env.frame) (fun _ z4 => wpAny (model X.prog X.w) X.A (throw (.ref a) : Sem Flow) (SP X pins D) X.xe z4) X.xe { z with heap := h1 } := by
          rw [own]
          exact HandSPX.setFlight_upZ fly1 fun h2 sky2 up2 => wpAny_throw (tk _ _ ⟨a, B, sI, pins, τ1, G1, kd, dd, rfl, J, nb, (up.trans up1).trans up2, .inr (.inr (by rw [top]; exact sky2)), free, os, ag, w⟩)
        refine wpAny_handleBy_nil ?_
        unfold PySem.passOn
        refine wpAny_bind (wpAny_field e1 e2 e3 ?_)
        rw [if_neg (by simp)]
        first
          | exact wpAny_bind on
          | exact wpAny_bind (wpAny_pure (wpAny_bind on))
      | @bare x c ts st sts p1 p2 hs2 l2 nm su r ih =>
        intro w
        obtain ⟨hit, ex, yes, no⟩ := w
        refine wpAny_handleBy_cons (codeAny_handlers_test (class_ nm ((PySem.W.exm_one (M := model X.prog X.w) J2.kIn tyA ex).here ?_))) (fun e => by cases e)
        cases hit with
        | false => exact ih (no rfl)
        | true =>
          refine codeAny_handlers_suite (HandSPX.lands_againZ fly1 fun h2 fly2 up2 => ?_)
          obtain ⟨ob2, fv2, at2, zc2, isF2⟩ := fly2.there
          have V := (J.landed (s' := { z with heap := h2 }) nb fly2.1 ((up.trans up1).trans up2) os ag).suite at2 isF2 free neL notF
          refine wpAny_mono ((su a ob2 kd dd (X.pn ++ pins) zc2 ⟨_, isF2⟩).run [] _ _ G1 _ V (yes rfl a free)) ?_ fun _ _ w => w.elim
          rintro (_ | _ | _ | u) z6 y
          · obtain ⟨τ6, G6, S6, q6⟩ := y
            exact ⟨_, _, S6.unsuite fit, q6⟩
          · obtain ⟨τ6, G6, S6, q6⟩ := y
            exact ⟨_, _, S6.unsuite fit, q6⟩
          · obtain ⟨τ6, G6, S6, q6⟩ := y
            exact ⟨_, _, S6.unsuite fit, q6⟩
          · obtain ⟨v6, τ6, G6, S6, r6, q6⟩ := y
            exact ⟨_, _, _, S6.unsuite fit, r6, q6⟩
      | @named x y i c ts st sts p1 p2 hs2 l2 nm at_i lo su r ih =>
        intro w
        obtain ⟨hit, ex, yes, no⟩ := w
        refine wpAny_handleBy_cons (codeAny_handlers_test (class_ nm ((PySem.W.exm_one (M := model X.prog X.w) J2.kIn tyA ex).here ?_))) (fun e => by cases e)
        cases hit with
        | false => exact ih (no rfl)
        | true =>
          refine codeAny_handlers_suite_as (HandSPX.lands_againZ fly1 fun h2 fly2 up2 => ?_)
          obtain ⟨ob2, fv2, at2, zc2, isF2⟩ := fly2.there
          have V := (J.landed (s' := { z with heap := h2 }) nb fly2.1 ((up.trans up1).trans up2) os ag).suite at2 isF2 free neL notF
          refine store_ok (X := X.suite a ((a, ob2) :: (X.pn ++ pins))) (v := .ref a) V nd at_i (.inl lo) rfl (fun z5 V5 => ?_) (.inr lo)
          have gone : ∀ {τ6 : St} {G6 : Hp} {R : Shared → Prop} {z6 : Shared}, Inv (X.suite a ((a, ob2) :: (X.pn ++ pins))) [] τ6 G6 z6 → (∀ z7, Inv X pins (τ6.set i none) G6 z7 → R z7) →
              wpAny (model X.prog X.w) X.A (do bindName X.env y .none; unbindBehindTheSuite X.env y p2) (fun _ z7 => R z7) X.xe z6 := fun {τ6 G6 R z6} S6 w => gone_ok (S6.unsuite fit) nd at_i lo w
          refine wpAny_mono ((su a ob2 kd dd (X.pn ++ pins) zc2 ⟨_, isF2⟩).run [] z5 _ G1 _ V5 (yes rfl a free)) ?_ fun _ _ w => w.elim
          rintro (_ | _ | _ | u) z6 k6
          · obtain ⟨τ6, G6, S6, q6⟩ := k6
            exact gone S6 fun z7 J7 => ⟨_, _, J7, q6⟩
          · obtain ⟨τ6, G6, S6, q6⟩ := k6
            exact gone S6 fun z7 J7 => ⟨_, _, J7, q6⟩
          · obtain ⟨τ6, G6, S6, q6⟩ := k6
            exact gone S6 fun z7 J7 => ⟨_, _, J7, q6⟩
          · obtain ⟨v6, τ6, G6, S6, r6, q6⟩ := k6
            exact gone S6 fun z7 J7 => ⟨_, _, _, J7, r6, q6⟩
    exact walk cl wish
  · rintro (_ | _ | _ | u) z1 y
    · obtain ⟨τ1, G1, J1, w⟩ := y
      exact wpAny_execs_nil ⟨τ1, G1, J1.ofTry I.ok, w⟩
    · obtain ⟨τ1, G1, J1, w⟩ := y
      exact ⟨τ1, G1, J1.ofTry I.ok, w⟩
    · obtain ⟨τ1, G1, J1, w⟩ := y
      exact ⟨τ1, G1, J1.ofTry I.ok, w⟩
    · obtain ⟨v, τ1, G1, J1, r, w⟩ := y
      exact ⟨v, τ1, G1, J1.ofTry I.ok, r, w⟩
end
/-! ### own words: a def by its name, its promise by its name -/
/-- the def x of the text stands in the module -/
def Has (K : PySem.W.Frag) (mg : Str → Option Value) (x : Str) (st : Stmt) (ps : List Str) : Prop :=
  ∃ f fd, mg x = some (.ref f) ∧ Binds K fd ps [] ∧ Fun K x x st f fd
/-- the def x keeps the promise sp -/
def Ok (P : Program) (w : World) (K : PySem.W.Frag) (mg : Str → Option Value) (base : Heap) (k : Nat) (x : Str) (ps : List Str) (sp : Sp) : Prop :=
  ∃ f fd, mg x = some (.ref f) ∧ PySem.W.keepIn K (.ref f) = true ∧ Binds K fd ps [] ∧ FnOk P w K mg base CX0 k f fd ps sp
theorem pe_cO {X : Cx} {k : Nat} {x : Str} {ps : List Str} {sp : Sp} {p pos : Pos} {e : Expr} {es : List Expr} {t : TA} {E : XK} (o : Ok X.prog X.w X.K X.mg X.base k x ps sp) (hr : Room k X.A) (hx : Passes CX0 X E) (hg : Gl X x)
    (ha : PA X (e :: es) t) (hdb : (x == ("__debug__" : Str)) = false := by decide) (he : starEach (e :: es) X.env = (false, eval e X.env) :: starEach es X.env := by rfl) (hpl : (backTo pos (starEach es X.env)).any (·.1) = false := by rfl) :
    PE X (.Call (.Name x p) (e :: es) [] pos) (tCall sp [] E t) := by
  obtain ⟨f, fd, g, kp, b, G⟩ := o
  exact pe_call G hr hg g kp b .nil hx ha hdb he hpl
theorem pe_cO0 {X : Cx} {k : Nat} {x : Str} {ps : List Str} {sp : Sp} {p pos : Pos} {E : XK} (o : Ok X.prog X.w X.K X.mg X.base k x ps sp) (hr : Room k X.A) (hx : Passes CX0 X E) (hg : Gl X x) (hdb : (x == ("__debug__" : Str)) = false := by decide) :
    PE X (.Call (.Name x p) [] [] pos) (tCall sp [] E tNil) := by
  obtain ⟨f, fd, g, kp, b, G⟩ := o
  exact pe_call0 G hr hg g kp b .nil hx hdb
/-! ### numbers of a fair size -/
def Sm (i : Int) : Prop := -(2 ^ 600) < i ∧ i < 2 ^ 600
theorem Sm.nat {i : Int} (h : Sm i) : i.natAbs < 2 ^ 600 := by
  obtain ⟨h1, h2⟩ := h
  omega
section
variable {X : Cx}
theorem op_mulS : OpR X (binaryOp .Mult) (rI (fun i j => Sm i ∧ Sm j) fun i j => .int (i * j)) := by
  intro pins s σ H x y v u Q I rx ry h
  obtain ⟨i, j, rfl, rfl, ⟨h1, h2⟩, q⟩ := h
  exact op_mulW pins s σ H _ _ v u Q I rx ry ⟨i, j, rfl, rfl, wide_mul h1.nat h2.nat (by decide) (by decide) (by decide), q⟩
theorem op_divS : OpR X (binaryOp .FloorDiv) (rI (fun _ j => j ≠ 0 ∧ Sm j) fun i j => .int (i.fdiv j)) := opI fun i j _ _ _ _ _ hc q =>
  PyProof.Rows.floordiv_int hc.1 q (.inl (PyProof.noPylong_of_log2 (Nat.lt_of_lt_of_le (PySem.Flt.log2_lt_of (by decide : 0 < 600) hc.2.nat) (by decide))))
end
/-! ### heaps: all but the pool stays -/
def Keep (pp : Addr) (H H' : Hp) : Prop := ∀ b o, H b = some o → b ≠ pp → H' b = some o
theorem Keep.refl {pp : Addr} {H : Hp} : Keep pp H H := fun _ _ h _ => h
theorem Keep.trans {pp : Addr} {H H1 H2 : Hp} (a : Keep pp H H1) (b : Keep pp H1 H2) : Keep pp H H2 := fun c o h n => b c o (a c o h n) n
theorem Same.keep {pp : Addr} {H H' : Hp} (a : Same H H') : Keep pp H H' := fun b o h _ => a b o h
theorem Keep.seq {pp a : Addr} {K : PySem.W.Frag} {H H' : Hp} {xs : List V} (e : Keep pp H H') (n : a ≠ pp) (h : SqL K H a xs) : SqL K H' a xs := by
  rcases h with (h | ⟨o, h⟩) | h
  · exact .inl (.inl (e _ _ h n))
  · exact .inl (.inr ⟨o, e _ _ h n⟩)
  · exact .inr h
theorem Same.new {H : Hp} {p : Addr} {o : HO} (n : H p = none) : Same H (upd H p o) := fun b u h => by
  rw [upd_ne (ne_of_none h n)]
  exact h
/-- a pool of draws stands at pp -/
def PoolAt (H : Hp) (pp : Addr) : Prop := ∃ c s : Int, 0 ≤ s ∧ s < 2147483647 ∧ H pp = some (.lst [.int c, .int s])
theorem PoolAt.keep {H H' : Hp} {pp p : Addr} (h : PoolAt H p) (e : Keep pp H H') (n : p ≠ pp) : PoolAt H' p := by
  obtain ⟨c, s, h0, h1, h2⟩ := h
  exact ⟨c, s, h0, h1, e _ _ h2 n⟩
theorem PoolAt.same {H H' : Hp} {p : Addr} (h : PoolAt H p) (e : Same H H') : PoolAt H' p := by
  obtain ⟨c, s, h0, h1, h2⟩ := h
  exact ⟨c, s, h0, h1, e _ _ h2⟩
theorem PoolAt.ne {H : Hp} {p q : Addr} (h : PoolAt H p) (n : H q = none) : q ≠ p := by
  obtain ⟨c, s, h0, h1, h2⟩ := h
  exact (ne_of_none h2 n).symm
theorem Keep.free {pp l : Addr} {H H' : Hp} (e : Keep pp H H') (h : PoolAt H' pp) (n : H' l = none) : H l = none := by
  cases q : H l with
  | none => rfl
  | some o =>
    rw [e l o q (h.ne n)] at n
    cases n
theorem atI0 {α : Type} {x : α} {xs : List α} : atI (x :: xs) 0 = some x := atI_nat (j := 0) rfl
theorem atI1 {α : Type} {x y : α} {xs : List α} : atI (x :: y :: xs) 1 = some y := atI_nat (j := 1) rfl
theorem kIntInt {K : PySem.W.Frag} : PySem.W.kitOne K (.type "int") (.type "int") = some true := kit_ty (show kitB "int" "int" = some true by decide +kernel)
theorem kIntBool {K : PySem.W.Frag} : PySem.W.kitOne K (.type "int") (.type "bool") = some false := kit_ty (show kitB "int" "bool" = some false by decide +kernel)
theorem kStrStr {K : PySem.W.Frag} : PySem.W.kitOne K (.type "str") (.type "str") = some true := kit_ty (show kitB "str" "str" = some true by decide +kernel)
theorem n29 : (2147483629 : Int) ≠ 0 := by decide
theorem n47 : (2147483647 : Int) ≠ 0 := by decide
theorem vne {i j : Int} (h : i ≠ j) : ¬ decide (V.int i = V.int j) = true := fun z => h (by injection of_decide_eq_true z)
theorem veq {i j : Int} (h : i = j) : decide (V.int i = V.int j) = true := decide_eq_true (by rw [h])
theorem sne {i j : Str} (h : i ≠ j) : ¬ decide (V.str i = V.str j) = true := fun z => h (by injection of_decide_eq_true z)
theorem of_veq {i j : Int} (h : decide (V.int i = V.int j) = true) : i = j := by injection of_decide_eq_true h
theorem of_seq {i j : Str} (h : decide (V.str i = V.str j) = true) : i = j := by injection of_decide_eq_true h
theorem of_vne {i j : Int} (h : ¬ decide (V.int i = V.int j) = true) : i ≠ j := fun z => h (by rw [z]; exact decide_eq_true rfl)
theorem of_sne {i j : Str} (h : ¬ decide (V.str i = V.str j) = true) : i ≠ j := fun z => h (by rw [z]; exact decide_eq_true rfl)
theorem iteN {c A B : Prop} [Decidable c] (h : ¬ c) (q : B) : if c then A else B := by
  rw [if_neg h]
  exact q
theorem iteP {c A B : Prop} [Decidable c] (h : c) (q : A) : if c then A else B := by
  rw [if_pos h]
  exact q
theorem bnot_dec {c : Prop} [Decidable c] (h : (!decide c) = true) : ¬ c := fun z => by
  rw [decide_eq_true z] at h
  cases h
theorem bnot_dec' {c : Prop} [Decidable c] (h : ¬ (!decide c) = true) : c := by
  by_cases z : c
  · exact z
  · exact absurd (by rw [decide_eq_false z]; rfl) h
/-! ### the built-ins, by name -/
theorem bb_isinstance : bootBuiltins "isinstance" = some (.builtin "isinstance") := by decide +kernel
theorem bb_len : bootBuiltins "len" = some (.builtin "len") := by decide +kernel
theorem bb_max : bootBuiltins "max" = some (.builtin "max") := by decide +kernel
theorem bb_min : bootBuiltins "min" = some (.builtin "min") := by decide +kernel
theorem bb_abs : bootBuiltins "abs" = some (.builtin "abs") := by decide +kernel
theorem bb_sum : bootBuiltins "sum" = some (.builtin "sum") := by decide +kernel
theorem bb_all : bootBuiltins "all" = some (.builtin "all") := by decide +kernel
theorem bb_any : bootBuiltins "any" = some (.builtin "any") := by decide +kernel
theorem bb_sorted : bootBuiltins "sorted" = some (.builtin "sorted") := by decide +kernel
theorem bb_repr : bootBuiltins "repr" = some (.builtin "repr") := by decide +kernel
theorem bb_ord : bootBuiltins "ord" = some (.builtin "ord") := by decide +kernel
theorem bb_chr : bootBuiltins "chr" = some (.builtin "chr") := by decide +kernel
theorem bb_next : bootBuiltins "next" = some (.builtin "next") := by decide +kernel
theorem bb_iter : bootBuiltins "iter" = some (.builtin "iter") := by decide +kernel
theorem bb_callable : bootBuiltins "callable" = some (.builtin "callable") := by decide +kernel
theorem bb_hasattr : bootBuiltins "hasattr" = some (.builtin "hasattr") := by decide +kernel
theorem bb_getattr : bootBuiltins "getattr" = some (.builtin "getattr") := by decide +kernel
theorem bb_int : bootBuiltins "int" = some (.type "int") := by decide +kernel
theorem bb_bool : bootBuiltins "bool" = some (.type "bool") := by decide +kernel
theorem bb_str : bootBuiltins "str" = some (.type "str") := by decide +kernel
theorem bb_list : bootBuiltins "list" = some (.type "list") := by decide +kernel
theorem bb_tuple : bootBuiltins "tuple" = some (.type "tuple") := by decide +kernel
theorem bb_set : bootBuiltins "set" = some (.type "set") := by decide +kernel
theorem bb_dict : bootBuiltins "dict" = some (.type "dict") := by decide +kernel
theorem bb_range : bootBuiltins "range" = some (.type "range") := by decide +kernel
theorem bb_zip : bootBuiltins "zip" = some (.type "zip") := by decide +kernel
theorem bb_enumerate : bootBuiltins "enumerate" = some (.type "enumerate") := by decide +kernel
theorem bb_reversed : bootBuiltins "reversed" = some (.type "reversed") := by decide +kernel
theorem bb_frozenset : bootBuiltins "frozenset" = some (.type "frozenset") := by decide +kernel
theorem bb_type : bootBuiltins "type" = some (.type "type") := by decide +kernel
/-! ### what stays; data that is tracked; comprehensions by what their elements are -/
section
/-- all that stands outside Z stays -/
def Fm (Z : Addr → Prop) (H H' : Hp) : Prop := ∀ b o, H b = some o → ¬ Z b → H' b = some o
abbrev Z0 : Addr → Prop := fun _ => False
abbrev Zp (pp : Addr) : Addr → Prop := fun b => b = pp
theorem Fm.refl {Z : Addr → Prop} {H : Hp} : Fm Z H H := fun _ _ h _ => h
theorem Fm.trans {Z : Addr → Prop} {H H1 H2 : Hp} (a : Fm Z H H1) (b : Fm Z H1 H2) : Fm Z H H2 := fun c o h n => b c o (a c o h n) n
theorem Fm.of {Z : Addr → Prop} {H H' : Hp} (s : Same H H') : Fm Z H H' := fun b o h _ => s b o h
theorem Fm.same {H H' : Hp} (s : Fm Z0 H H') : Same H H' := fun b o h => s b o h id
theorem Fm.keep {pp : Addr} {H H' : Hp} (s : Fm (Zp pp) H H') : Keep pp H H' := s
theorem Keep.fr {pp : Addr} {H H' : Hp} (s : Keep pp H H') : Fm (Zp pp) H H' := s
theorem Fm.new {Z : Addr → Prop} {H : Hp} {p : Addr} {o : HO} (n : H p = none) : Fm Z H (upd H p o) := Fm.of (Same.new n)
/-- a later store at a place that was free -/
theorem Fm.on {Z : Addr → Prop} {H H' : Hp} {p : Addr} {o : HO} (s : Fm Z H H') (n : H p = none) : Fm Z H (upd H' p o) := fun b u h z => by
  rw [upd_ne (ne_of_none h n)]
  exact s b u h z
mutual
/-- the value v is the data d, all of it tracked and outside Z -/
inductive Dt (Z : Addr → Prop) (H : Hp) : V → PyData → Prop
  | non : Dt Z H .non .none
  | bl (b : Bool) : Dt Z H (.bl b) (.bool b)
  | int (i : Int) : Dt Z H (.int i) (.int i)
  | str (x : Str) : Dt Z H (.str x) (.str x)
  | lst {a : Addr} {xs : List V} {ds : List PyData} : H a = some (.lst xs) → ¬ Z a → DtAll Z H xs ds → Dt Z H (.ref a) (.list ds)
  | tup {a : Addr} {xs : List V} {ds : List PyData} : H a = some (.tup xs) → ¬ Z a → DtAll Z H xs ds → Dt Z H (.ref a) (.tuple ds)
inductive DtAll (Z : Addr → Prop) (H : Hp) : List V → List PyData → Prop
  | nil : DtAll Z H [] []
  | cons {v : V} {vs : List V} {d : PyData} {ds : List PyData} : Dt Z H v d → DtAll Z H vs ds → DtAll Z H (v :: vs) (d :: ds)
end
variable {Z : Addr → Prop} {H H' : Hp} {K : PySem.W.Frag}
mutual
theorem Dt.fr' (s : Fm Z H H') {v : V} {d : PyData} (h : Dt Z H v d) : Dt Z H' v d :=
  match h with
  | .non => .non
  | .bl b => .bl b
  | .int i => .int i
  | .str x => .str x
  | .lst e n t => .lst (s _ _ e n) n (DtAll.fr' s t)
  | .tup e n t => .tup (s _ _ e n) n (DtAll.fr' s t)
theorem DtAll.fr' (s : Fm Z H H') {vs : List V} {ds : List PyData} (h : DtAll Z H vs ds) : DtAll Z H' vs ds :=
  match h with
  | .nil => .nil
  | .cons a b => .cons (Dt.fr' s a) (DtAll.fr' s b)
end
theorem Dt.fr {v : V} {d : PyData} (h : Dt Z H v d) (s : Fm Z H H') : Dt Z H' v d := Dt.fr' s h
theorem DtAll.fr {vs : List V} {ds : List PyData} (h : DtAll Z H vs ds) (s : Fm Z H H') : DtAll Z H' vs ds := DtAll.fr' s h
mutual
theorem Dt.dp' {v : V} {d : PyData} (h : Dt Z H v d) : Dp K H v d :=
  match h with
  | .non => .non
  | .bl b => .bl b
  | .int i => .int i
  | .str x => .str x
  | .lst e n t => .lst (SqL.of e) (DtAll.dp' t)
  | .tup e n t => .tup (SqT.of e) (DtAll.dp' t)
theorem DtAll.dp' {vs : List V} {ds : List PyData} (h : DtAll Z H vs ds) : DpAll K H vs ds :=
  match h with
  | .nil => .nil
  | .cons a b => .cons (Dt.dp' a) (DtAll.dp' b)
end
theorem Dt.dp {v : V} {d : PyData} (h : Dt Z H v d) : Dp K H v d := Dt.dp' h
mutual
theorem Dt.mono' {Z' : Addr → Prop} (z : ∀ a, Z' a → Z a) {v : V} {d : PyData} (h : Dt Z H v d) : Dt Z' H v d :=
  match h with
  | .non => .non
  | .bl b => .bl b
  | .int i => .int i
  | .str x => .str x
  | .lst e n t => .lst e (fun m => n (z _ m)) (DtAll.mono' z t)
  | .tup e n t => .tup e (fun m => n (z _ m)) (DtAll.mono' z t)
theorem DtAll.mono' {Z' : Addr → Prop} (z : ∀ a, Z' a → Z a) {vs : List V} {ds : List PyData} (h : DtAll Z H vs ds) : DtAll Z' H vs ds :=
  match h with
  | .nil => .nil
  | .cons a b => .cons (Dt.mono' z a) (DtAll.mono' z b)
end
theorem Dt.z0 {v : V} {d : PyData} (h : Dt Z H v d) : Dt Z0 H v d := Dt.mono' (fun _ m => m.elim) h
theorem Dt.mono {Z' : Addr → Prop} {v : V} {d : PyData} (h : Dt Z H v d) (z : ∀ a, Z' a → Z a) : Dt Z' H v d := Dt.mono' z h
theorem DtAll.len {vs : List V} {ds : List PyData} (h : DtAll Z H vs ds) : vs.length = ds.length := by
  induction vs generalizing ds with
  | nil => cases h; rfl
  | cons v vs ih => cases h with | cons a b => rw [List.length_cons, List.length_cons, ih b]
theorem DtAll.get {vs : List V} {ds : List PyData} (h : DtAll Z H vs ds) {i : Nat} {v : V} (e : vs[i]? = some v) : ∃ d, ds[i]? = some d ∧ Dt Z H v d := by
  induction vs generalizing ds i with
  | nil => simp at e
  | cons u vs ih =>
    cases h with
    | cons a b =>
      cases i with
      | zero =>
        simp at e
        subst e
        exact ⟨_, rfl, a⟩
      | succ i =>
        simp at e
        obtain ⟨d, e1, e2⟩ := ih b e
        exact ⟨d, by simpa using e1, e2⟩
theorem DtAll.append {vs us : List V} {ds es : List PyData} (h : DtAll Z H vs ds) (g : DtAll Z H us es) : DtAll Z H (vs ++ us) (ds ++ es) := by
  induction vs generalizing ds with
  | nil => cases h; exact g
  | cons v vs ih => cases h with | cons a b => exact .cons a (ih b)
theorem DtAll.take {vs : List V} {ds : List PyData} (h : DtAll Z H vs ds) (n : Nat) : DtAll Z H (vs.take n) (ds.take n) := by
  induction vs generalizing ds n with
  | nil => cases h; simp; exact .nil
  | cons v vs ih =>
    cases h with
    | cons a b =>
      cases n with
      | zero => exact .nil
      | succ n => exact .cons a (ih b n)
theorem DtAll.drop {vs : List V} {ds : List PyData} (h : DtAll Z H vs ds) (n : Nat) : DtAll Z H (vs.drop n) (ds.drop n) := by
  induction vs generalizing ds n with
  | nil => cases h; simp; exact .nil
  | cons v vs ih =>
    cases h with
    | cons a b =>
      cases n with
      | zero => exact .cons a b
      | succ n => exact ih b n
theorem DtAll.of_get {vs : List V} {ds : List PyData} (l : vs.length = ds.length) (h : ∀ (i : Nat) (v : V) (d : PyData), vs[i]? = some v → ds[i]? = some d → Dt Z H v d) : DtAll Z H vs ds := by
  induction vs generalizing ds with
  | nil =>
    cases ds with
    | nil => exact .nil
    | cons d ds => simp at l
  | cons v vs ih =>
    cases ds with
    | nil => simp at l
    | cons d ds =>
      refine .cons (h 0 v d rfl rfl) (ih (by simpa using l) fun i v' d' e1 e2 => h (i + 1) v' d' ?_ ?_)
      · rw [List.getElem?_cons_succ]
        exact e1
      · rw [List.getElem?_cons_succ]
        exact e2
theorem DtAll.ints (ns : List Int) : DtAll Z H (ns.map V.int) (ns.map PyData.int) := by
  induction ns with
  | nil => exact .nil
  | cons n ns ih => exact .cons (.int n) ih
theorem DtAll.ints_eq {vs : List V} {ns : List Int} (h : DtAll Z H vs (ns.map PyData.int)) : vs = ns.map V.int := by
  induction ns generalizing vs with
  | nil => cases h; rfl
  | cons n ns ih =>
    cases h with
    | cons a b =>
      cases a
      rw [ih b]
      rfl
theorem Dt.lst_inv {v : V} {ds : List PyData} (h : Dt Z H v (.list ds)) : ∃ a xs, v = .ref a ∧ H a = some (.lst xs) ∧ ¬ Z a ∧ DtAll Z H xs ds := by
  cases h with | lst e n t => exact ⟨_, _, rfl, e, n, t⟩
theorem Dt.tup_inv {v : V} {ds : List PyData} (h : Dt Z H v (.tuple ds)) : ∃ a xs, v = .ref a ∧ H a = some (.tup xs) ∧ ¬ Z a ∧ DtAll Z H xs ds := by
  cases h with | tup e n t => exact ⟨_, _, rfl, e, n, t⟩
theorem Dt.row_inv {v : V} {ns : List Int} (h : Dt Z H v (.list (ns.map PyData.int))) : ∃ a, v = .ref a ∧ H a = some (.lst (ns.map V.int)) ∧ ¬ Z a := by
  obtain ⟨a, xs, e, h1, h2, h3⟩ := h.lst_inv
  rw [h3.ints_eq] at h1
  exact ⟨a, e, h1, h2⟩
end
section
variable {J : It} {n : Nat} {G : Hp → Prop} {Y : Nat → Hp → V → Hp → Prop}
theorem get_snoc {α : Type} {xs : List α} {y z : α} {j : Nat} (h : (xs ++ [y])[j]? = some z) : xs[j]? = some z ∨ (j = xs.length ∧ y = z) := by
  by_cases hj : j < xs.length
  · rw [List.getElem?_append_left hj] at h
    exact .inl h
  · rw [List.getElem?_append_right (by omega)] at h
    by_cases h0 : j - xs.length = 0
    · rw [h0] at h
      exact .inr ⟨by omega, by simpa using h⟩
    · obtain ⟨k, hk⟩ : ∃ k, j - xs.length = k + 1 := ⟨j - xs.length - 1, by omega⟩
      rw [hk] at h
      simp at h
theorem Fm.wide {Z Z' : Addr → Prop} {H H' : Hp} (s : Fm Z H H') (z : ∀ a, Z a → Z' a) : Fm Z' H H' := fun b o h n => s b o h fun m => n (z _ m)
/-- Z, and D -/
def Zu (Z : Addr → Prop) (D : Addr) : Addr → Prop := fun b => Z b ∨ b = D
theorem Fm.zu {Z : Addr → Prop} {D : Addr} {H H' : Hp} (s : Fm Z H H') : Fm (Zu Z D) H H' := s.wide fun _ m => .inl m
theorem zu_ne {Z : Addr → Prop} {D a : Addr} (h : ¬ Z a) (n : a ≠ D) : ¬ Zu Z D a := fun m => m.elim h n
theorem zu_new {Z : Addr → Prop} {D a : Addr} {H : Hp} {o : HO} (h : ¬ Z a) (n : H a = none) (d : H D = some o) : ¬ Zu Z D a := zu_ne h (ne_of_none d n).symm
theorem Fm.at_zu {Z : Addr → Prop} {D : Addr} {H : Hp} {o : HO} : Fm (Zu Z D) H (upd H D o) := fun b u h n => by
  rw [upd_ne (fun m => n (.inr m))]
  exact h
mutual
theorem Dt.off' {Z : Addr → Prop} {D : Addr} {H : Hp} (n : H D = none) {v : V} {d : PyData} (h : Dt Z H v d) : Dt (Zu Z D) H v d :=
  match h with
  | .non => .non
  | .bl b => .bl b
  | .int i => .int i
  | .str x => .str x
  | .lst e m t => .lst e (zu_ne m (ne_of_none e n)) (DtAll.off' n t)
  | .tup e m t => .tup e (zu_ne m (ne_of_none e n)) (DtAll.off' n t)
theorem DtAll.off' {Z : Addr → Prop} {D : Addr} {H : Hp} (n : H D = none) {vs : List V} {ds : List PyData} (h : DtAll Z H vs ds) : DtAll (Zu Z D) H vs ds :=
  match h with
  | .nil => .nil
  | .cons a b => .cons (Dt.off' n a) (DtAll.off' n b)
end
theorem Dt.off {Z : Addr → Prop} {D : Addr} {H : Hp} {v : V} {d : PyData} (h : Dt Z H v d) (n : H D = none) : Dt (Zu Z D) H v d := Dt.off' n h
theorem Dt.un {Z : Addr → Prop} {D : Addr} {H : Hp} {v : V} {d : PyData} (h : Dt (Zu Z D) H v d) : Dt Z H v d := h.mono fun _ m => .inl m
/-- a comprehension without a test: R tells of each element, I holds of all heaps on the way -/
theorem lc_acc (w : Walk J n G Y) {g : TG} {te : TE} {vs : List Nat} {σ : St} {H1 : Hp} {D : Addr} {Qd : Hp → Prop} (Z : Addr → Prop) (I : Hp → Prop) (R : Nat → V → Hp → Prop)
    (hD : H1 D = none) (zD : ¬ Z D) (i0 : I H1) (iS : ∀ H l, I H → ¬ Z D → I (upd H D (.lst l))) (rS : ∀ i y H H', i < n → R i y H → Fm (Zu Z D) H H' → R i y H') (few : n < sizeLine)
    (hG : ∀ H, Fm Z H1 H → G H)
    (hs : ∀ i x H H' (Qk : V → Hp → Prop), i < n → Fm Z H1 H → I H → (∀ p, H p = none → p ≠ D) → Y i H x H' → (∀ y H4, Fm Z H H4 → I H4 → R i y H4 → Qk y H4) → g x (wipe σ vs) H' fun σ2 H2 => wipe σ2 vs = wipe σ vs ∧ te σ2 H2 Qk)
    (hd : ∀ H xs, Fm Z H1 H → I H → H D = some (.lst xs) → xs.length = n → (∀ j y, xs[j]? = some y → R j y H) → Qd H) :
    ∃ W : Nat → Nat → Hp → Prop, (∃ m, W 0 m (upd H1 D (.lst []))) ∧ ∀ i m H, W i m H →
      (J.stop i H ∧ Qd H) ∨ (J.go i H ∧ ∃ Nx : Hp → Prop, (∀ H', Nx H' → ∃ m', m' < m ∧ W (i + 1) m' H') ∧ ∀ x H', J.yld i H x H' → g x (wipe σ vs) H' fun σ2 H2 => wipe σ2 vs = wipe σ vs ∧ tYes σ2 H2 fun b H3 =>
        if b = true then te σ2 H3 fun y H4 => ∃ acc, H4 D = some (.lst acc) ∧ acc.length < sizeLine ∧ Nx (upd H4 D (.lst (acc ++ [y]))) else Nx H3) := by
  refine lc_it w (fun i H => i ≤ n ∧ Fm Z H1 H ∧ I H ∧ ∃ xs, H D = some (.lst xs) ∧ xs.length = i ∧ ∀ j y, xs[j]? = some y → R j y H) ?_ (fun i H _ p => hG H p.2.1) ?_ ?_
  · exact ⟨Nat.zero_le _, Fm.new hD, iS _ _ i0 zD, [], upd_same, rfl, fun j y e => by simp at e⟩
  · rintro i x H H' hi ⟨_, f, iH, xs, hx, hl, hr⟩ y
    refine hs i x H H' _ hi f iH (fun p m => (ne_of_none hx m).symm) y ?_
    intro y H4 f4 i4 r4
    refine ⟨xs, f4 _ _ hx zD, by omega, by omega, Fm.on (f.trans f4) hD, iS _ _ i4 zD, xs ++ [y], upd_same, by simp [hl], fun j y' e => ?_⟩
    rcases get_snoc e with e | ⟨e1, rfl⟩
    · have hj : j < xs.length := (List.getElem?_eq_some_iff.mp e).1
      exact rS _ _ _ _ (by omega) (rS _ _ _ _ (by omega) (hr j y' e) f4.zu) Fm.at_zu
    · obtain rfl : j = i := by omega
      exact rS _ _ _ _ hi r4 Fm.at_zu
  · rintro H ⟨_, f, iH, xs, hx, hl, hr⟩
    exact hd H xs f iH hx hl hr
end
section
variable {J : It} {n : Nat} {G : Hp → Prop} {Y : Nat → Hp → V → Hp → Prop}
/-- .. whose elements are data -/
theorem lc_dat (w : Walk J n G Y) {g : TG} {te : TE} {vs : List Nat} {σ : St} {H1 : Hp} {D : Addr} {Qd : Hp → Prop} (Z : Addr → Prop) (I : Hp → Prop) (ds : List PyData) (hn : ds.length = n)
    (hD : H1 D = none) (zD : ¬ Z D) (i0 : I H1) (iS : ∀ H l, I H → ¬ Z D → I (upd H D (.lst l))) (few : n < sizeLine)
    (hG : ∀ H, Fm Z H1 H → G H)
    (hs : ∀ i x d H H' (Qk : V → Hp → Prop), ds[i]? = some d → Fm Z H1 H → I H → (∀ p, H p = none → p ≠ D) → Y i H x H' → (∀ y H4, Fm Z H H4 → I H4 → Dt (Zu Z D) H4 y d → Qk y H4) → g x (wipe σ vs) H' fun σ2 H2 => wipe σ2 vs = wipe σ vs ∧ te σ2 H2 Qk)
    (hd : ∀ H xs, Fm Z H1 H → I H → H D = some (.lst xs) → DtAll (Zu Z D) H xs ds → Qd H) :
    ∃ W : Nat → Nat → Hp → Prop, (∃ m, W 0 m (upd H1 D (.lst []))) ∧ ∀ i m H, W i m H →
      (J.stop i H ∧ Qd H) ∨ (J.go i H ∧ ∃ Nx : Hp → Prop, (∀ H', Nx H' → ∃ m', m' < m ∧ W (i + 1) m' H') ∧ ∀ x H', J.yld i H x H' → g x (wipe σ vs) H' fun σ2 H2 => wipe σ2 vs = wipe σ vs ∧ tYes σ2 H2 fun b H3 =>
        if b = true then te σ2 H3 fun y H4 => ∃ acc, H4 D = some (.lst acc) ∧ acc.length < sizeLine ∧ Nx (upd H4 D (.lst (acc ++ [y]))) else Nx H3) := by
  refine lc_acc w Z I (fun i y H => ∀ d, ds[i]? = some d → Dt (Zu Z D) H y d) hD zD i0 iS (fun i y H H' _ r f d e => (r d e).fr f) few hG ?_ ?_
  · intro i x H H' Qk hi f iH ne y q
    have hi2 : i < ds.length := by omega
    refine hs i x ds[i] H H' Qk (List.getElem?_eq_getElem hi2) f iH ne y fun y H4 f4 i4 r4 => q y H4 f4 i4 fun d e => ?_
    rw [List.getElem?_eq_getElem hi2] at e
    cases e
    exact r4
  · intro H xs f iH hx hl hr
    exact hd H xs f iH hx (DtAll.of_get (by omega) fun i v d e1 e2 => hr i v e1 d e2)
/-- .. whose elements are ints -/
theorem lc_ints (w : Walk J n G Y) {g : TG} {te : TE} {vs : List Nat} {σ : St} {H1 : Hp} {D : Addr} {Qd : Hp → Prop} (Z : Addr → Prop) (I : Hp → Prop) (ks : List Int) (hn : ks.length = n)
    (hD : H1 D = none) (zD : ¬ Z D) (i0 : I H1) (iS : ∀ H l, I H → ¬ Z D → I (upd H D (.lst l))) (few : n < sizeLine)
    (hG : ∀ H, Fm Z H1 H → G H)
    (hs : ∀ i x k H H' (Qk : V → Hp → Prop), ks[i]? = some k → Fm Z H1 H → I H → (∀ p, H p = none → p ≠ D) → Y i H x H' → (∀ H4, Fm Z H H4 → I H4 → Qk (.int k) H4) → g x (wipe σ vs) H' fun σ2 H2 => wipe σ2 vs = wipe σ vs ∧ te σ2 H2 Qk)
    (hd : ∀ H, Fm Z H1 H → I H → H D = some (.lst (ks.map V.int)) → Qd H) :
    ∃ W : Nat → Nat → Hp → Prop, (∃ m, W 0 m (upd H1 D (.lst []))) ∧ ∀ i m H, W i m H →
      (J.stop i H ∧ Qd H) ∨ (J.go i H ∧ ∃ Nx : Hp → Prop, (∀ H', Nx H' → ∃ m', m' < m ∧ W (i + 1) m' H') ∧ ∀ x H', J.yld i H x H' → g x (wipe σ vs) H' fun σ2 H2 => wipe σ2 vs = wipe σ vs ∧ tYes σ2 H2 fun b H3 =>
        if b = true then te σ2 H3 fun y H4 => ∃ acc, H4 D = some (.lst acc) ∧ acc.length < sizeLine ∧ Nx (upd H4 D (.lst (acc ++ [y]))) else Nx H3) := by
  refine lc_dat w Z I (ks.map PyData.int) (by simp [hn]) hD zD i0 iS few hG ?_ ?_
  · intro i x d H H' Qk e f iH ne y q
    rw [List.getElem?_map] at e
    obtain ⟨k, e1, rfl⟩ := Option.map_eq_some_iff.mp e
    exact hs i x k H H' Qk e1 f iH ne y fun H4 f4 i4 => q _ H4 f4 i4 (.int k)
  · intro H xs f iH hx t
    exact hd H f iH (by rw [hx, t.ints_eq])
/-- .. whose elements are values that do not depend on the heap -/
theorem lc_vals (w : Walk J n G Y) {g : TG} {te : TE} {vs : List Nat} {σ : St} {H1 : Hp} {D : Addr} {Qd : Hp → Prop} (Z : Addr → Prop) (I : Hp → Prop) (ks : List V) (hn : ks.length = n)
    (hD : H1 D = none) (zD : ¬ Z D) (i0 : I H1) (iS : ∀ H l, I H → ¬ Z D → I (upd H D (.lst l))) (few : n < sizeLine)
    (hG : ∀ H, Fm Z H1 H → G H)
    (hs : ∀ i x k H H' (Qk : V → Hp → Prop), ks[i]? = some k → Fm Z H1 H → I H → (∀ p, H p = none → p ≠ D) → Y i H x H' → (∀ H4, Fm Z H H4 → I H4 → Qk k H4) → g x (wipe σ vs) H' fun σ2 H2 => wipe σ2 vs = wipe σ vs ∧ te σ2 H2 Qk)
    (hd : ∀ H, Fm Z H1 H → I H → H D = some (.lst ks) → Qd H) :
    ∃ W : Nat → Nat → Hp → Prop, (∃ m, W 0 m (upd H1 D (.lst []))) ∧ ∀ i m H, W i m H →
      (J.stop i H ∧ Qd H) ∨ (J.go i H ∧ ∃ Nx : Hp → Prop, (∀ H', Nx H' → ∃ m', m' < m ∧ W (i + 1) m' H') ∧ ∀ x H', J.yld i H x H' → g x (wipe σ vs) H' fun σ2 H2 => wipe σ2 vs = wipe σ vs ∧ tYes σ2 H2 fun b H3 =>
        if b = true then te σ2 H3 fun y H4 => ∃ acc, H4 D = some (.lst acc) ∧ acc.length < sizeLine ∧ Nx (upd H4 D (.lst (acc ++ [y]))) else Nx H3) := by
  refine lc_acc w Z I (fun i y H => ks[i]? = some y) hD zD i0 iS (fun i y H H' _ r f => r) few hG ?_ ?_
  · intro i x H H' Qk hi f iH ne y q
    have hi2 : i < ks.length := by omega
    refine hs i x ks[i] H H' Qk (List.getElem?_eq_getElem hi2) f iH ne y fun H4 f4 i4 => q _ H4 f4 i4 (List.getElem?_eq_getElem hi2)
  · intro H xs f iH hx hl hr
    refine hd H f iH ?_
    rw [hx]
    congr 2
    refine List.ext_getElem? fun i => ?_
    by_cases hi : i < xs.length
    · rw [List.getElem?_eq_getElem hi, hr i xs[i] (List.getElem?_eq_getElem hi)]
    · rw [List.getElem?_eq_none (by omega), List.getElem?_eq_none (by omega)]
end
/-! ### what the written part says of one own exception class -/
structure Cl (K : PySem.W.Frag) (C fI : Addr) (tl : List Value) (newId : String) (fs : List Str) : Prop where
  T : XCls K C fI tl newId
  look : XLook K C
  no : ∀ f ∈ fs, PySem.W.findIn K (.ref C) f = some none
  mro : (PySem.W.clsIn K C).map (·.mro) = some (.ref C :: tl)
  ty : PySem.W.typeIn K (.ref C) = some (.type "type")
theorem cl_of {K : PySem.W.Frag} {C fI : Addr} {tl : List Value} {newId : String} {fs : List Str} (g1 : PySem.W.specialIn K (.builtin "object.__class__") "__get__" = some (some (.builtin "getset_descriptor.__get__"))) (g2 : PySem.W.takesIn K (.builtin "object.__class__") = some true)
    (b : PySem.W.findIn K (.ref C) "__init__" = some (some (.ref fI)))
    (t : (PySem.W.excInitIn K C tl newId, PySem.W.excOver K C tl, PySem.W.hasDictIn K C, PySem.W.isFn K (.ref fI), PySem.W.keepIn K (.ref C)) = (true, true, true, true, true))
    (u : (PySem.W.findIn K (.ref C) "__setattr__", PySem.W.findIn K (.ref C) "__getattribute__", PySem.W.findIn K (.ref C) "__getattr__", PySem.W.findIn K (.ref C) "__class__") =
      (some (some (.builtin "object.__setattr__")), some (some (.builtin "BaseException.__getattribute__")), some none, some (some (.builtin "object.__class__"))))
    (v : (PySem.W.subIn K (.ref C) (.type "BaseException"), PySem.W.mroIn K C (.type "object"), (PySem.W.clsIn K C).map (·.mro), PySem.W.typeIn K (.ref C)) = (some true, some true, some (.ref C :: tl), some (.type "type")))
    (f : fs.map (fun f => PySem.W.findIn K (.ref C) f) = fs.map fun _ => some none) : Cl K C fI tl newId fs := by
  simp only [Prod.mk.injEq] at t u v
  obtain ⟨t1, t2, t3, t4, t5⟩ := t
  obtain ⟨u1, u2, u3, u4⟩ := u
  obtain ⟨v1, v2, v3, v4⟩ := v
  exact ⟨⟨t1, t2, t3, u1, b, t4, t5⟩, ⟨⟨u2, u3, v1, t3⟩, ⟨u2, u3, v1, t3, u4, g1, g2, v2⟩⟩, List.map_inj_left.mp f, v3, v4⟩
/-! ### the types of data; isinstance; integers -/
section
def tyD : PyData → String
  | .none => "NoneType"
  | .bool _ => "bool"
  | .int _ => "int"
  | .str _ => "str"
  | .list _ => "list"
  | .tuple _ => "tuple"
  | _ => "?"
def isInt : PyData → Bool
  | .int _ => true
  | _ => false
def isSeq : PyData → Bool
  | .list _ => true
  | .tuple _ => true
  | _ => false
def itemsD : PyData → List PyData
  | .list ds => ds
  | .tuple ds => ds
  | _ => []
variable {Z : Addr → Prop} {H H' : Hp} {K : PySem.W.Frag}
theorem Dt.ty {v : V} {d : PyData} (h : Dt Z H v d) : TyX K H v (.type (tyD d)) := by
  cases h with
  | non => exact .base .non
  | bl b => exact .base (.bl b)
  | int i => exact .base (.int i)
  | str x => exact .base (.str x)
  | lst e n t => exact .base (.lst e)
  | tup e n t => exact .base (.tup e)
theorem Dt.kInt {v : V} {d : PyData} (h : Dt Z H v d) : PySem.W.kitOne K (.type (tyD d)) (.type "int") = some (isInt d || (tyD d == "bool")) := by
  cases h with
  | non => exact kit_ty (show kitB "NoneType" "int" = some false by decide +kernel)
  | bl b => exact kit_ty (show kitB "bool" "int" = some true by decide +kernel)
  | int i => exact kit_ty (show kitB "int" "int" = some true by decide +kernel)
  | str x => exact kit_ty (show kitB "str" "int" = some false by decide +kernel)
  | lst e n t => exact kit_ty (show kitB "list" "int" = some false by decide +kernel)
  | tup e n t => exact kit_ty (show kitB "tuple" "int" = some false by decide +kernel)
theorem Dt.kBool {v : V} {d : PyData} (h : Dt Z H v d) : PySem.W.kitOne K (.type (tyD d)) (.type "bool") = some (tyD d == "bool") := by
  cases h with
  | non => exact kit_ty (show kitB "NoneType" "bool" = some false by decide +kernel)
  | bl b => exact kit_ty (show kitB "bool" "bool" = some true by decide +kernel)
  | int i => exact kit_ty (show kitB "int" "bool" = some false by decide +kernel)
  | str x => exact kit_ty (show kitB "str" "bool" = some false by decide +kernel)
  | lst e n t => exact kit_ty (show kitB "list" "bool" = some false by decide +kernel)
  | tup e n t => exact kit_ty (show kitB "tuple" "bool" = some false by decide +kernel)
theorem Dt.kStr {v : V} {d : PyData} (h : Dt Z H v d) : PySem.W.kitOne K (.type (tyD d)) (.type "str") = some (tyD d == "str") := by
  cases h with
  | non => exact kit_ty (show kitB "NoneType" "str" = some false by decide +kernel)
  | bl b => exact kit_ty (show kitB "bool" "str" = some false by decide +kernel)
  | int i => exact kit_ty (show kitB "int" "str" = some false by decide +kernel)
  | str x => exact kit_ty (show kitB "str" "str" = some true by decide +kernel)
  | lst e n t => exact kit_ty (show kitB "list" "str" = some false by decide +kernel)
  | tup e n t => exact kit_ty (show kitB "tuple" "str" = some false by decide +kernel)
theorem Dt.kList {v : V} {d : PyData} (h : Dt Z H v d) : PySem.W.kitOne K (.type (tyD d)) (.type "list") = some (tyD d == "list") := by
  cases h with
  | non => exact kit_ty (show kitB "NoneType" "list" = some false by decide +kernel)
  | bl b => exact kit_ty (show kitB "bool" "list" = some false by decide +kernel)
  | int i => exact kit_ty (show kitB "int" "list" = some false by decide +kernel)
  | str x => exact kit_ty (show kitB "str" "list" = some false by decide +kernel)
  | lst e n t => exact kit_ty (show kitB "list" "list" = some true by decide +kernel)
  | tup e n t => exact kit_ty (show kitB "tuple" "list" = some false by decide +kernel)
theorem Dt.kTup {v : V} {d : PyData} (h : Dt Z H v d) : PySem.W.kitOne K (.type (tyD d)) (.type "tuple") = some (tyD d == "tuple") := by
  cases h with
  | non => exact kit_ty (show kitB "NoneType" "tuple" = some false by decide +kernel)
  | bl b => exact kit_ty (show kitB "bool" "tuple" = some false by decide +kernel)
  | int i => exact kit_ty (show kitB "int" "tuple" = some false by decide +kernel)
  | str x => exact kit_ty (show kitB "str" "tuple" = some false by decide +kernel)
  | lst e n t => exact kit_ty (show kitB "list" "tuple" = some false by decide +kernel)
  | tup e n t => exact kit_ty (show kitB "tuple" "tuple" = some true by decide +kernel)
theorem Dt.kSeq {v : V} {d : PyData} (h : Dt Z H v d) : PySem.W.kitAny K (.type (tyD d)) [.type "list", .type "tuple"] = some (isSeq d) := by
  refine kitAny_cons h.kList (fun e => kitAny_cons (h.fr Fm.refl).kTup (fun e2 => ?_) fun e2 => ?_) fun e => ?_
  · cases h <;> first | rfl | (simp [tyD] at e2; done) | (simp [tyD, isInt] at e; done)
  · cases h <;> first | rfl | (simp [tyD] at e2; done)
  · cases h <;> first | rfl | (simp [tyD, isInt] at e; done)
theorem pairedLT : Paired ClsV [.ty "list", .ty "tuple"] [.type "list", .type "tuple"] := .cons (.ty _) (.cons (.ty _) .nil)
theorem Dt.seq {v : V} {d : PyData} (h : Dt Z H v d) (s : isSeq d = true) : ∃ a xs, v = .ref a ∧ DtAll Z H xs (itemsD d) ∧ (H a = some (.lst xs) ∨ H a = some (.tup xs)) ∧ ¬ Z a := by
  cases h with
  | lst e n t => exact ⟨_, _, rfl, t, .inl e, n⟩
  | tup e n t => exact ⟨_, _, rfl, t, .inr e, n⟩
  | non => cases s
  | bl b => cases s
  | int i => cases s
  | str x => cases s
end
section
variable {X : Cx} {tg : Expr}
/-- what is walked is a tracked list or a tuple -/
def iSeq (tl : TE) : TI := fun σ H R => tl σ H fun x H1 => ∃ (a : Addr) (xs : List V) (o : HO), x = .ref a ∧ (o = .lst xs ∨ o = .tup xs) ∧ H1 a = some o ∧ ∀ J, Walk J xs.length (fun H => H a = some o) (YAt xs) → R J H1
theorem pi_seq {l : Expr} {tl : TE} (hl : PE X l tl) : PI X tg l (iSeq tl) := by
  refine ⟨fun pins s σ H R I h => ?_⟩
  refine thn (hl.run pins s σ H _ I h) fun v s1 ⟨x, H1, I1, r1, q1⟩ => ?_
  obtain ⟨a, xs, o, e, ho, ha, q⟩ := q1
  subst e
  cases r1
  rcases ho with rfl | rfl
  · obtain ⟨its, rv, p, hz⟩ := I1.list (SqL.of (K := X.K) ha)
    refine wpAny_pyIter_list p.isList ?_
    refine ⟨s1.heap.objs.size, [s1.heap.objs.size], _, _, H1, rfl, I1.kept (t' := s1.toks) fun b o e => Heap.get?_push_of_some _ e, turn_list a _, ⟨_, Heap.get?_push_size _ rfl, rfl, rfl⟩, fun b hb => ?_, q _ (walk_list.mono (fun H h => SqL.of h) fun _ _ _ _ _ _ y => y)⟩
    have e : b = s1.heap.objs.size := by simpa using hb
    subst e
    exact I1.fpOk (Nat.le_refl _) (I1.hok.fresh (Nat.le_refl _))
  · obtain ⟨its, rv, p, hz⟩ := I1.tuple (SqT.of (K := X.K) ha)
    refine wpAny_pyIter_tuple (show s1.heap.IsTuple a its.toArray from p) ?_
    refine ⟨s1.heap.objs.size, [s1.heap.objs.size], _, _, H1, rfl, I1.kept (t' := s1.toks) fun b o e => Heap.get?_push_of_some _ e, turn_tuple a _, ⟨_, Heap.get?_push_size _ rfl, rfl, rfl⟩, fun b hb => ?_, q _ (walk_tup.mono (fun H h => SqT.of h) fun _ _ _ _ _ _ y => y)⟩
    have e : b = s1.heap.objs.size := by simpa using hb
    subst e
    exact I1.fpOk (Nat.le_refl _) (I1.hok.fresh (Nat.le_refl _))
end
/-! ### the rules over tracked lists and tuples: nothing of the written part is read (serve within comprehensions too) -/
section
/-- a tracked list or tuple -/
def Sq_ (H : Hp) (a : Addr) (xs : List V) : Prop := H a = some (.lst xs) ∨ H a = some (.tup xs)
variable {X : Cx}
def rIxl : R2 := fun x y H Q => ∃ p xs i v, x = .ref p ∧ y = .int i ∧ H p = some (.lst xs) ∧ atI xs i = some v ∧ Q v H
theorem ixl : IxR X rIxl := fun a b c d e f g h i j k l m r ⟨p, xs, n, z, e1, e2, q1, q2, q3⟩ hs => ix_list a b c d e f g h i j k l m r ⟨p, xs, n, z, e1, e2, SqL.of q1, q2, q3⟩ hs
def rIxt : R2 := fun x y H Q => ∃ p xs i v, x = .ref p ∧ y = .int i ∧ H p = some (.tup xs) ∧ atI xs i = some v ∧ Q v H
theorem ixt : IxR X rIxt := fun a b c d e f g h i j k l m r ⟨p, xs, n, z, e1, e2, q1, q2, q3⟩ hs => ix_tup a b c d e f g h i j k l m r ⟨p, xs, n, z, e1, e2, SqT.of q1, q2, q3⟩ hs
def rSll : V → Option Int → Option Int → Hp → VK → Prop := fun x lo hi H Q => ∃ a xs, x = .ref a ∧ H a = some (.lst xs) ∧ ∀ p, H p = none → Q (.ref p) (upd H p (.lst (cutV xs lo hi)))
theorem sll : SlR X rSll := fun a b c d e f g h i j k l m n o p q ⟨a1, xs, e1, h1, q1⟩ => sl_list a b c d e f g h i j k l m n o p q ⟨a1, xs, e1, SqL.of h1, q1⟩
def rSlt : V → Option Int → Option Int → Hp → VK → Prop := fun x lo hi H Q => ∃ a xs, x = .ref a ∧ H a = some (.tup xs) ∧
  ¬ (HT.sIx xs.length 0 lo = 0 ∧ HT.sIx xs.length xs.length hi = xs.length) ∧ ∀ p, H p = none → Q (.ref p) (upd H p (.tup (cutV xs lo hi)))
theorem slt : SlR X rSlt := fun a b c d e f g h i j k l m n o p q ⟨a1, xs, e1, h1, h2, q1⟩ => sl_tup a b c d e f g h i j k l m n o p q ⟨a1, xs, e1, SqT.of h1, h2, q1⟩
theorem lenT : CallR X (.builtin "len") (fun xs H Q => ∃ p ys, xs = [.ref p] ∧ Sq_ H p ys ∧ Q (.int ys.length) H) := fun a b c d e f g h i ⟨p, ys, e1, h1, q⟩ => call_len_seq a b c d e f g h i ⟨p, ys, e1, h1.imp SqL.of SqT.of, q⟩
theorem listT : CallR X (.type "list") (fun xs H Q => ∃ p ys, xs = [.ref p] ∧ Sq_ H p ys ∧ ∀ l, H l = none → Q (.ref l) (upd H l (.lst ys))) := fun a b c d e f g h i ⟨p, ys, e1, h1, q⟩ => call_list_of a b c d e f g h i ⟨p, ys, e1, h1.imp SqL.of SqT.of, q⟩
theorem tupT : CallR X (.type "tuple") (fun xs H Q => ∃ p ys, xs = [.ref p] ∧ ((H p = some (.lst ys) ∧ ∀ l, H l = none → Q (.ref l) (upd H l (.tup ys))) ∨ (H p = some (.tup ys) ∧ Q (.ref p) H))) :=
  fun a b c d e f g h i ⟨p, ys, e1, h1⟩ => call_tuple_of a b c d e f g h i ⟨p, ys, e1, h1.imp (fun z => ⟨SqL.of z.1, z.2⟩) fun z => ⟨SqT.of z.1, z.2⟩⟩
theorem eqD (hu : X.A.units + 64 < cLine) : OpR X (compareOp .Eq) (fun x y H Q => ∃ d e Z Z', Dt Z H x d ∧ Dt Z' H y e ∧ SeqAt.shaped d = true ∧ SeqAt.shaped e = true ∧ Q (.bl (PyData.eqv d e)) H) :=
  fun a b c d e f g h i j k l ⟨d1, e1, Z, Z', h1, h2, h3, h4, q⟩ => op_eqD hu a b c d e f g h i j k l ⟨d1, e1, h1.dp, h2.dp, h3, h4, q⟩
theorem neD (hu : X.A.units + 64 < cLine) : OpR X (compareOp .NotEq) (fun x y H Q => ∃ d e Z Z', Dt Z H x d ∧ Dt Z' H y e ∧ SeqAt.shaped d = true ∧ SeqAt.shaped e = true ∧ Q (.bl (!PyData.eqv d e)) H) :=
  fun a b c d e f g h i j k l ⟨d1, e1, Z, Z', h1, h2, h3, h4, q⟩ => op_neD hu a b c d e f g h i j k l ⟨d1, e1, h1.dp, h2.dp, h3, h4, q⟩
theorem inT : OpR X (compareOp .In) (fun x y H Q => ∃ p xs, y = .ref p ∧ Sq_ H p xs ∧ flatV x = true ∧ xs.all flatV = true ∧ Q (.bl (inV x xs)) H) :=
  fun a b c d e f g h i j k l ⟨p, xs, e1, h1, h2, h3, q⟩ => op_in_seq a b c d e f g h i j k l ⟨p, xs, e1, h1.imp SqL.of SqT.of, h2, h3, q⟩
theorem notInT : OpR X (compareOp .NotIn) (fun x y H Q => ∃ p xs, y = .ref p ∧ Sq_ H p xs ∧ flatV x = true ∧ xs.all flatV = true ∧ Q (.bl (!inV x xs)) H) :=
  fun a b c d e f g h i j k l ⟨p, xs, e1, h1, h2, h3, q⟩ => op_notIn_seq a b c d e f g h i j k l ⟨p, xs, e1, h1.imp SqL.of SqT.of, h2, h3, q⟩
theorem allT (hc : X.calm = true) : CallR X (.builtin "all") (fun vs H Q => ∃ (a : Addr) (bs : List Bool), vs = [V.ref a] ∧ H a = some (.lst (bs.map V.bl)) ∧ Q (.bl (bs.all id)) H) :=
  fun a b c d e f g h i ⟨p, bs, e1, h1, q⟩ => cr_all hc a b c d e f g h i ⟨p, bs, e1, SqL.of h1, q⟩
theorem anyT (hc : X.calm = true) : CallR X (.builtin "any") (fun vs H Q => ∃ (a : Addr) (bs : List Bool), vs = [V.ref a] ∧ H a = some (.lst (bs.map V.bl)) ∧ Q (.bl (bs.any id)) H) :=
  fun a b c d e f g h i ⟨p, bs, e1, h1, q⟩ => cr_any hc a b c d e f g h i ⟨p, bs, e1, SqL.of h1, q⟩
theorem sumT (hc : X.calm = true) : CallR X (.builtin "sum") (fun vs H Q => ∃ (a : Addr) (ns : List Int), vs = [V.ref a] ∧ H a = some (.lst (ns.map V.int)) ∧ Q (.int ns.sum) H) :=
  fun a b c d e f g h i ⟨p, ns, e1, h1, q⟩ => cr_sum hc a b c d e f g h i ⟨p, ns, e1, SqL.of h1, q⟩
def gTupT (n : Nat) (t : TGs) : TG := fun v σ H Q => ∃ a xs, v = .ref a ∧ H a = some (.tup xs) ∧ xs.length = n ∧ t xs σ H Q
theorem pgT {pos : Pos} {es : List Expr} {k : Nat} {t : TGs} {n : Nat} (hc : X.calm = true) (h : PGs X es t)
    (hn : (assignEach es X.env).length = n := by rfl) (hst : (assignEach es X.env).findIdx? (·.1) = none := by rfl) : PG X (.Tuple es k pos) (gTupT n t) :=
  ⟨fun a b c d e f g h1 h2 ⟨p, xs, e1, e2, e3, e4⟩ => (pg_tup hc h hn hst).run a b c d e f g h1 h2 ⟨p, xs, e1, SqT.of e2, e3, e4⟩⟩
def iZipT (ta : TA) : TI := fun σ H R => ta σ H fun vs H1 => ∃ (a b : Addr) (xs ys : List V), vs = [.ref a, .ref b] ∧ H1 a = some (.lst xs) ∧ H1 b = some (.lst ys) ∧
  ∀ J, Walk J (min xs.length ys.length) (fun H => H a = some (.lst xs) ∧ H b = some (.lst ys)) (YPair (fun i => xs[i]?) (fun i => ys[i]?)) → R J H1
def iEnumT (ta : TA) : TI := fun σ H R => ta σ H fun vs H1 => ∃ (a : Addr) (xs : List V), vs = [.ref a] ∧ H1 a = some (.lst xs) ∧
  ∀ J, Walk J xs.length (fun H => H a = some (.lst xs)) (YPair (fun i => some (.int (i : Nat))) (fun i => xs[i]?)) → R J H1
theorem pa_up {es : List Expr} {t : TA} (h : PA X es t) : PA X es (fun σ H Q => ∃ Q', t σ H Q' ∧ ∀ vs H1, Q' vs H1 → Q vs H1) :=
  ⟨fun pos pins s σ H Q I ⟨Q', w, k⟩ => thn (h.run pos pins s σ H Q' I w) fun us s1 ⟨vs, H1, I1, r, q⟩ => ⟨vs, H1, I1, r, k _ _ q⟩⟩
theorem pi_zipT {e e2 : Expr} {ta : TA} {p pos tpos : Pos} {elts : List Expr} {kk : Nat} (hg : Gl X "zip") (hm : X.mg "zip" = none) (ha : PA X [e, e2] ta)
    (hs : starEach [e, e2] X.env = (false, eval e X.env) :: starEach [e2] X.env := by rfl) (hpl : (backTo pos (starEach [e2] X.env)).any (·.1) = false := by rfl) :
    PI X (.Tuple elts kk tpos) (.Call (.Name "zip" p) [e, e2] [] pos) (iZipT ta) :=
  ⟨fun pins s σ H R I h => (pi_zip hg hm (pa_up ha) hs hpl).run pins s σ H R I ⟨_, h, fun vs H1 ⟨a, b, xs, ys, e1, h1, h2, k⟩ => ⟨a, b, xs, ys, e1, SqL.of h1, SqL.of h2, k _ ((walk_zip rfl).mono (fun H z => ⟨SqL.of z.1, SqL.of z.2⟩) fun _ _ _ _ _ _ y => y)⟩⟩⟩
theorem pi_enumT {e : Expr} {ta : TA} {p pos tpos : Pos} {elts : List Expr} {kk : Nat} (hg : Gl X "enumerate") (hm : X.mg "enumerate" = none) (ha : PA X [e] ta) (hs : starEach [e] X.env = [(false, eval e X.env)] := by rfl) :
    PI X (.Tuple elts kk tpos) (.Call (.Name "enumerate" p) [e] [] pos) (iEnumT ta) :=
  ⟨fun pins s σ H R I h => (pi_enum hg hm (pa_up ha) hs).run pins s σ H R I ⟨_, h, fun vs H1 ⟨a, xs, e1, h1, k⟩ => ⟨a, xs, e1, SqL.of h1, k _ (walk_enum.mono (fun H z => SqL.of z) fun _ _ _ _ _ _ y => y)⟩⟩⟩
end
/-! slices of lists -/
theorem cut_from {xs : List V} (i : Nat) : cutV xs (some (i : Int)) none = xs.drop i := by
  unfold cutV
  rw [HT.sIx_nat, HT.sIx_none, List.take_of_length_le (by rw [List.length_drop]; omega)]
  by_cases h : i ≤ xs.length
  · rw [Nat.min_eq_left h]
  · rw [Nat.min_eq_right (by omega), List.drop_eq_nil_of_le (Nat.le_refl _), List.drop_eq_nil_of_le (by omega)]
theorem cut_to {xs : List V} (i : Nat) : cutV xs none (some (i : Int)) = xs.take i := by
  unfold cutV
  rw [HT.sIx_nat, HT.sIx_none, List.drop_zero, Nat.sub_zero]
  by_cases h : i ≤ xs.length
  · rw [Nat.min_eq_left h]
  · rw [Nat.min_eq_right (by omega), List.take_of_length_le (Nat.le_refl _), List.take_of_length_le (by omega)]
theorem cut_last {xs : List V} : cutV xs none (some (-1)) = xs.dropLast := by
  unfold cutV
  have : HT.sIx xs.length xs.length (some (-1)) = xs.length - 1 := by
    show (if (-1 : Int) < 0 then ((-1 : Int) + (xs.length : Int)).toNat else min (-1 : Int).toNat xs.length) = xs.length - 1
    rw [if_pos (by decide)]
    omega
  rw [this, HT.sIx_none (xs.length) 0, List.drop_zero, Nat.sub_zero, List.dropLast_eq_take]
theorem cut_all {xs : List V} : cutV xs none none = xs := by
  unfold cutV
  rw [HT.sIx_none, HT.sIx_none, List.drop_zero, Nat.sub_zero, List.take_of_length_le (Nat.le_refl _)]
theorem cut_one {xs : List V} : cutV xs (some 1) none = xs.drop 1 := cut_from 1
/-! what may be compared -/
def Shp (n : Nat) (d : PyData) : Prop := d.canLay0 = true ∧ d.depth ≤ n
theorem Shp.ok {n : Nat} {d : PyData} (h : Shp n d) (z : n ≤ 64 := by decide) : SeqAt.shaped d = true := by
  show (d.canLay0 && decide (d.depth ≤ 64)) = true
  rw [h.1, Bool.true_and]
  exact decide_eq_true (Nat.le_trans h.2 z)
theorem shp_all {n : Nat} : ∀ {ds : List PyData}, (∀ d ∈ ds, Shp n d) → PyData.canLayAll0 ds = true ∧ PyData.depthAll ds ≤ n
  | [], _ => ⟨by simp [PyData.canLayAll0], by simp [PyData.depthAll]⟩
  | d :: ds, h => by
    obtain ⟨a1, a2⟩ := h d List.mem_cons_self
    obtain ⟨b1, b2⟩ := shp_all (ds := ds) fun x hx => h x (List.mem_cons_of_mem _ hx)
    exact ⟨by simp [PyData.canLayAll0, a1, b1], by simp only [PyData.depthAll]; omega⟩
theorem shp_list {n : Nat} {ds : List PyData} (h : ∀ d ∈ ds, Shp n d) : Shp (n + 1) (.list ds) := by
  obtain ⟨a, b⟩ := shp_all h
  exact ⟨by simp [PyData.canLay0, a], by simp only [PyData.depth]; omega⟩
theorem shp_tup {n : Nat} {ds : List PyData} (h : ∀ d ∈ ds, Shp n d) : Shp (n + 1) (.tuple ds) := by
  obtain ⟨a, b⟩ := shp_all h
  exact ⟨by simp [PyData.canLay0, a], by simp only [PyData.depth]; omega⟩
theorem shp_int {i : Int} : Shp 0 (.int i) := ⟨by simp [PyData.canLay0], by simp [PyData.depth]⟩
theorem shp_bool {i : Bool} : Shp 0 (.bool i) := ⟨by simp [PyData.canLay0], by simp [PyData.depth]⟩
theorem shp_none : Shp 0 .none := ⟨by simp [PyData.canLay0], by simp [PyData.depth]⟩
theorem Shp.mono {n m : Nat} {d : PyData} (h : Shp n d) (z : n ≤ m) : Shp m d := ⟨h.1, Nat.le_trans h.2 z⟩
def dRow (r : List Int) : PyData := .list (r.map PyData.int)
def dTab (M : List (List Int)) : PyData := .list (M.map dRow)
theorem shp_row (r : List Int) : Shp 1 (dRow r) := shp_list fun d hd => by
  obtain ⟨i, _, rfl⟩ := List.mem_map.mp hd
  exact shp_int
theorem shp_tab (M : List (List Int)) : Shp 2 (dTab M) := shp_list fun d hd => by
  obtain ⟨r, _, rfl⟩ := List.mem_map.mp hd
  exact shp_row r
theorem eqv_nil (ds : List PyData) : PyData.eqv (.list ds) (.list []) = ds.isEmpty := by
  cases ds <;> simp [PyData.eqv, PyData.eqvAll]
/-! elements told one by one -/
theorem choose_list {α : Type} {R : V → α → Prop} : ∀ (xs : List V), (∀ (j : Nat) (y : V), xs[j]? = some y → ∃ m, R y m) → ∃ ms : List α, ms.length = xs.length ∧ ∀ (j : Nat) (y : V) (m : α), xs[j]? = some y → ms[j]? = some m → R y m
  | [], _ => ⟨[], rfl, fun j y m e _ => by simp at e⟩
  | x :: xs, h => by
    obtain ⟨m, hm⟩ := h 0 x rfl
    obtain ⟨ms, hl, hr⟩ := choose_list xs fun j y e => h (j + 1) y (by rw [List.getElem?_cons_succ]; exact e)
    refine ⟨m :: ms, by simp [hl], fun j y m' e1 e2 => ?_⟩
    cases j with
    | zero =>
      simp at e1 e2
      subst e1 e2
      exact hm
    | succ j =>
      rw [List.getElem?_cons_succ] at e1 e2
      exact hr j y m' e1 e2
theorem mem_of_pair {α : Type} {R : V → α → Prop} {xs : List V} {ms : List α} (hl : ms.length = xs.length) (h : ∀ (j : Nat) (y : V) (m : α), xs[j]? = some y → ms[j]? = some m → R y m) {m : α} (hm : m ∈ ms) : ∃ y ∈ xs, R y m := by
  obtain ⟨j, hj, e⟩ := List.getElem_of_mem hm
  have hj2 : j < xs.length := by omega
  exact ⟨xs[j], List.getElem_mem hj2, h j _ _ (List.getElem?_eq_getElem hj2) (by rw [List.getElem?_eq_getElem hj, e])⟩
/-- a list of ints told one by one -/
theorem ints_of {p : Int → Prop} {xs : List V} (h : ∀ (j : Nat) (y : V), xs[j]? = some y → ∃ k, y = .int k ∧ p k) : ∃ ks : List Int, xs = ks.map V.int ∧ ks.length = xs.length ∧ ∀ k ∈ ks, p k := by
  obtain ⟨ks, hl, hr⟩ := choose_list (R := fun y k => y = .int k ∧ p k) xs h
  refine ⟨ks, ?_, hl, fun k hk => ?_⟩
  · refine List.ext_getElem (by simp [hl]) fun i h1 h2 => ?_
    rw [List.getElem_map]
    exact (hr i xs[i] _ (List.getElem?_eq_getElem h1) (List.getElem?_eq_getElem (by omega))).1
  · obtain ⟨y, _, _, z⟩ := mem_of_pair hl hr hk
    exact z
theorem PoolAt.upd' {H : Hp} {pp D : Addr} {o : HO} (h : PoolAt H pp) (n : D ≠ pp) : PoolAt (upd H D o) pp := by
  obtain ⟨c, s, h0, h1, h2⟩ := h
  exact ⟨c, s, h0, h1, by rw [upd_ne (Ne.symm n)]; exact h2⟩
theorem PoolAt.zp {H : Hp} {pp D : Addr} (h : PoolAt H pp) (n : H D = none) : ¬ Zp pp D := h.ne n
theorem DtAll.set {Z : Addr → Prop} {H : Hp} {vs : List V} {ds : List PyData} (h : DtAll Z H vs ds) {v : V} {d : PyData} (g : Dt Z H v d) {i : Nat} : DtAll Z H (vs.set i v) (ds.set i d) := by
  induction vs generalizing ds i with
  | nil => cases h; exact .nil
  | cons u vs ih =>
    cases h with
    | cons a b =>
      cases i with
      | zero => exact .cons g b
      | succ i => exact .cons a (ih b)
theorem gen {H : Hp} {p : Addr} (o : HO) (n : H p = none) : ∃ H', Same H H' ∧ H' p = some o ∧ upd H p o = H' := ⟨_, Same.new n, upd_same, rfl⟩
theorem cut_two {xs : List V} : cutV xs (some 2) none = xs.drop 2 := cut_from 2
theorem up {H : Hp} {a p : Addr} {o x : HO} (h : H a = some x) (n : H p = none) : (upd H p o) a = some x := Same.new n _ _ h
theorem Dt.up {Z : Addr → Prop} {H : Hp} {p : Addr} {o : HO} {v : V} {d : PyData} (h : Dt Z H v d) (n : H p = none) : Dt Z (upd H p o) v d := h.fr (Fm.new n)
theorem Fm.up {Z : Addr → Prop} {H H1 : Hp} {p : Addr} {o : HO} (f : Fm Z H H1) (n : H1 p = none) : Fm Z H (upd H1 p o) := f.trans (Fm.new n)
theorem PoolAt.fr {H H' : Hp} {p : Addr} (h : PoolAt H p) (e : Fm Z0 H H') : PoolAt H' p := h.same e.same
/-! ### what the top has written, bundle by bundle -/
/-- the class x stands at C, its __init__ is st -/
def CIn (K : PySem.W.Frag) (x q : Str) (st : Stmt) (C : Addr) (tl : List Value) (nw : String) (fs : List Str) : Prop :=
  ∃ fI fd, PySem.W.nsIn K mainGlobals x = some (some (.ref C)) ∧ Fun K "__init__" q st fI fd ∧ Cl K C fI tl nw fs
theorem cin_mk {K : PySem.W.Frag} {x q : Str} {st : Stmt} {C fI : Addr} {tl : List Value} {nw : String} {fs : List Str} {oc : Value} {od an : Option Addr} {osl : Array (Option Value)} {kV doc pm cdv ct : Value}
    (a : PySem.W.nsIn K mainGlobals x = some (some (.ref C))) (b : PySem.W.findIn K (.ref C) "__init__" = some (some (.ref fI)))
    (l : K.lookup fI = some ⟨oc, od, .func (PySem.W.fnOf "__init__" q (defArgs st) (defBody st) (defScope st) .none kV doc pm an cdv ct), osl⟩) (c : PySem.W.codeIn K cdv q = true) (k : PySem.W.keepIn K (.ref fI) = true)
    (g1 : PySem.W.specialIn K (.builtin "object.__class__") "__get__" = some (some (.builtin "getset_descriptor.__get__"))) (g2 : PySem.W.takesIn K (.builtin "object.__class__") = some true)
    (t : (PySem.W.excInitIn K C tl nw, PySem.W.excOver K C tl, PySem.W.hasDictIn K C, PySem.W.isFn K (.ref fI), PySem.W.keepIn K (.ref C)) = (true, true, true, true, true))
    (u : (PySem.W.findIn K (.ref C) "__setattr__", PySem.W.findIn K (.ref C) "__getattribute__", PySem.W.findIn K (.ref C) "__getattr__", PySem.W.findIn K (.ref C) "__class__") =
      (some (some (.builtin "object.__setattr__")), some (some (.builtin "BaseException.__getattribute__")), some none, some (some (.builtin "object.__class__"))))
    (v : (PySem.W.subIn K (.ref C) (.type "BaseException"), PySem.W.mroIn K C (.type "object"), (PySem.W.clsIn K C).map (·.mro), PySem.W.typeIn K (.ref C)) = (some true, some true, some (.ref C :: tl), some (.type "type")))
    (f : fs.map (fun f => PySem.W.findIn K (.ref C) f) = fs.map fun _ => some none) : CIn K x q st C tl nw fs := ⟨fI, _, a, fun_mk l c k, cl_of g1 g2 b t u v f⟩
theorem has_mk {K : PySem.W.Frag} {h : Heap} {mg : Str → Option Value} {x : Str} {st : Stmt} {ps : List Str} {f : Addr} {oc : Value} {od an : Option Addr} {osl : Array (Option Value)} {kV doc pm cdv ct : Value} (X : K.In h) (G : h.Ns mainGlobals mg)
    (b : ∀ (kV doc pm : Value) (an : Option Addr) (cdv ct : Value) (us : List Value), us.length = ps.length → bindArgs (PySem.W.fnOf x x (defArgs st) (defBody st) (defScope st) .none kV doc pm an cdv ct) ⟨us, []⟩ = pure (ps.zip us))
    (a : PySem.W.nsIn K mainGlobals x = some (some (.ref f))) (l : K.lookup f = some ⟨oc, od, .func (PySem.W.fnOf x x (defArgs st) (defBody st) (defScope st) .none kV doc pm an cdv ct), osl⟩) (c : PySem.W.codeIn K cdv x = true) (k : PySem.W.keepIn K (.ref f) = true) : Has K mg x st ps :=
  ⟨f, _, PySem.W.mg_of X G a, (fun_mk (st := st) l c k).binds (ps := ps) b, fun_mk (st := st) l c k⟩
theorem over_mk {K : PySem.W.Frag} {C f : Addr} {nm q : Str} {st : Stmt} {ps : List Str} {oc : Value} {od an : Option Addr} {osl : Array (Option Value)} {kV doc pm cdv ct : Value}
    (b : ∀ (kV doc pm : Value) (an : Option Addr) (cdv ct : Value) (us : List Value), us.length = ps.length → bindArgs (PySem.W.fnOf nm q (defArgs st) (defBody st) (defScope st) .none kV doc pm an cdv ct) ⟨us, []⟩ = pure (ps.zip us))
    (a : PySem.W.findIn K (.ref C) nm = some (some (.ref f))) (l : K.lookup f = some ⟨oc, od, .func (PySem.W.fnOf nm q (defArgs st) (defBody st) (defScope st) .none kV doc pm an cdv ct), osl⟩) (c : PySem.W.codeIn K cdv q = true) (k : PySem.W.keepIn K (.ref f) = true) (i : PySem.W.isFn K (.ref f) = true) :
    ∃ f fd, Meth K C nm f ∧ Fun K nm q st f fd ∧ Binds K fd ps [] :=
  ⟨f, _, ⟨a, i, k⟩, fun_mk (st := st) l c k, (fun_mk (st := st) l c k).binds (ps := ps) b⟩
/-! ### own operators: x op y by a method of the class of x (or of y) -/
section
variable {X : Cx} {CX : CXT} {k : Nat} {f C : Addr} {fd : FuncData} {ps : List Str} {sp : Sp} {E : XK}
/-- what comes back of a kept promise is no NotImplemented -/
theorem back_of {pins : List (Addr × Obj)} {σ : St} {Q : VK} {v : Value} {s' : Shared} (h : EP X pins σ Q v s') : PySem.W.CmpBack (EP X pins σ Q) v s' := by
  have h' := h
  obtain ⟨x, H', I, r, q⟩ := h'
  cases v <;> first | exact h | (exfalso; cases x <;> first | (obtain ⟨t, r⟩ := r; cases r; done) | (cases r; done))
/-- the two are instances of the class at C -/
def rOwn2 (C : Addr) (sp : Sp) (E : XK) : R2 := fun x y H Q => ∃ a b dx dy fs gs, x = .ref a ∧ y = .ref b ∧ H a = some (.ins C dx fs) ∧ H b = some (.ins C dy gs) ∧ sp [.ref a, .ref b] H Q E
theorem op_own2 {op : Operator} (F : FnOk X.prog X.w X.K X.mg X.base CX k f fd ps sp) (hr : Room k X.A) (hb : Binds X.K fd ps []) (hx : Passes CX X E) (hc : PySem.W.selfFirst X.K C = true)
    (hs : PySem.W.findIn X.K (.ref C) (PySem.dunder op.info.2) = some (some (.ref f))) (hf : PySem.W.isFn X.K (.ref f) = true) : OpR X (binaryOp op) (rOwn2 C sp E) := by
  intro pins s σ H x y v u Q I rx ry h
  obtain ⟨a, b, dx, dy, fs, gs, rfl, rfl, ha, hb', hq⟩ := h
  cases rx
  cases ry
  obtain ⟨mA, J, _⟩ := ins_get I.hok ha
  obtain ⟨mB, J', _⟩ := ins_get I.hok hb'
  obtain ⟨od, J, _⟩ := J.look
  obtain ⟨od', J', _⟩ := J'.look
  obtain ⟨m, hF⟩ := I.fr
  exact PySem.W.binop_K hF I.ok.mod.kin J J'.type hc hs hf (wpAny_mono (run_fn (vs := [.ref a, .ref b]) F hr hb .nil hx I (.cons rfl (.cons rfl .nil)) hq) (fun _ _ z => back_of z) fun _ _ z => z)
/-- the right one is an int -/
def rOwnI (C : Addr) (sp : Sp) (E : XK) : R2 := fun x y H Q => ∃ a i dx fs, x = .ref a ∧ y = .int i ∧ H a = some (.ins C dx fs) ∧ sp [.ref a, .int i] H Q E
theorem op_ownI {op : Operator} {fo ro rc : Option Value} (F : FnOk X.prog X.w X.K X.mg X.base CX k f fd ps sp) (hr : Room k X.A) (hb : Binds X.K fd ps []) (hx : Passes CX X E) (hc : PySem.W.selfFirst X.K C = true)
    (hs : PySem.W.findIn X.K (.ref C) (PySem.dunder op.info.2) = some (some (.ref f))) (hf : PySem.W.isFn X.K (.ref f) = true) (hR : PySem.W.findIn X.K (.ref C) (dunderR op.info.2) = some rc) (hp : rc = none ∨ ∃ g : Addr, rc = some (.ref g))
    (h1 : PySem.W.findIn X.K (.type "int") (PySem.dunder op.info.2) = some fo) (h2 : PySem.W.findIn X.K (.type "int") (dunderR op.info.2) = some ro) (hsub : PySem.W.subIn X.K (.type "int") (.ref C) = some false) : OpR X (binaryOp op) (rOwnI C sp E) := by
  intro pins s σ H x y v u Q I rx ry h
  obtain ⟨a, i, dx, fs, rfl, rfl, ha, hq⟩ := h
  cases rx
  obtain ⟨t, rfl⟩ := ry
  obtain ⟨mA, J, _⟩ := ins_get I.hok ha
  obtain ⟨od, J, _⟩ := J.look
  obtain ⟨m, hF⟩ := I.fr
  exact PySem.W.ksp_binT hF I.ok.mod.kin J rfl hc hs hf hR hp h1 h2 hsub (wpAny_mono (run_fn (vs := [.ref a, .int i]) F hr hb .nil hx I (.cons rfl (.cons ⟨t, rfl⟩ .nil)) hq) (fun _ _ z => back_of z) fun _ _ z => z)
/-- -x -/
theorem un_own (F : FnOk X.prog X.w X.K X.mg X.base CX k f fd ps sp) (hr : Room k X.A) (hb : Binds X.K fd ps []) (hx : Passes CX X E)
    (hs : PySem.W.findIn X.K (.ref C) "__neg__" = some (some (.ref f))) (hf : PySem.W.isFn X.K (.ref f) = true) : UnR X (unaryOp .USub) (fun x H Q => ∃ a dx fs, x = .ref a ∧ H a = some (.ins C dx fs) ∧ sp [.ref a] H Q E) := by
  intro pins s σ H x v Q I rx h
  obtain ⟨a, dx, fs, rfl, ha, hq⟩ := h
  cases rx
  obtain ⟨mA, J, _⟩ := ins_get I.hok ha
  obtain ⟨od, J, _⟩ := J.look
  obtain ⟨m, hF⟩ := I.fr
  exact PySem.W.ksp_neg hF I.ok.mod.kin J hs hf (run_fn (vs := [.ref a]) F hr hb .nil hx I (.cons rfl .nil) hq)
/-- x op= y of an own class -/
def rOwnIn (C : Addr) (sp : Sp) (E : XK) : R2 := fun x y H Q => ∃ a dx fs, x = .ref a ∧ H a = some (.ins C dx fs) ∧ sp [.ref a, y] H Q E
theorem op_ownIn {op : Operator} (F : FnOk X.prog X.w X.K X.mg X.base CX k f fd ps sp) (hr : Room k X.A) (hb : Binds X.K fd ps []) (hx : Passes CX X E) (hc : PySem.W.selfFirst X.K C = true)
    (hs : PySem.W.findIn X.K (.ref C) (dunderI op.info.2) = some (some (.ref f))) (hf : PySem.W.isFn X.K (.ref f) = true) : OpR X (inplaceOp op) (rOwnIn C sp E) := by
  intro pins s σ H x y v u Q I rx ry h
  obtain ⟨a, dx, fs, rfl, ha, hq⟩ := h
  cases rx
  obtain ⟨mA, J, _⟩ := ins_get I.hok ha
  obtain ⟨od, J, _⟩ := J.look
  obtain ⟨m, hF⟩ := I.fr
  exact PySem.W.ksp_inplace hF I.ok.mod.kin J hc hs hf (wpAny_mono (run_fn (vs := [.ref a, y]) F hr hb .nil hx I (.cons rfl (.cons ry .nil)) hq) (fun _ _ z => back_of z) fun _ _ z => z)
/-- == < <= > >= by a method of the class of the left one; the right one is an instance of the same class -/
theorem op_cmp2 {op : CmpOp} (F : FnOk X.prog X.w X.K X.mg X.base CX k f fd ps sp) (hr : Room k X.A) (hb : Binds X.K fd ps []) (hx : Passes CX X E)
    (hs : PySem.W.findIn X.K (.ref C) (cmpInfo op).2.1 = some (some (.ref f))) (hf : PySem.W.isFn X.K (.ref f) = true) (ho : compareOp op = richCompare op) : OpR X (compareOp op) (rOwn2 C sp E) := by
  intro pins s σ H x y v u Q I rx ry h
  obtain ⟨a, b, dx, dy, fs, gs, rfl, rfl, ha, hb', hq⟩ := h
  cases rx
  cases ry
  obtain ⟨mA, J, _⟩ := ins_get I.hok ha
  obtain ⟨mB, J', _⟩ := ins_get I.hok hb'
  obtain ⟨od, J, _⟩ := J.look
  obtain ⟨od', J', _⟩ := J'.look
  obtain ⟨m, hF⟩ := I.fr
  rw [ho]
  exact PySem.W.cmp_K hr.units0 hF I.ok.mod.kin J J'.type (by simp [PySem.W.notFirst]) hs hf (wpAny_mono (run_fn (vs := [.ref a, .ref b]) F hr hb .nil hx I (.cons rfl (.cons rfl .nil)) hq) (fun _ _ z => back_of z) fun _ _ z => z)
/-- the right one is a value of the built-in type T -/
def rOwnT (C : Addr) (T : String) (sp : Sp) (E : XK) : R2 := fun x y H Q => ∃ a dx fs, x = .ref a ∧ H a = some (.ins C dx fs) ∧ (∀ u : Value, RelV y u → typeOf u = pure (.type T)) ∧ sp [.ref a, y] H Q E
theorem op_cmpT {op : CmpOp} {T : String} (F : FnOk X.prog X.w X.K X.mg X.base CX k f fd ps sp) (hr : Room k X.A) (hb : Binds X.K fd ps []) (hx : Passes CX X E)
    (hs : PySem.W.findIn X.K (.ref C) (cmpInfo op).2.1 = some (some (.ref f))) (hf : PySem.W.isFn X.K (.ref f) = true) (hn : PySem.W.notFirst X.K C (.type T) = true) (ho : compareOp op = richCompare op) : OpR X (compareOp op) (rOwnT C T sp E) := by
  intro pins s σ H x y v u Q I rx ry h
  obtain ⟨a, dx, fs, rfl, ha, ht, hq⟩ := h
  cases rx
  obtain ⟨mA, J, _⟩ := ins_get I.hok ha
  obtain ⟨od, J, _⟩ := J.look
  obtain ⟨m, hF⟩ := I.fr
  rw [ho]
  exact PySem.W.cmp_K hr.units0 hF I.ok.mod.kin J (PySem.W.Looks.of_pure (ht u ry)) hn hs hf (wpAny_mono (run_fn (vs := [.ref a, y]) F hr hb .nil hx I (.cons rfl (.cons ry .nil)) hq) (fun _ _ z => back_of z) fun _ _ z => z)
end
/-! ### an int to the left, an own instance to the right -/
section
open PySem.W PySem.Calls PyProof.Rows
variable {prog : Program} {w : World} {A : Around} {E : Value → Shared → Prop} {s : Shared} {K : Frag} {x C L f f0 : Addr} {h₀ : Heap} {m : Str → Option Value} {ox : Obj} {od : Option Obj}
theorem binR {op : Operator} {i : Int} {t : Tok} {B : Builtin} {idl : String} {Q : Value → Shared → Prop} (F : Fr h₀ L s.heap m) (X₀ : K.In h₀) (I : InstAt s.heap x ox C od) (hc : selfFirst K C = true)
    (hs : findIn K (.ref C) (PySem.dunder op.info.2) = some (some (.ref f0))) (hr : findIn K (.ref C) (dunderR op.info.2) = some (some (.ref f))) (hf : isFn K (.ref f) = true)
    (fillsI : fillsNumberSlot (.type "int") op.info.2 = pure true) (slot : Slot "int" (PySem.dunder op.info.2) idl) (entry : entryFor table idl = some B) (args : argsOk idl ⟨[.int i t, .ref x], []⟩)
    (g : Meets (B ⟨[.int i t, .ref x], []⟩) (fun _ R s => s.heap.get? x = some ox ∧ R (.ok (.ret .notImplemented)) s)) (hsub : subIn K (.ref C) (.type "int") = some false)
    (h : wpAny (model prog w) A (call (.ref f) [.ref x, .int i t]) (PySem.W.CmpBack Q) E s) : wpAny (model prog w) A (binaryOp op (.int i t) (.ref x)) Q E s := by
  have X := X₀.keeps F.keep
  obtain ⟨cd, rest, hcd, hm⟩ := ksp_first hc
  rcases hi : op.info with ⟨sym, nm'⟩
  rw [hi] at hs hr fillsI slot
  dsimp only at hs hr fillsI slot
  have one := ksp_try X I hr hf h
  have L1 : Looks (model prog w) s.heap (typeOf (.int i t)) (.type "int") := Looks.of_pure rfl
  have L2 : Looks (model prog w) s.heap (typeOf (.ref x)) (.ref C) := I.type
  have L3 : Looks (model prog w) s.heap (fillsNumberSlot (.type "int") nm') true := Looks.of_pure fillsI
  have L4 : Looks (model prog w) s.heap (fillsNumberSlot (.ref C) nm') true := fills_K X hcd hm hs
  have L5 : Looks (model prog w) s.heap (isSubtype (.ref C) (.type "int")) false := looks_subIn X hsub
  have L6 : Looks (model prog w) s.heap (numberSlotInPython (.type "int") nm') false := Looks.of_pure rfl
  have hne : (Value.type "int" == Value.ref C) = false := Bool.eq_false_iff.mpr fun q => by cases beq_iff_eq.mp q
  simp only [binaryOp, hi]
  refine wpAny_holding (wpAny_bind ?_)
  unfold binaryOp1
  refine wpAny_bind (L1.here (wpAny_bind (L2.here (wpAny_bind (L3.here ?_)))))
  simp only [hne, Bool.false_eq_true, if_false]
  refine wpAny_bind (L4.here ?_)
  simp only [Bool.and_self, if_true]
  refine wpAny_bind (L5.here ?_)
  simp only [Bool.false_eq_true, if_false, Bool.not_false, if_true]
  refine wpAny_bind (L6.here ?_)
  simp only [Bool.false_eq_true, if_false, pure_bind]
  refine wpAny_bind (wpAny_tryMethod_declines (typeIs_int s i t) slot (call_meets slot (typeIs_int s i t) entry args g (And.intro I.at_ (And.intro rfl ?_))))
  dsimp only
  refine wpAny_bind (wpAny_mono one (fun r s' hr' => ?_) fun _ _ e => e)
  obtain ⟨v, rfl, hq⟩ := hr'
  exact wpAny_bind (wpAny_rule (wpAny_pure (wpAny_pure hq)))
end
section
variable {X : Cx} {CX : CXT} {k : Nat} {f f0 C : Addr} {fd : FuncData} {ps : List Str} {sp : Sp} {E : XK}
/-- the left one is an int -/
def rOwnR (C : Addr) (sp : Sp) (E : XK) : R2 := fun x y H Q => ∃ a i dx fs, x = .int i ∧ y = .ref a ∧ H a = some (.ins C dx fs) ∧ sp [.ref a, .int i] H Q E
theorem op_ownR {op : Operator} {B : Builtin} {idl : String} (F : FnOk X.prog X.w X.K X.mg X.base CX k f fd ps sp) (hr : Room k X.A) (hb : Binds X.K fd ps []) (hx : Passes CX X E) (hc : PySem.W.selfFirst X.K C = true)
    (hs : PySem.W.findIn X.K (.ref C) (PySem.dunder op.info.2) = some (some (.ref f0))) (hR : PySem.W.findIn X.K (.ref C) (dunderR op.info.2) = some (some (.ref f))) (hf : PySem.W.isFn X.K (.ref f) = true)
    (fillsI : fillsNumberSlot (.type "int") op.info.2 = pure true) (slot : Slot "int" (PySem.dunder op.info.2) idl) (entry : entryFor table idl = some B) (args : ∀ a b : Value, argsOk idl ⟨[a, b], []⟩)
    (g : ∀ (i : Int) (t : Tok) (x C dx : Addr), Meets (B ⟨[.int i t, .ref x], []⟩) (fun _ R s => s.heap.get? x = some (PySem.W.instObj C dx) ∧ R (.ok (.ret .notImplemented)) s)) (hsub : PySem.W.subIn X.K (.ref C) (.type "int") = some false) : OpR X (binaryOp op) (rOwnR C sp E) := by
  intro pins s σ H x y v u Q I rx ry h
  obtain ⟨a, i, dx, fs, rfl, rfl, ha, hq⟩ := h
  obtain ⟨t, rfl⟩ := rx
  cases ry
  obtain ⟨mA, J, _⟩ := ins_get I.hok ha
  obtain ⟨od, J, _⟩ := J.look
  obtain ⟨m, hF⟩ := I.fr
  exact binR hF I.ok.mod.kin J hc hs hR hf fillsI slot entry (args _ _) (g _ _ _ _ _) hsub (wpAny_mono (run_fn (vs := [.ref a, .int i]) F hr hb .nil hx I (.cons rfl (.cons ⟨t, rfl⟩ .nil)) hq) (fun _ _ z => back_of z) fun _ _ z => z)
end
theorem ni_add (i : Int) (t : Tok) (x C dx : Addr) : Meets (Builtin.«int.__add__» ⟨[.int i t, .ref x], []⟩) (fun _ R s => s.heap.get? x = some (PySem.W.instObj C dx) ∧ R (.ok (.ret .notImplemented)) s) :=
  .of_wp fun prog w A R s h => by obtain ⟨hp, g, d, tk, os⟩ := s; obtain ⟨hl, h⟩ := h; wp_walk using wpAny_loadPart' hl, wpAny_load hl; exact ⟨_, rfl, h⟩
theorem ni_sub (i : Int) (t : Tok) (x C dx : Addr) : Meets (Builtin.«int.__sub__» ⟨[.int i t, .ref x], []⟩) (fun _ R s => s.heap.get? x = some (PySem.W.instObj C dx) ∧ R (.ok (.ret .notImplemented)) s) :=
  .of_wp fun prog w A R s h => by obtain ⟨hp, g, d, tk, os⟩ := s; obtain ⟨hl, h⟩ := h; wp_walk using wpAny_loadPart' hl, wpAny_load hl; exact ⟨_, rfl, h⟩
theorem ni_mul (i : Int) (t : Tok) (x C dx : Addr) : Meets (Builtin.«int.__mul__» ⟨[.int i t, .ref x], []⟩) (fun _ R s => s.heap.get? x = some (PySem.W.instObj C dx) ∧ R (.ok (.ret .notImplemented)) s) :=
  .of_wp fun prog w A R s h => by obtain ⟨hp, g, d, tk, os⟩ := s; obtain ⟨hl, h⟩ := h; wp_walk using wpAny_loadPart' hl, wpAny_load hl; exact ⟨_, rfl, h⟩
theorem ni_floordiv (i : Int) (t : Tok) (x C dx : Addr) : Meets (Builtin.«int.__floordiv__» ⟨[.int i t, .ref x], []⟩) (fun _ R s => s.heap.get? x = some (PySem.W.instObj C dx) ∧ R (.ok (.ret .notImplemented)) s) :=
  .of_wp fun prog w A R s h => by obtain ⟨hp, g, d, tk, os⟩ := s; obtain ⟨hl, h⟩ := h; wp_walk using wpAny_loadPart' hl, wpAny_load hl; exact ⟨_, rfl, h⟩
theorem ni_mod (i : Int) (t : Tok) (x C dx : Addr) : Meets (Builtin.«int.__mod__» ⟨[.int i t, .ref x], []⟩) (fun _ R s => s.heap.get? x = some (PySem.W.instObj C dx) ∧ R (.ok (.ret .notImplemented)) s) :=
  .of_wp fun prog w A R s h => by obtain ⟨hp, g, d, tk, os⟩ := s; obtain ⟨hl, h⟩ := h; wp_walk using wpAny_loadPart' hl, wpAny_load hl; exact ⟨_, rfl, h⟩
theorem ni_truediv (i : Int) (t : Tok) (x C dx : Addr) : Meets (Builtin.«int.__truediv__» ⟨[.int i t, .ref x], []⟩) (fun _ R s => s.heap.get? x = some (PySem.W.instObj C dx) ∧ R (.ok (.ret .notImplemented)) s) :=
  .of_wp fun prog w A R s h => by obtain ⟨hp, g, d, tk, os⟩ := s; obtain ⟨hl, h⟩ := h; wp_walk using wpAny_loadPart' hl, wpAny_load hl; exact ⟨_, rfl, h⟩
/-! ### != by the text's own ==: object.__ne__ asks it and turns the answer round -/
section
open PySem.W PySem.Calls
variable {prog : Program} {w : World} {A : Around} {E : Value → Shared → Prop} {s : Shared} {K : Frag} {x C L f : Addr} {h₀ : Heap} {m : Str → Option Value} {ox : Obj} {od : Option Obj} {b : Value}
theorem ne_entry (X : K.In s.heap) (I : InstAt s.heap x ox C od) (he : findIn K (.ref C) "__eq__" = some (some (.ref f))) (hf : isFn K (.ref f) = true) (hu : A.units < cLine) {Q : Fin → Shared → Prop}
    (hcall : wpAny (model prog w) A (call (.ref f) [.ref x, b]) (fun v s' => ∃ r, v = .bool r ∧ Q (.done (.ret (.bool (!r)))) s') E s) :
    wpAny (model prog w) A (Builtin.«object.__ne__» ⟨[.ref x, b], []⟩) Q E s := by
  unfold Builtin.«object.__ne__»
  repeat (first
    | with_reducible refine wpAny_cRoomFor hu ?_
    | (refine wpAny_bind (m := callSpecialIfBound? (.ref x) (Str.ofString "__eq__") [b])
        (ifBound_K X I he hf (wpAny_mono hcall (fun r s' hr => by
          obtain ⟨b, rfl, hq⟩ := hr
          repeat (first | exact hq | exact wpAny_pure hq | exact wpAny_truthy_bool hq | (refine wpAny_bind (m := truthy (.bool _)) (wpAny_truthy_bool ?_)) | wp_step)) fun _ _ e => e)))
    | wp_step)
theorem ifBound_slot {name : Str} {id T : String} {args : List Value} {Q : Option Value → Shared → Prop} (S : PySem.Slot T name id) (X : K.In s.heap) (I : InstAt s.heap x ox C od) (hs : findIn K (.ref C) name = some (some (.builtin id)))
    (h : wpAny (model prog w) A (call (.builtin id) (.ref x :: args)) (fun v => Q (some v)) E s) : wpAny (model prog w) A (callSpecialIfBound? (.ref x) name args) Q E s := by
  simp only [callSpecialIfBound?, bindSpecialIfBound?]
  refine wpAny_holding (wpAny_bind (wpAny_bind (wpAny_bind (I.type.here ((looks_findIn X hs).here ?_)))))
  refine wpAny_bind (wpAny_askSetting (wpAny_ite ?_))
  have fin : wpAny (model prog w) A (call (.builtin id) ([.ref x] ++ args) >>= fun v => pure (some v)) Q E s := wpAny_bind (wpAny_mono h (fun v s' h' => wpAny_pure h') fun _ _ h' => h')
  split
  · rw [S.bind]
    exact wpAny_bind (wpAny_pure (wpAny_pure (by exact fin)))
  · rw [S.bind]
    exact wpAny_tryCatch (wpAny_bind (wpAny_pure (wpAny_pure (by exact fin))))
theorem try_ne {Q : Option Value → Shared → Prop} (X : K.In s.heap) (I : InstAt s.heap x ox C od) (hne : findIn K (.ref C) "__ne__" = some (some (.builtin "object.__ne__"))) (hob : subIn K (.ref C) (.type "object") = some true)
    (he : findIn K (.ref C) "__eq__" = some (some (.ref f))) (hf : isFn K (.ref f) = true) (hu : A.in1.units < cLine)
    (hcall : wpAny (model prog w) A.in1 (call (.ref f) [.ref x, b]) (fun v s' => ∃ r, v = .bool r ∧ Q (some (.bool (!r))) s') E s) : wpAny (model prog w) A (tryCompare (.ref x) "__ne__" b) Q E s := by
  unfold tryCompare
  refine wpAny_bind (ifBound_slot F.cmp_object.ne X I hne (wpAny_call (codeAny_call_builtin F.cmp_object.ne.plain F.cmpEntry_ne (PySem.W.check_slot F.cmpKind_ne F.cmpSplit_ne (I.type.andThen (looks_subIn X hob)) (F.cmpArgs_ne _ _)
    (ne_entry X I he hf hu (wpAny_mono hcall (fun v s' hv => ?_) fun _ _ e => e))))))
  obtain ⟨r, rfl, hq⟩ := hv
  exact ⟨r, rfl, wpAny_pure hq⟩
/-- != with any right side whose type is no subclass -/
theorem ne_K {tb : Value} {Q : Value → Shared → Prop} (hu : A.in1.units < cLine) (hu0 : A.units < cLine) (X : K.In s.heap) (I : InstAt s.heap x ox C od) (hb : Looks (model prog w) s.heap (typeOf b) tb) (hn : notFirst K C tb = true)
    (hne : findIn K (.ref C) "__ne__" = some (some (.builtin "object.__ne__"))) (hob : subIn K (.ref C) (.type "object") = some true) (he : findIn K (.ref C) "__eq__" = some (some (.ref f))) (hf : isFn K (.ref f) = true)
    (hcall : wpAny (model prog w) A.in1 (call (.ref f) [.ref x, b]) (fun v s' => ∃ r, v = .bool r ∧ Q (.bool (!r)) s') E s) : wpAny (model prog w) A (richCompare .NotEq (.ref x) b) Q E s := by
  have one : wpAny (model prog w) A (tryCompare (.ref x) "__ne__" b) (fun r s' => ∃ v, r = some v ∧ Q v s') E s :=
    try_ne X I hne hob he hf hu (wpAny_mono hcall (fun v s' hv => by obtain ⟨r, e, q⟩ := hv; exact ⟨r, e, _, rfl, q⟩) fun _ _ e => e)
  unfold richCompare
  simp only [oneThing_ref]
  refine wpAny_holding (wpAny_bind (wpAny_cRoomFor hu0 ?_))
  refine wpAny_bind (I.type.here (wpAny_bind (hb.here ?_)))
  rw [cmpInfo_NotEq]
  split
  · rename_i q
    have e : subIn K tb (.ref C) = some false := by
      rcases Bool.or_eq_true_iff.mp hn with e | e
      · rw [beq_iff_eq.mp e] at q; simp at q
      · exact beq_iff_eq.mp e
    refine wpAny_bind ((looks_subIn X e).here ?_)
    simp only [Bool.false_eq_true, if_false]
    refine wpAny_bind (wpAny_mono one (fun r s' z => ?_) fun _ _ e => e)
    obtain ⟨v, rfl, hq⟩ := z
    exact wpAny_pure hq
  · refine wpAny_bind (wpAny_pure ?_)
    simp only [Bool.false_eq_true, if_false]
    refine wpAny_bind (wpAny_mono one (fun r s' z => ?_) fun _ _ e => e)
    obtain ⟨v, rfl, hq⟩ := z
    exact wpAny_pure hq
end
section
variable {X : Cx} {CX : CXT} {k : Nat} {f C : Addr} {fd : FuncData} {ps : List Str} {sp : Sp} {E : XK}
/-- a promise kept one builtin further in -/
theorem run_in1 {pins : List (Addr × Obj)} {σ : St} {H : Hp} {s : Shared} {Q : VK} {us : List Value} {vs : List V} (F : FnOk X.prog X.w X.K X.mg X.base CX k f fd ps sp) (hr : Room (k + 1) X.A) (hb : Binds X.K fd ps []) (hx : Passes CX X E)
    (I : Inv X pins σ H s) (r : Vals vs us) (h : sp vs H Q E) : wpAny (model X.prog X.w) X.A.in1 (call (.ref f) us) (EP X pins σ Q) X.xe s := by
  have hl : (us ++ []).length = ps.length := by
    rw [List.append_nil, ← F.len _ _ _ _ h]
    exact r.length.symm
  refine wpAny_call (codeAny_mono (F.run X.A.in1 X.stack s H ⟨us, []⟩ us vs Q E hr.in1 I.env0.in1 (by simpa using hb s us I.kIn hl) r h) fun r s' hq => ?_)
  cases r with
  | error er => exact hx pins σ H s er s' I hq
  | ok fl =>
    cases fl with
    | ret u => exact I.after hq
    | next => exact False.elim hq
    | brk => exact False.elim hq
    | cont => exact False.elim hq
/-- what is asked of a class whose != is object's -/
structure NeC (K : PySem.W.Frag) (C f : Addr) : Prop where
  ne : PySem.W.findIn K (.ref C) "__ne__" = some (some (.builtin "object.__ne__"))
  ob : PySem.W.subIn K (.ref C) (.type "object") = some true
  eq : PySem.W.findIn K (.ref C) "__eq__" = some (some (.ref f))
  fn : PySem.W.isFn K (.ref f) = true
/-- the answer turned round -/
def rNotV (Q : VK) : VK := fun v H' => ∃ r, v = .bl r ∧ Q (.bl (!r)) H'
theorem not_back {pins : List (Addr × Obj)} {σ : St} {Q : VK} {v : Value} {s' : Shared} (h : EP X pins σ (rNotV Q) v s') : ∃ r, v = .bool r ∧ EP X pins σ Q (.bool (!r)) s' := by
  obtain ⟨x, H', I, r, b, e, q⟩ := h
  subst e
  cases r
  exact ⟨b, rfl, .bl (!b), H', I, rfl, q⟩
theorem op_ne2 (N : NeC X.K C f) (F : FnOk X.prog X.w X.K X.mg X.base CX k f fd ps sp) (hr : Room (k + 1) X.A) (hb : Binds X.K fd ps []) (hx : Passes CX X E) :
    OpR X (compareOp .NotEq) (fun x y H Q => ∃ a b dx dy fs gs, x = .ref a ∧ y = .ref b ∧ H a = some (.ins C dx fs) ∧ H b = some (.ins C dy gs) ∧ sp [.ref a, .ref b] H (rNotV Q) E) := by
  intro pins s σ H x y v u Q I rx ry h
  obtain ⟨a, b, dx, dy, fs, gs, rfl, rfl, ha, hb', hq⟩ := h
  cases rx
  cases ry
  obtain ⟨mA, J, _⟩ := ins_get I.hok ha
  obtain ⟨mB, J', _⟩ := ins_get I.hok hb'
  obtain ⟨od, J, _⟩ := J.look
  obtain ⟨od', J', _⟩ := J'.look
  show wpAny _ _ (richCompare .NotEq _ _) _ _ _
  exact ne_K hr.in1.units0 (hr.mono (Nat.le_succ _)).units0 I.kIn J J'.type (by simp [PySem.W.notFirst]) N.ne N.ob N.eq N.fn (wpAny_mono (run_in1 (vs := [.ref a, .ref b]) F hr hb hx I (.cons rfl (.cons rfl .nil)) hq) (fun _ _ z => not_back z) fun _ _ z => z)
theorem op_neT {T : String} (N : NeC X.K C f) (F : FnOk X.prog X.w X.K X.mg X.base CX k f fd ps sp) (hr : Room (k + 1) X.A) (hb : Binds X.K fd ps []) (hx : Passes CX X E) (hn : PySem.W.notFirst X.K C (.type T) = true) :
    OpR X (compareOp .NotEq) (fun x y H Q => ∃ a dx fs, x = .ref a ∧ H a = some (.ins C dx fs) ∧ (∀ u : Value, RelV y u → typeOf u = pure (.type T)) ∧ sp [.ref a, y] H (rNotV Q) E) := by
  intro pins s σ H x y v u Q I rx ry h
  obtain ⟨a, dx, fs, rfl, ha, ht, hq⟩ := h
  cases rx
  obtain ⟨mA, J, _⟩ := ins_get I.hok ha
  obtain ⟨od, J, _⟩ := J.look
  show wpAny _ _ (richCompare .NotEq _ _) _ _ _
  exact ne_K hr.in1.units0 (hr.mono (Nat.le_succ _)).units0 I.kIn J (PySem.W.Looks.of_pure (ht u ry)) hn N.ne N.ob N.eq N.fn (wpAny_mono (run_in1 (vs := [.ref a, y]) F hr hb hx I (.cons rfl (.cons ry .nil)) hq) (fun _ _ z => not_back z) fun _ _ z => z)
/-! ### a tuple or a list to the right -/
theorem op_eqRef {op : CmpOp} {T : String} (F : FnOk X.prog X.w X.K X.mg X.base CX k f fd ps sp) (hr : Room k X.A) (hb : Binds X.K fd ps []) (hx : Passes CX X E)
    (hs : PySem.W.findIn X.K (.ref C) (cmpInfo op).2.1 = some (some (.ref f))) (hf : PySem.W.isFn X.K (.ref f) = true) (hn : PySem.W.notFirst X.K C (.type T) = true) (ho : compareOp op = richCompare op) :
    OpR X (compareOp op) (fun x y H Q => ∃ a b dx fs, x = .ref a ∧ y = .ref b ∧ H a = some (.ins C dx fs) ∧ (∀ h : Heap, HOk X.prog X.w H h → ∃ o : Obj, h.get? b = some o ∧ o.cls = .type T) ∧ sp [.ref a, .ref b] H Q E) := by
  intro pins s σ H x y v u Q I rx ry h
  obtain ⟨a, b, dx, fs, rfl, rfl, ha, ht, hq⟩ := h
  cases rx
  cases ry
  obtain ⟨mA, J, _⟩ := ins_get I.hok ha
  obtain ⟨od, J, _⟩ := J.look
  obtain ⟨m, hF⟩ := I.fr
  obtain ⟨o, g, c⟩ := ht _ I.hok
  rw [ho]
  have Lb : PySem.W.Looks (model X.prog X.w) s.heap (typeOf (.ref b)) (.type T) := by
    exact c ▸ (PySem.W.Looks.ld g).andThen .now
  exact PySem.W.cmp_K hr.units0 hF I.ok.mod.kin J Lb hn hs hf (wpAny_mono (run_fn (vs := [.ref a, .ref b]) F hr hb .nil hx I (.cons rfl (.cons rfl .nil)) hq) (fun _ _ z => back_of z) fun _ _ z => z)
end
section
variable {X : Cx} {CX : CXT} {k : Nat} {f C : Addr} {fd : FuncData} {ps : List Str} {sp : Sp} {E : XK} {a b : Expr} {ta tb : TE} {pos : Pos}
/-- a[b], a an instance of an own class with __getitem__ -/
def rIxOwn (C : Addr) (sp : Sp) (E : XK) : R2 := fun x y H Q => ∃ a dx fs, x = .ref a ∧ H a = some (.ins C dx fs) ∧ sp [.ref a, y] H Q E
theorem pe_ixOwn (ha : PE X a ta) (hb : PE X b tb) (F : FnOk X.prog X.w X.K X.mg X.base CX k f fd ps sp) (hr : Room (k + 1) X.A) (hbi : Binds X.K fd ps []) (hx : Passes CX X E)
    (hs : PySem.W.findIn X.K (.ref C) "__getitem__" = some (some (.ref f))) (hf : PySem.W.fnIn X.K f = true) (hfn : PySem.W.isFn X.K (.ref f) = true)
    (hsl : ∀ v u : Value, subscripted b true v u = runValue (.builtin "lifetime.subscript" ⟨[v, u], []⟩) := by intro _ _; with_unfolding_all rfl) : PE X (.Subscript a b pos) (tOp (rIxOwn C sp E) ta tb) := by
  refine ⟨fun pins s σ H Q I h => ?_⟩
  refine PyProof.Rows.Subscript_ (binT ha hb I h fun v u s2 x y H2 I2 rx ry q => ?_)
  obtain ⟨z, dx, fs, rfl, hz, hq⟩ := q
  cases rx
  obtain ⟨mA, J, _⟩ := ins_get I2.hok hz
  obtain ⟨od, J, _⟩ := J.look
  obtain ⟨m, hF⟩ := I2.fr
  exact PySem.W.sub_K hF I2.ok.mod.kin J hs hf hfn (run_in1 (vs := [.ref z, y]) F hr hbi hx I2 (.cons rfl (.cons ry .nil)) hq) (hsl _ _)
end
/-! ### own classes: a method, a property, a class of errors as the top leaves them (gathered from k12) -/
section
variable {P : Program} {w : World} {K : PySem.W.Frag} {mg : Str → Option Value} {base : Heap} {C : Addr}
/-- an own method that nothing leaves but a value -/
def OwnM (P : Program) (w : World) (K : PySem.W.Frag) (mg : Str → Option Value) (base : Heap) (C : Addr) (k : Nat) (nm : Str) (ps : List Str) (sp : Sp) : Prop :=
  ∃ f fd, PySem.W.findIn K (.ref C) nm = some (some (.ref f)) ∧ PySem.W.isFn K (.ref f) = true ∧ Binds K fd ps [] ∧ FnOk P w K mg base (L2.CX P w) k f fd ps sp
/-- a property of an own class -/
def OwnP (P : Program) (w : World) (K : PySem.W.Frag) (mg : Str → Option Value) (base : Heap) (C : Addr) (k : Nat) (nm : Str) (sp : Sp) : Prop :=
  ∃ p g fd, PropOf K C nm p g ∧ Binds K fd ["self"] [] ∧ FnOk P w K mg base (L2.CX P w) k g fd ["self"] sp
theorem pe_propO {X : Cx} {k : Nat} {sp : Sp} {E : XK} {f : Str} {e : Expr} {pos : Pos} {ta : TE} (he : PE X e ta) (c : Cls X.K C) (m : OwnP X.prog X.w X.K X.mg X.base C k f sp) (hr : Room (k + 1) X.A) (hx : Passes (L2.CX X.prog X.w) X.nox E) (hab : attributeBase e f X.env (eval e X.env) = eval e X.env := by rfl) : PE X (.Attribute e f pos) (tProp C sp [] E ta) := by
  obtain ⟨p, g, fd, hp, hb, F⟩ := m
  exact pe_prop he c hp F hr hb .nil hx hab
theorem op_own2O {X : Cx} {k : Nat} {ps : List Str} {sp : Sp} {E : XK} {op : Operator} (m : OwnM X.prog X.w X.K X.mg X.base C k (PySem.dunder op.info.2) ps sp) (hr : Room k X.A) (hx : Passes (L2.CX X.prog X.w) X E) (hc : PySem.W.selfFirst X.K C = true) : OpR X (binaryOp op) (rOwn2 C sp E) := by
  obtain ⟨f, fd, hs, hf, hb, F⟩ := m
  exact op_own2 F hr hb hx hc hs hf
theorem op_cmp2O {X : Cx} {k : Nat} {ps : List Str} {sp : Sp} {E : XK} {op : CmpOp} (m : OwnM X.prog X.w X.K X.mg X.base C k (cmpInfo op).2.1 ps sp) (hr : Room k X.A) (hx : Passes (L2.CX X.prog X.w) X E) (ho : compareOp op = richCompare op) : OpR X (compareOp op) (rOwn2 C sp E) := by
  obtain ⟨f, fd, hs, hf, hb, F⟩ := m
  exact op_cmp2 F hr hb hx hs hf ho
/-- the class's != is object's -/
structure NeO (K : PySem.W.Frag) (C : Addr) : Prop where
  ne : PySem.W.findIn K (.ref C) "__ne__" = some (some (.builtin "object.__ne__"))
  ob : PySem.W.subIn K (.ref C) (.type "object") = some true
theorem op_ne2O {X : Cx} {k : Nat} {ps : List Str} {sp : Sp} {E : XK} (N : NeO X.K C) (m : OwnM X.prog X.w X.K X.mg X.base C k "__eq__" ps sp) (hr : Room (k + 1) X.A) (hx : Passes (L2.CX X.prog X.w) X E) :
    OpR X (compareOp .NotEq) (fun x y H Q => ∃ a b dx dy fs gs, x = .ref a ∧ y = .ref b ∧ H a = some (.ins C dx fs) ∧ H b = some (.ins C dy gs) ∧ sp [.ref a, .ref b] H (rNotV Q) E) := by
  obtain ⟨f, fd, hs, hf, hb, F⟩ := m
  exact op_ne2 ⟨N.ne, N.ob, hs, hf⟩ F hr hb hx
/-- a method called by its name -/
def OwnMeth (P : Program) (w : World) (K : PySem.W.Frag) (mg : Str → Option Value) (base : Heap) (C : Addr) (k : Nat) (nm : Str) (ps : List Str) (sp : Sp) : Prop :=
  ∃ f fd, Meth K C nm f ∧ Binds K fd ps [] ∧ FnOk P w K mg base (L2.CX P w) k f fd ps sp
theorem pe_methO {X : Cx} {C : Addr} {k : Nat} {m : Str} {ps : List Str} {sp : Sp} {E : XK} {o e : Expr} {es : List Expr} {apos pos : Pos} {pl : Sem Bool} {ta : TE} {t : TA} (he : PE X o ta) (c : Cls X.K C) (mm : OwnMeth X.prog X.w X.K X.mg X.base C k m ps sp) (hr : Room k X.A) (hx : Passes (L2.CX X.prog X.w) X E) (ha : PA X (e :: es) t)
    (hst : starEach (e :: es) X.env = (false, eval e X.env) :: starEach es X.env := by rfl) (hpl : (backTo pos (starEach es X.env)).any (·.1) = false := by rfl)
    (ht : eval (.Call (.Attribute o m apos) (e :: es) [] pos) X.env = (do
      let ov ← eval o X.env
      standAt apos.atName
      let (f, first) ← holding [ov] (getMethod ov m pl)
      callWith pos f first (backTo pos (starEach (e :: es) X.env)) (backToKw pos (keywordEach [] X.env))) := by rfl) : PE X (.Call (.Attribute o m apos) (e :: es) [] pos) (tMeth C m sp [] E ta t) := by
  obtain ⟨f, fd, hm, hb, F⟩ := mm
  exact pe_meth (pl := pl) he c hm F hr hb .nil hx ha hst hpl ht
/-- whether a value is an integer -/
def IntV (K : PySem.W.Frag) (H : Hp) (v : V) (b : Bool) : Prop := (∃ i, v = .int i ∧ b = true) ∨ (∃ x, v = .bl x ∧ b = false) ∨ (∃ t, TyX K H v t ∧ PySem.W.kitOne K t (.type "int") = some false ∧ b = false)
theorem kBoolInt {K : PySem.W.Frag} : PySem.W.kitOne K (.type "bool") (.type "int") = some true := kit_ty (show kitB "bool" "int" = some true by decide +kernel)
theorem kBoolBool {K : PySem.W.Frag} : PySem.W.kitOne K (.type "bool") (.type "bool") = some true := kit_ty (show kitB "bool" "bool" = some true by decide +kernel)
/-- a def of the text, its errors told -/
def OkX (P : Program) (w : World) (K : PySem.W.Frag) (mg : Str → Option Value) (base : Heap) (k : Nat) (x : Str) (ps : List Str) (sp : Sp) : Prop :=
  ∃ f fd, mg x = some (.ref f) ∧ PySem.W.keepIn K (.ref f) = true ∧ Binds K fd ps [] ∧ FnOk P w K mg base (L2.CX P w) k f fd ps sp
theorem pe_cX {X : Cx} {k : Nat} {x : Str} {ps : List Str} {sp : Sp} {p pos : Pos} {e : Expr} {es : List Expr} {t : TA} {E : XK} (o : OkX X.prog X.w X.K X.mg X.base k x ps sp) (hr : Room k X.A) (hx : Passes (L2.CX X.prog X.w) X E) (hg : Gl X x)
    (ha : PA X (e :: es) t) (hdb : (x == ("__debug__" : Str)) = false := by decide) (he : starEach (e :: es) X.env = (false, eval e X.env) :: starEach es X.env := by rfl) (hpl : (backTo pos (starEach es X.env)).any (·.1) = false := by rfl) :
    PE X (.Call (.Name x p) (e :: es) [] pos) (tCall sp [] E t) := by
  obtain ⟨f, fd, g, kp, b, G⟩ := o
  exact pe_call G hr hg g kp b .nil hx ha hdb he hpl
/-- a method as the top leaves it -/
def MFun (K : PySem.W.Frag) (C : Addr) (nm qual : Str) (st : Stmt) (ps : List Str) : Prop := ∃ f fd, PySem.W.findIn K (.ref C) nm = some (some (.ref f)) ∧ PySem.W.isFn K (.ref f) = true ∧ Fun K nm qual st f fd ∧ Binds K fd ps []
def PFun (K : PySem.W.Frag) (C : Addr) (nm qual : Str) (st : Stmt) : Prop := ∃ p g fd, PropOf K C nm p g ∧ Fun K nm qual st g fd ∧ Binds K fd ["self"] []
abbrev XValue (P : Program) (w : World) (K : PySem.W.Frag) (mg : Str → Option Value) (base : Heap) (x : Str) (CI : Addr) : Prop := XRz P w K mg base x CI 1 (sp1n "value" CI)
theorem new_same {H : Hp} {x dx : Addr} {o : HO} (hx : H x = none) (hd : H dx = none) : Same H (upd (upd H dx (.own x)) x o) := fun b u e => by
  rw [upd_ne (ne_of_none e hx), upd_ne (ne_of_none e hd)]
  exact e
theorem un_ownO {X : Cx} {k : Nat} {ps : List Str} {sp : Sp} {E : XK} (m : OwnM X.prog X.w X.K X.mg X.base C k "__neg__" ps sp) (hr : Room k X.A) (hx : Passes (L2.CX X.prog X.w) X E) : UnR X (unaryOp .USub) fun x H Q => ∃ a dx fs, x = .ref a ∧ H a = some (.ins C dx fs) ∧ sp [.ref a] H Q E := by
  obtain ⟨f, fd, hs, hf, hb, F⟩ := m
  exact un_own F hr hb hx hs hf
theorem op_cmpTO {X : Cx} {k : Nat} {ps : List Str} {sp : Sp} {E : XK} {op : CmpOp} {T : String} (m : OwnM X.prog X.w X.K X.mg X.base C k (cmpInfo op).2.1 ps sp) (hr : Room k X.A) (hx : Passes (L2.CX X.prog X.w) X E) (hn : PySem.W.notFirst X.K C (.type T) = true) (ho : compareOp op = richCompare op) : OpR X (compareOp op) (rOwnT C T sp E) := by
  obtain ⟨f, fd, hs, hf, hb, F⟩ := m
  exact op_cmpT F hr hb hx hs hf hn ho
theorem op_eqRefO {X : Cx} {k : Nat} {ps : List Str} {sp : Sp} {E : XK} {op : CmpOp} {T : String} (m : OwnM X.prog X.w X.K X.mg X.base C k (cmpInfo op).2.1 ps sp) (hr : Room k X.A) (hx : Passes (L2.CX X.prog X.w) X E) (hn : PySem.W.notFirst X.K C (.type T) = true) (ho : compareOp op = richCompare op) :
    OpR X (compareOp op) (fun x y H Q => ∃ a b dx fs, x = .ref a ∧ y = .ref b ∧ H a = some (.ins C dx fs) ∧ (∀ h : Heap, HOk X.prog X.w H h → ∃ o : Obj, h.get? b = some o ∧ o.cls = .type T) ∧ sp [.ref a, .ref b] H Q E) := by
  obtain ⟨f, fd, hs, hf, hb, F⟩ := m
  exact op_eqRef F hr hb hx hs hf hn ho
theorem op_neTO {X : Cx} {k : Nat} {ps : List Str} {sp : Sp} {E : XK} {T : String} (N : NeO X.K C) (m : OwnM X.prog X.w X.K X.mg X.base C k "__eq__" ps sp) (hr : Room (k + 1) X.A) (hx : Passes (L2.CX X.prog X.w) X E) (hn : PySem.W.notFirst X.K C (.type T) = true) :
    OpR X (compareOp .NotEq) (fun x y H Q => ∃ a dx fs, x = .ref a ∧ H a = some (.ins C dx fs) ∧ (∀ u : Value, RelV y u → typeOf u = pure (.type T)) ∧ sp [.ref a, y] H (rNotV Q) E) := by
  obtain ⟨f, fd, hs, hf, hb, F⟩ := m
  exact op_neT ⟨N.ne, N.ob, hs, hf⟩ F hr hb hx hn
theorem PE.imp {X : Cx} {e : Expr} {t t' : TE} (h : PE X e t) (k : ∀ σ H Q, t' σ H Q → t σ H Q) : PE X e t' := ⟨fun pins s σ H Q I w => h.run pins s σ H Q I (k _ _ _ w)⟩
theorem PSs.len {X : Cx} {st : List Stmt} {t : TS} (h : PSs X st t) : PSs X st (fun D τ H => τ.length = X.N.length → t D τ H) := ⟨fun pins s σ H D I w => h.run pins s σ H D I (w I.len)⟩
theorem PSs.imp {X : Cx} {st : List Stmt} {t t' : TS} (h : PSs X st t) (k : ∀ D τ H, t' D τ H → t D τ H) : PSs X st t' := ⟨fun pins s σ H D I w => h.run pins s σ H D I (k _ _ _ w)⟩
theorem two_of {α : Type} {τ : List α} (h : τ.length = 2) : ∃ x y, τ = [x, y] := by
  match τ, h with
  | [x, y], _ => exact ⟨x, y, rfl⟩
end
/-! ### defs that raise nothing, called while an exception is handled -/
structure RoomM (k : Nat) (A : Around) : Prop where
  dp : A.depth + 3 * k + 5 < recursionLimit
  un : A.units + 16 * k + 200 < cLine
theorem Room.m {k : Nat} {A : Around} (r : Room k A) (h : Option Value) : RoomM k (A.mark h) := ⟨r.dp, r.un⟩
theorem RoomM.cold {k : Nat} {A : Around} (r : RoomM k A) : Room k { A with handled := none } := ⟨rfl, r.dp, r.un⟩
theorem RoomM.deeper {k : Nat} {A : Around} (r : RoomM (k + 1) A) (env : Env) : RoomM k (A.deeper env) := ⟨(r.cold.deeper env).dp, (r.cold.deeper env).un⟩
/-- such a def, called wherever there is room -/
structure FnM (P : Program) (w : World) (K : PySem.W.Frag) (mg : Str → Option Value) (base : Heap) (k : Nat) (f : Addr) (fd : FuncData) (ps : List Str) (sp : Sp) : Prop where
  lens : ∀ vs H Q E, sp vs H Q E → vs.length = ps.length
  goes : ∀ (A : Around) (outer : List Env) (s : Shared) (H : Hp) (args : Args) (us : List Value) (vs : List V) (Q : VK), RoomM k A → Env0 P w K mg base A outer s H →
    BindsTo s fd args (ps.zip us) → Vals vs us → sp vs H Q E0 → codeAny (model P w) A (.call (.ref f) args) (CR CX0 outer P w H s Q E0) s
/-- its frame: nothing is promised of what is handled, nothing may be raised -/
abbrev cxM (P : Program) (w : World) (K : PySem.W.Frag) (mg : Str → Option Value) (base : Heap) (N : List Str) (qual : Str) (scope : Scope) (f : Addr) (cd : Value) (A : Around) (outer : List Env) (s : Shared) (H : Hp) : Cx :=
  { cxOf CX0 P w K mg base N qual scope f cd A outer s H E0 with calm := false, xe := fun _ _ => False }
theorem fnM_of {P : Program} {w : World} {K : PySem.W.Frag} {mg : Str → Option Value} {base : Heap} {k : Nat} {f : Addr} {name qual : Str} {params : Arguments} {body : List Stmt} {scope : Scope} {dV kV doc pm cdv ct oc : Value} {an od : Option Addr}
    {osl : Array (Option Value)} {N ps : List Str} {sp : Sp} (lk : K.lookup f = some ⟨oc, od, .func (PySem.W.fnOf name qual params body scope dV kV doc pm an cdv ct), osl⟩) (hcd : PySem.W.codeIn K cdv qual = true) (S : FnScope N ps scope)
    (len : ∀ vs H Q E, sp vs H Q E → vs.length = ps.length)
    (hbody : ∀ (A : Around) (outer : List Env) (s : Shared) (H : Hp) (vs : List V) (Q : VK), RoomM k (A.deeper (PyProof.Rows.envOfC qual scope s.heap.objs.size f cdv)) → sp vs H Q E0 →
      ∃ t, PSs (cxM P w K mg base N qual scope f cdv A outer s H) body t ∧ t { nx := fun _ H' => Q .non H', rt := Q } (start N vs) H) :
    FnM P w K mg base (k + 1) f (PySem.W.fnOf name qual params body scope dV kV doc pm an cdv ct) ps sp := by
  refine ⟨len, fun A outer s H args us vs Q room e0 hb r hsp => ?_⟩
  have many := len _ _ _ _ hsp
  have cold : Env0 P w K mg base { A with handled := none } outer s H := ⟨e0.frames, e0.mod, e0.bs, e0.bsz, e0.funs, e0.frf, e0.hok, e0.bare⟩
  have part : K.In s.heap := e0.mod.kin.keeps fun b o z => (e0.bs b o z).1
  have below : s.heap.NoLimit := e0.mod.nolimit.keeps fun b o z => (e0.bs b o z).1
  have kinds : ∀ y ∈ ps.zip us, scope.names.lookup y.1 = some .local ∨ (scope.names.lookup y.1 = some .cell ∧ ((PySem.cellsFrom (s.heap.objs.size + 1) scope.names []).lookup y.1).isSome = true) := by
    rintro ⟨n, v⟩ hy
    exact (S.par n (List.of_mem_zip hy).1).imp id fun q => ⟨q, PySem.W.cellsFrom_some _ _ _ (.inl q)⟩
  refine PySem.codeAny_call_function room.cold.depth (part _ _ lk) rfl S.co S.gen rfl (PySem.W.codeRec_of part hcd) (hb _ _ _ _ (PySem.wpAny_newFunctionEnv_cells S.kind kinds ?_))
  intro env he s1 x
  subst he
  obtain ⟨t, ht, hq⟩ := hbody A outer s H vs Q (room.deeper _) hsp
  have J := inv_start (CX := CX0) (N := N) (qual := qual) (f := f) (cd := cdv) (E := E0) S rfl cold many r x
  have o := J.ok
  have I : Inv (cxM P w K mg base N qual scope f cdv A outer s H) [] (start N vs) H s1 :=
    ⟨⟨o.mod, o.kind, o.glob, o.blt, o.above, o.inj, o.has, o.cab, fun z => (by cases z), Around.frames_deeper e0.frames, o.stk, o.exf, o.bs, o.bsz, o.noex, o.exfs, o.funs, o.frf⟩, J.os, J.bare, J.base, J.loc, J.cell, J.free, J.freeC, J.pin, J.hok, J.len⟩
  refine ⟨below.keeps x.toInCall.keep, PySem.codeAny_func (wpAny_mono (ht.run [] s1 (start N vs) H _ I hq) ?_ fun _ _ z => z.elim)⟩
  rintro (_ | _ | _ | u) s' hs
  · obtain ⟨σ', H', J, q⟩ := hs
    exact ⟨V.non, H', J.os, J.bare, J.base, J.hok, rfl, q⟩
  · exact hs.elim fun _ z => z.elim fun _ z => z.2.elim
  · exact hs.elim fun _ z => z.elim fun _ z => z.2.elim
  · obtain ⟨v, σ', H', J, rv, q⟩ := hs
    exact ⟨v, H', J.os, J.bare, J.base, J.hok, rv, q⟩
theorem Fun.okM {P : Program} {w : World} {K : PySem.W.Frag} {mg : Str → Option Value} {base : Heap} {x qual : Str} {st : Stmt} {f : Addr} {fd : FuncData} {N ps : List Str} {k : Nat} {sp : Sp} (F : Fun K x qual st f fd) (S : FnScope N ps (defScope st)) (len : ∀ vs H Q E, sp vs H Q E → vs.length = ps.length)
    (hbody : ∀ (cdv : Value) (A : Around) (outer : List Env) (s : Shared) (H : Hp) (vs : List V) (Q : VK), RoomM k (A.deeper (PyProof.Rows.envOfC qual (defScope st) s.heap.objs.size f cdv)) → sp vs H Q E0 →
      ∃ t, PSs (cxM P w K mg base N qual (defScope st) f cdv A outer s H) (defBody st) t ∧ t { nx := fun _ H' => Q .non H', rt := Q } (start N vs) H) : FnM P w K mg base (k + 1) f fd ps sp := by
  obtain ⟨oc, od, kV, doc, pm, an, cdv, ct, osl, rfl, lk, hcd⟩ := F.ex
  exact fnM_of lk hcd S len fun A outer s H vs Q room hsp => hbody cdv A outer s H vs Q room hsp
/-! ### an expression is asked; where it raises, the error is noted and what R does of it is told -/
section
variable {X : Cx} {e : Expr} {te : WX → TE}
theorem leave_run {R : Value → Sem Flow} {Q : Value → Shared → Prop} {QK : VK} {pins : List (Addr × Obj)} {σ : St} {H : Hp} {s : Shared} {D : Ends} {W : WX} (top : X.stack = X.env :: X.outer) (own : X.env.frame = some X.env.locals) (I : Inv X pins σ H s)
    (he : ∀ (W : WX) (pn : List (Addr × Obj)) (xe : Value → Shared → Prop), Takes (X.tr pn xe) W → PassesOwn (model X.prog X.w) X.A X.env xe → PE (X.tr pn xe) e (te W)) (q : te W σ H QK) (ok : ∀ u z, EP X pins σ QK u z → Q u z)
    (bad : ∀ (a : Addr) (B : Heap) (sI z : Shared) (kd : Value) (dd : Option Addr) (τ : St) (G : Hp) (h1 : Heap), Inv X pins τ G sI → (∀ b o, sI.heap.get? b = some o → b ∉ frs X.stack → B.get? b = some o) → sI.heap.UpToSlots h1 → G a = none → z.os = sI.os → PyProof.Rows.AllBare z.gens →
      HandSPX.FlyingZ B (X.env :: X.outer) a (Zc kd dd) h1 → Inv X pins τ G { z with heap := h1 } → W kd dd τ G → wpAny (model X.prog X.w) X.A (R (.ref a)) (SP X pins D) X.xe { z with heap := h1 }) :
    wpAny (model X.prog X.w) X.A (eval e X.env) Q (fun err z => wpAny (model X.prog X.w) X.A (noteFrame err X.env >>= fun _ => setFlight err .none >>= fun _ => R err) (SP X pins D) X.xe z) s := by
  refine wpAny_mono ((he W (X.pn ++ pins) (fun err z => wpAny (model X.prog X.w) X.A (noteFrame err X.env) (fun _ z1 => wpAny (model X.prog X.w) X.A (setFlight err .none) (fun _ z2 => wpAny (model X.prog X.w) X.A (R err) (SP X pins D) X.xe z2) X.xe z1) X.xe z) (fun u z caught => ?_) PassesOwn.looking).run [] s σ H QK (I.toTry _) q)
    (fun u z y => ok u z ?_) fun err z y => wpAny_bind (wpAny_mono y (fun _ z1 y1 => wpAny_bind y1) fun _ _ y1 => y1)
  · have fit := I.ok
    have frs_ : X.A.frames = some (X.env :: X.outer) := fit.frames.trans (by rw [top])
    obtain ⟨a, B, sI, pins1, τ1, G1, kd, dd, rfl, J1, nb, up, sky, free, os, ag, wish⟩ := caught
    have J : Inv X pins τ1 G1 sI := J1.ofTry fit
    show wpAny _ _ (noteFrame (.ref a) X.env) _ _ _
    refine Sky.land Zc.steady frs_ own (by rw [← top]; exact sky) fun h1 fly1 up1 => ?_
    exact bad a B sI z kd dd τ1 G1 h1 J nb (up.trans up1) free os ag fly1 (J.landed nb fly1.1 (up.trans up1) os ag) wish
  · obtain ⟨v, G, J1, r, w⟩ := y
    exact ⟨v, G, J1.ofTry I.ok, r, w⟩
end
/-! ### with of an own block around one return; the block's exit also where an error leaves it -/
section
variable {X : Cx} {C fe fx : Addr} {ke kx : Nat} {de dx_ : FuncData} {pe_ : List Str} {spE spX : Sp} {ctx e : Expr} {tctx : TE} {te : WX → TE} {Wout : WX} {rp pos : Pos}
def wExit (b : Addr) (spX : Sp) (Wout : WX) : WX := fun cls d σ H => (∃ c : Addr, cls = .ref c) ∧ ∀ k v t : V, spX [.ref b, k, v, t] H (fun r H' => r = .non ∧ Wout cls d σ H') E0
def tWith (C : Addr) (spE spX : Sp) (Wout : WX) (tctx : TE) (te : WX → TE) : TS := fun D σ H => tctx σ H fun v H1 => ∃ b dx fs, v = .ref b ∧ H1 b = some (.ins C dx fs) ∧
  spE [.ref b] H1 (fun _ H2 => te (wExit b spX Wout) σ H2 fun u H3 => spX [.ref b, .non, .non, .non] H3 (fun _ H4 => D.rt u H4) E0) E0
open PyProof.Rows hiding St in
open PySem.W PySem.Calls PySem.Spec in
theorem ps_with (top : X.stack = X.env :: X.outer) (own : X.env.frame = some X.env.locals) (exF : X.ex = []) (tk : Takes X Wout) (room : Room ke X.A) (roomX : RoomM kx X.A)
    (en : PySem.W.findIn X.K (.ref C) "__enter__" = some (some (.ref fe))) (enF : PySem.W.isFn X.K (.ref fe) = true) (FE : FnOk X.prog X.w X.K X.mg X.base CX0 ke fe de ["self"] spE) (bE : Binds X.K de ["self"] [])
    (ex : PySem.W.findIn X.K (.ref C) "__exit__" = some (some (.ref fx))) (exN : PySem.W.isFn X.K (.ref fx) = true) (FX : FnM X.prog X.w X.K X.mg X.base kx fx dx_ pe_ spX) (bX : Binds X.K dx_ pe_ [])
    (hc : PE X ctx tctx) (he : ∀ (W : WX) (pn : List (Addr × Obj)) (xe : Value → Shared → Prop), Takes (X.tr pn xe) W → PassesOwn (model X.prog X.w) X.A X.env xe → PE (X.tr pn xe) e (te W)) :
    PS X (.With [⟨ctx, none⟩] [.Return (some e) rp] pos) (tWith C spE spX Wout tctx te) := by
  refine ⟨fun pins s σ H D I h => PySem.W.kw_exec0 (wpAny_mono (hc.run pins s σ H _ I h) (fun u s1 y => ?_) fun _ _ z => z)⟩
  obtain ⟨v, H1, I1, rv, b, dx, fs, rfl, hb, q⟩ := y
  obtain rfl : u = Value.ref b := rv
  obtain ⟨mA, J, _⟩ := ins_get I1.hok hb
  obtain ⟨od, J, _⟩ := J.look
  obtain ⟨cd, cdA, alongE⟩ := PySem.W.kw_along en
  obtain ⟨cd2, cdB, alongX⟩ := PySem.W.kw_along ex
  cases cdA.symm.trans cdB
  have K1 := I1.kIn
  obtain ⟨hp, gs, dr, tk1, os1⟩ := s1
  have L1 := PySem.W.kw_special (M := model X.prog X.w) (name := "__enter__") K1 J cdA alongE
  have L2 := PySem.W.kw_special (M := model X.prog X.w) (name := "__exit__") K1 J cdA alongX
  have L3 : PySem.W.Looks (model X.prog X.w) hp (bindSpecial (.ref fe) (.ref b)) (.ref fe, [.ref b]) := PySem.W.bind_fn K1 _ (beq_iff_eq.mp enF)
  have L4 : PySem.W.Looks (model X.prog X.w) hp (bindSpecial (.ref fx) (.ref b)) (.ref fx, [.ref b]) := PySem.W.bind_fn K1 _ (beq_iff_eq.mp exN)
  have L5 : PySem.W.Looks (model X.prog X.w) hp (aMethodOfAnotherBuiltinTypeStops (.ref fe) cd.mro) () := PySem.W.Looks.of_pure rfl
  have L6 : PySem.W.Looks (model X.prog X.w) hp (aMethodOfAnotherBuiltinTypeStops (.ref fx) cd.mro) () := PySem.W.Looks.of_pure rfl
  unfold PySem.W.KwIn PySem.withItem
  refine wpAny_bind (wpAny_pure ?_)
  refine wpAny_bind (wpAny_standAt ?_)
  simp only [Bool.false_eq_true, if_false]
  kw_lk
  refine wpAny_mono (run_fn (vs := [.ref b]) FE room bE .nil pass0 I1 (.cons rfl .nil) q) (fun r2 s2 y => ?_) fun _ _ z => z
  obtain ⟨v2, H2, I2, rv2, q⟩ := y
  kw_lk
  refine wpAny_attempt (kw_held ?_)
  refine wpAny_execs_cons (wpAny_Return_some ?_)
  refine leave_run (W := wExit b spX Wout) (QK := fun u H3 => spX [.ref b, .non, .non, .non] H3 (fun _ H4 => D.rt u H4) E0) top own I2 he q (fun u z y => ?_) ?_
  · obtain ⟨v3, H3, I3, rv3, q3⟩ := y
    show wpAny _ _ _ _ _ _
    refine wpAny_bind (wpAny_standAt ?_)
    refine wpAny_bind (wpAny_holding ?_)
    refine wpAny_call (codeAny_mono (FX.goes X.A X.stack z H3 ⟨[.ref b, .none, .none, .none], []⟩ [.ref b, .none, .none, .none] [.ref b, .non, .non, .non] _ roomX I3.env0 (bX z [.ref b, .none, .none, .none] I3.kIn (FX.lens _ _ _ _ q3).symm.symm) (.cons rfl (.cons rfl (.cons rfl (.cons rfl .nil)))) q3) ?_)
    rintro (er | _ | _ | _ | w) z1 y
    · exact y.elim
    · exact y.elim
    · exact y.elim
    · exact y.elim
    · obtain ⟨r5, H5, I5, _, q5⟩ := I3.after y
      exact wpAny_pure ⟨v3, σ, H5, I5, rv3, q5⟩
  · intro a B sI z kd dd τ1 G h1 J nb up free os ag fly1 J2 wish
    obtain ⟨kin, aB, frB, oe, vs, T, oT, ts, at_a, zc, da, tbv, TB, Ta, at_T, dT, ht3⟩ := id fly1
    have nT : G T = none := (J.inGround nb).gone TB
    -- neither the error nor its traceback is a frame
    have noFrame : ∀ (c : Addr) (o : Obj) (fv : Array Value), h1.get? c = some o → o.data = .fields fv → c ∉ frs (X.env :: X.outer) := fun c o fv g d m => by
      obtain ⟨_, o2, g2, no⟩ := frB.mem m
      rw [g] at g2
      obtain rfl := Option.some.inj g2
      exact no _ d
    have inFrames : X.env.locals ∈ frs (X.env :: X.outer) := List.mem_filterMap.mpr ⟨X.env, List.mem_cons_self, own⟩
    have below : ∀ c, c ∈ X.fs → c ∈ frs (X.env :: X.outer) := fun c m => by
      obtain ⟨en, h, e⟩ := List.mem_filterMap.mp m
      exact List.mem_filterMap.mpr ⟨en, List.mem_cons_of_mem _ h, e⟩
    have fa := noFrame a oe vs at_a da
    have fT := noFrame T oT ts at_T dT
    have pinned : ∀ (c : Addr) (o : Obj) (fv : Array Value), h1.get? c = some o → o.data = .fields fv → G c = none → c ∉ frs (X.env :: X.outer) →
        h1.get? c = some o ∧ G c = none ∧ c ≠ X.env.locals ∧ c ∉ X.fs ∧ ∀ v, o.data ≠ .cell v := fun c o fv g d n f => ⟨g, n, fun m => f (by rw [m]; exact inFrames), fun m => f (below c m), fun v m => by
      rw [d] at m
      exact Data.noConfusion m⟩
    have Jp : Inv X ((a, oe) :: (T, oT) :: pins) τ1 G { z with heap := h1 } :=
      ⟨J2.ok, J2.os, J2.bare, J2.base, J2.loc, J2.cell, J2.free, J2.freeC, fun p hp => by
        rcases List.mem_append.mp hp with m | m
        · exact J2.pin p (List.mem_append_left _ m)
        · rcases List.mem_cons.mp m with m | m
          · rw [m]
            exact pinned a oe vs at_a da free fa
          · rcases List.mem_cons.mp m with m | m
            · rw [m]
              exact pinned T oT ts at_T dT nT fT
            · exact J2.pin p (List.mem_append_right _ m), J2.hok, J2.len⟩
    obtain ⟨⟨cK, rfl⟩, wish⟩ := wish
    refine wpAny_bind (wpAny_standAt (wpAny_holding (wpAny_bind (wpAny_typeOf_ref at_a ?_))))
    rw [zc.1]
    obtain ⟨x1, tx1⟩ : ∃ x, ts[1]? = some x := by
      have few : 3 < ts.size := by
        rcases Nat.lt_or_ge 3 ts.size with h | h
        · exact h
        · rw [Array.getElem?_eq_none h] at ht3
          cases ht3
      exact ⟨ts[1]'(by omega), Array.getElem?_eq_getElem (by omega)⟩
    have e0 := Jp.env0
    -- the block's exit
    have exit : ∀ (tv : V) (tu : Value), RelV tv tu → codeAny (model X.prog X.w) (X.A.mark (some (.ref a))) (.call (.ref fx) ⟨[.ref b, .ref cK, .ref a, tu], []⟩) (CR CX0 X.stack X.prog X.w G { z with heap := h1 } (fun r H' => r = .non ∧ Wout (.ref cK) dd τ1 H') E0) { z with heap := h1 } := fun tv tu rt =>
      FX.goes _ X.stack _ G ⟨[.ref b, .ref cK, .ref a, tu], []⟩ [.ref b, .ref cK, .ref a, tu] [.ref b, .ref cK, .ref a, tv] _ ⟨roomX.dp, roomX.un⟩ ⟨e0.frames, e0.mod, e0.bs, e0.bsz, e0.funs, e0.frf, e0.hok, e0.bare⟩
        (bX _ [.ref b, .ref cK, .ref a, tu] Jp.kIn (FX.lens _ _ _ _ (wish (.ref cK) (.ref a) tv)).symm.symm) (.cons rfl (.cons rfl (.cons rfl (.cons rt .nil)))) (wish (.ref cK) (.ref a) tv)
    -- behind it the error goes on
    have goes : ∀ (w : Value) (s6 : Shared), CE X.stack X.prog X.w G { z with heap := h1 } (fun r H' => r = .non ∧ Wout (.ref cK) dd τ1 H') w s6 → w = .none ∧ wpAny (model X.prog X.w) X.A (PySem.passOn "with" (.ref a) X.env) (SP X pins D) X.xe s6 := fun w s6 y => by
      obtain ⟨r6, H6, J6, rv6, rfl, out⟩ := Jp.after y
      refine ⟨rv6, ?_⟩
      obtain ⟨ha6, na6, _⟩ := J6.pin (a, oe) (List.mem_append_right _ List.mem_cons_self)
      obtain ⟨hT6, nT6, _⟩ := J6.pin (T, oT) (List.mem_append_right _ (List.mem_cons_of_mem _ List.mem_cons_self))
      have ha6 : s6.heap.get? a = some oe := ha6
      have hT6 : s6.heap.get? T = some oT := hT6
      have J7 : Inv X pins τ1 H6 s6 := ⟨J6.ok, J6.os, J6.bare, J6.base, J6.loc, J6.cell, J6.free, J6.freeC, fun p hp => by
        rcases List.mem_append.mp hp with m | m
        · exact J6.pin p (List.mem_append_left _ m)
        · exact J6.pin p (List.mem_append_right _ (List.mem_cons_of_mem _ (List.mem_cons_of_mem _ m))), J6.hok, J6.len⟩
      -- what stood before the error is neither the error nor its traceback
      have old : ∀ c o, sI.heap.get? c = some o → c ≠ a ∧ c ≠ T := fun c o g => by
        by_cases m : c ∈ frs X.stack
        · rw [top] at m
          exact ⟨fun k => fa (k ▸ m), fun k => fT (k ▸ m)⟩
        · have inB := nb c o g m
          refine ⟨fun k => ?_, fun k => ?_⟩
          · rw [k, aB] at inB
            cases inB
          · rw [k, TB] at inB
            cases inB
      obtain ⟨rest, keepR, dropR⟩ := restrict s6.heap fun c => decide (c ≠ a ∧ c ≠ T)
      have inRest : ∀ c o, rest.get? c = some o → s6.heap.get? c = some o ∧ c ≠ a ∧ c ≠ T := fun c o g => by
        by_cases m : c ≠ a ∧ c ≠ T
        · rw [keepR c (decide_eq_true m)] at g
          exact ⟨g, m⟩
        · rw [dropR c (decide_eq_false m)] at g
          cases g
      have I7 : Inv X pins τ1 H6 { s6 with heap := rest } := J7.less (a := a) (b := T) (fun c o g => (inRest c o g).1) (fun c o m1 m2 g => (keepR c (decide_eq_true ⟨m1, m2⟩)).trans g) ⟨oe, vs, ha6, da⟩ ⟨oT, ts, hT6, dT⟩ na6 nT6
        (fun c o g => by
          obtain ⟨o2, g2⟩ := J.base.there c o g (by rw [exF]; exact List.not_mem_nil)
          exact old c o2 g2) fun p hp => old p.1 p.2 (J.pin p hp).1
      have gone : ∀ c, c = a ∨ c = T → (PySem.W.hideAll rest (frs X.stack)).get? c = none := fun c m => by
        cases g : (PySem.W.hideAll rest (frs X.stack)).get? c with
        | none => rfl
        | some o =>
          obtain ⟨_, m1, m2⟩ := inRest c o (PySem.W.of_hideAll _ g)
          exact (m.elim m1 m2).elim
      have fly7 : HandSPX.FlyingZ (PySem.W.hideAll rest (frs X.stack)) (X.env :: X.outer) a (Zc (.ref cK) dd) s6.heap := by
        refine ⟨fun c o g => (inRest c o (PySem.W.of_hideAll _ g)).1, gone a (.inl rfl), ?_, oe, vs, T, oT, ts, ha6, zc, da, tbv, gone T (.inr rfl), Ta, hT6, dT, ht3⟩
        rw [← top]
        exact funFrames_none (B := PySem.W.hideAll rest (frs X.stack)) J7.stack fun c m => PySem.W.hideAll_none _ m
      have onward : wpAny (model X.prog X.w) X.A (setFlight (.ref a) X.env.frame) (fun _ s8 => wpAny (model X.prog X.w) X.A (throw (.ref a) : Sem Flow) (SP X pins D) X.xe s8) X.xe s6 := by
        rw [own]
        refine HandSPX.setFlight_upZ fly7 fun h8 sky8 up8 => wpAny_throw (tk _ _ ⟨a, PySem.W.hideAll rest (frs X.stack), { s6 with heap := rest }, pins, τ1, H6, .ref cK, dd, rfl, I7, fun c o g m => PySem.W.hideAll_get _ g m, ?_, .inr (.inr (by rw [top]; rw [top] at sky8; exact sky8)), na6, rfl, J7.bare, out⟩)
        exact Heap.UpToSlots.trans (Heap.UpToSlots.of_keeps fun c o g => (inRest c o g).1) up8
      unfold PySem.passOn
      refine wpAny_bind (wpAny_field ha6 da tbv ?_)
      rw [if_neg (by simp)]
      first
        | exact wpAny_bind onward
        | exact wpAny_bind (wpAny_pure (wpAny_bind onward))
    unfold PySem.tracebackOf PySem.withItem.marked
    refine wpAny_bind (wpAny_bind (wpAny_field at_a da tbv (wpAny_bind (wpAny_field at_T dT tx1 ?_))))
    have last : ∀ (tv : V) (tu : Value), RelV tv tu → wpAny (model X.prog X.w) X.A (PySem.run (.call (.ref fx) ⟨[.ref b, .ref cK, .ref a, tu], []⟩) (some (.ref a))) (fun fl s6 => fl = .ret .none ∧ wpAny (model X.prog X.w) X.A (PySem.passOn "with" (.ref a) X.env) (SP X pins D) X.xe s6) X.xe { z with heap := h1 } := fun tv tu rt => by
      refine PySem.wpAny_run (codeAny_mono (exit tv tu rt) ?_) (by intro m; cases m)
      rintro (er | _ | _ | _ | w) s6 y
      · exact y.elim
      · exact y.elim
      · exact y.elim
      · exact y.elim
      · obtain ⟨rfl, g⟩ := goes w s6 y
        exact ⟨rfl, g⟩
    split
    · refine wpAny_pure (wpAny_bind (wpAny_bind (wpAny_mono (last .non .none rfl) (fun fl s6 y => ?_) fun _ _ m => m)))
      obtain ⟨rfl, g⟩ := y
      exact wpAny_pure (wpAny_bind (wpAny_pure (wpAny_bind (wpAny_pure g))))
    · refine wpAny_pure (wpAny_bind (wpAny_bind (wpAny_mono (last (.ref T) (.ref T) rfl) (fun fl s6 y => ?_) fun _ _ m => m)))
      obtain ⟨rfl, g⟩ := y
      exact wpAny_pure (wpAny_bind (wpAny_pure (wpAny_bind (wpAny_pure g))))
end
/-! ### lambdas as values: their function objects are told -/
section
open LamX
variable {X : Cx} {pins : List (Addr × Obj)} {σ : St} {H : Hp} {s : Shared}
/-- at f: the lambda of this text, its names captured from the cells clo, its code object at c' -/
def LamO (f : Addr) (q : Str) (params : Arguments) (body : Expr) (scope : Scope) (clo : List (Str × Addr)) (c' : Addr) : HO :=
  .ext fun h => ∃ pm ctv : Value, h.get? f = some (PySem.W.kla_obj "<lambda>" q params body scope clo pm c' ctv)
theorem lamO_ok {P : Program} {w : World} {G : Hp} {h : Heap} {f c' : Addr} {q : Str} {params : Arguments} {body : Expr} {scope : Scope} {clo : List (Str × Addr)} {pm ctv : Value} (e : h.get? f = some (PySem.W.kla_obj "<lambda>" q params body scope clo pm c' ctv)) :
    ObjOk P w G h f (LamO f q params body scope clo c') := ⟨⟨pm, ctv, e⟩, ⟨_, e⟩, fun _ _ ⟨a, b, z⟩ k => ⟨a, b, k _ z⟩⟩
theorem lamO_at {P : Program} {w : World} {G : Hp} {h : Heap} {f c' : Addr} {q : Str} {params : Arguments} {body : Expr} {scope : Scope} {clo : List (Str × Addr)} (ok : HOk P w G h) (e : G f = some (LamO f q params body scope clo c')) :
    ∃ pm ctv : Value, h.get? f = some (PySem.W.kla_obj "<lambda>" q params body scope clo pm c' ctv) := (show ObjOk P w G h f (.ext _) from ok f _ e).1
theorem lamO_tbl {f c' : Addr} {q : Str} {params : Arguments} {body : Expr} {scope : Scope} {clo : List (Str × Addr)} (ps : Array Value) : LamO f q params body scope clo c' ≠ .tbl ps := fun z => by
  unfold LamO at z
  cases z
/-- the lambda is made, and told from then on -/
theorem lam_told {T : List (Addr × Str)} {c P : Addr} {params : Arguments} {body : Expr} {scope : Scope} {pos : Pos} {E Q : Value → Shared → Prop} (I : Inv X pins σ H s) (TB : TabB X.base X.mg c P) (code : X.env.code = .ref c) (inT : (P, X.env.qual ++ "<lambda>") ∈ T)
    (one : ∀ p ∈ T, p.1 = P → p.2 = X.env.qual ++ "<lambda>") (tabs : Tabs T H) (dfl : defaultsOf params X.env = ([], [])) (free : ∀ y ∈ scope.names, y.2 = .free → ∃ c, X.env.cells.lookup y.1 = some c)
    (z : ∀ (f c' : Addr) (G : Hp) (s' : Shared), Inv X pins σ G s' → ExtN H G → Tabs T G → H f = none → G f = some (LamO f (X.env.qual ++ "<lambda>") params body scope (cloFrom X.env.cells scope.names []) c') → G c' = some (CodeO c' (X.env.qual ++ "<lambda>")) → Q (.ref f) s') :
    wpAny (model X.prog X.w) X.A (eval (.Lambda params body scope pos) X.env) Q E s := by
  obtain ⟨ps, hP, tri, among⟩ := tabs _ inT
  have bP := TB.bm.keeps I.bk
  have at_P : s.heap.get? P = some { cls := .none, data := .fields ps } := I.hok P _ hP
  refine PySem.W.kla_eval dfl ?_
  cases look : codeAmong pos ps.toList with
  | none =>
    refine PySem.W.kla_makeFunction (mg := X.mg) (c := c) (P := P) (ps := ps) (closure_ok free) I.ok.glob (I.mod.glob.keeps I.bk) code (TB.code.keeps I.bk) at_P tri look TB.gP bP fun c' ctv h1 tk but low high rec_ tab => ?_
    obtain ⟨c2, oc, vs, t, e2, at_c, dc, vc⟩ := rec_
    cases e2
    have far : s.heap.objs.size ≤ h1.objs.size := Nat.le_trans low (Nat.le_of_lt high)
    have nC : H c' = none := I.hok.fresh low
    -- the code object and the table first, the function then
    have J := inv_table (t' := tk) (more := #[rawInt pos.line, rawInt pos.col, .ref c']) (h' := h1) I hP (fun b o hb e => but b o hb e) tab low ⟨oc, vs, t, at_c, dc, vc⟩
    have nF : H h1.objs.size = none := I.hok.fresh far
    have J2 := J.laid (a := h1.objs.size) (o := LamO h1.objs.size (X.env.qual ++ "<lambda>") params body scope (cloFrom X.env.cells scope.names []) c') (t' := tk)
      (h' := h1.push (PySem.W.kla_obj "<lambda>" (X.env.qual ++ "<lambda>") params body scope (cloFrom X.env.cells scope.names []) ((X.mg "__name__").getD .none) c' ctv)) (fun b o e => Heap.get?_push_of_some _ e) (Nat.le_refl _) (lamO_ok (Heap.get?_push_size _ rfl))
    have nFc : h1.objs.size ≠ c' := Nat.ne_of_gt high
    have grow : ∀ b o, H b = some o → (∀ ps, o ≠ .tbl ps) → (upd (upd (upd H P (.tbl (ps ++ #[rawInt pos.line, rawInt pos.col, .ref c']))) c' (CodeO c' (X.env.qual ++ "<lambda>"))) h1.objs.size
        (LamO h1.objs.size (X.env.qual ++ "<lambda>") params body scope (cloFrom X.env.cells scope.names []) c')) b = some o := fun b o e n => by
      rw [upd_ne (ne_of_none e nF), upd_ne (ne_of_none e nC), upd_ne (fun m => n ps (Option.some.inj (e.symm.trans (by rw [m]; exact hP))))]
      exact e
    refine z h1.objs.size c' _ _ J2 grow (fun p hp => ?_) nF upd_same (by rw [upd_ne (Ne.symm nFc), upd_same])
    by_cases hb : p.1 = P
    · have long : (ps ++ #[rawInt pos.line, rawInt pos.col, .ref c']).toList = ps.toList ++ [rawInt pos.line, rawInt pos.col, .ref c'] := by simp
      have nPf : P ≠ h1.objs.size := ne_of_none hP nF
      rw [one p hp hb, hb]
      refine ⟨_, by rw [upd_ne nPf, upd_ne (ne_of_none hP nC), upd_same], by rw [long]; exact PySem.TriplesOk_snoc _ _ _ _ tri, fun p2 cv h2 => ?_⟩
      rw [long] at h2
      rcases among_app _ tri h2 with y | y
      · obtain ⟨c0, e1, e2⟩ := among p2 cv y
        exact ⟨c0, e1, grow _ _ e2 codeO_ne⟩
      · exact ⟨c', y, by rw [upd_ne (Ne.symm nFc), upd_same]⟩
    · obtain ⟨ps2, a1, a2, a3⟩ := tabs p hp
      refine ⟨ps2, ?_, a2, fun p2 cv h2 => ?_⟩
      · rw [upd_ne (ne_of_none a1 nF), upd_ne (ne_of_none a1 nC), upd_ne hb]
        exact a1
      · obtain ⟨c0, e1, e2⟩ := a3 p2 cv h2
        exact ⟨c0, e1, grow _ _ e2 codeO_ne⟩
  | some cv =>
    obtain ⟨c', e, co⟩ := among pos cv look
    subst e
    refine PySem.W.kla_makeFunctionHit (mg := X.mg) (c := c) (P := P) (ps := ps) (closure_ok free) I.ok.glob (I.mod.glob.keeps I.bk) code (TB.code.keeps I.bk) at_P tri look bP fun ctv h1 tk kp far => ?_
    have nF : H h1.objs.size = none := I.hok.fresh far
    have J := (I.kept (t' := tk) (h' := h1) kp).laid (a := h1.objs.size) (o := LamO h1.objs.size (X.env.qual ++ "<lambda>") params body scope (cloFrom X.env.cells scope.names []) c') (t' := tk)
      (h' := h1.push (PySem.W.kla_obj "<lambda>" (X.env.qual ++ "<lambda>") params body scope (cloFrom X.env.cells scope.names []) ((X.mg "__name__").getD .none) c' ctv)) (fun b o e => Heap.get?_push_of_some _ e) (Nat.le_refl _) (lamO_ok (Heap.get?_push_size _ rfl))
    have grow : ∀ b o, H b = some o → (upd H h1.objs.size (LamO h1.objs.size (X.env.qual ++ "<lambda>") params body scope (cloFrom X.env.cells scope.names []) c')) b = some o := fun b o e => by
      rw [upd_ne (ne_of_none e nF)]
      exact e
    exact z h1.objs.size c' _ _ J (.of grow) (tabs.ext grow) nF upd_same (grow _ _ co)
/-- what a lambda as a value asks: f is new, and told -/
def tLamV (T : List (Addr × Str)) (q : Str) (params : Arguments) (body : Expr) (scope : Scope) (clo : List (Str × Addr)) : TE := fun _ H Q => Tabs T H ∧ ∀ (f c' : Addr) (G : Hp), ExtN H G → Tabs T G → H f = none → G f = some (LamO f q params body scope clo c') → G c' = some (CodeO c' q) → Q (.ref f) G
theorem pe_lamV {T : List (Addr × Str)} {c P : Addr} {params : Arguments} {body : Expr} {scope : Scope} {pos : Pos} (TB : TabB X.base X.mg c P) (code : X.env.code = .ref c) (inT : (P, X.env.qual ++ "<lambda>") ∈ T) (one : ∀ p ∈ T, p.1 = P → p.2 = X.env.qual ++ "<lambda>")
    (L : LamS X.env.scope scope) (dfl : defaultsOf params X.env = ([], [])) : PE X (.Lambda params body scope pos) (tLamV T (X.env.qual ++ "<lambda>") params body scope (cloFrom X.env.cells scope.names [])) :=
  ⟨fun pins s σ H Q I h => lam_told I TB code inT one h.1 dfl (L.has I.ok) fun f c' G s' J e t n a b => ⟨.ref f, G, J, rfl, h.2 f c' G e t n a b⟩⟩
end
section
open LamX
variable {X : Cx} {pins : List (Addr × Obj)} {σ : St} {H : Hp} {s : Shared}
abbrev LamF (X : Cx) (f : Addr) (params : Arguments) (body : Expr) (scope : Scope) (c' : Addr) (G : Hp) : Prop :=
  G f = some (LamO f (X.env.qual ++ "<lambda>") params body scope (cloFrom X.env.cells scope.names []) c') ∧ G c' = some (CodeO c' (X.env.qual ++ "<lambda>"))
/-- a lambda takes no arguments -/
abbrev Bare (X : Cx) (params : Arguments) (body : Expr) (scope : Scope) : Prop :=
  ∀ (pm cv ctv : Value), bindArgs (PySem.W.kla_fn "<lambda>" (X.env.qual ++ "<lambda>") params body scope (cloFrom X.env.cells scope.names []) pm cv ctv) ⟨[], []⟩ = pure []
/-- x(), in a def that is called from X's frame at s and was handed a lambda of X -/
theorem pe_act2 {CXg : CXT} {Eg : XK} {Ng : List Str} {qg a : Str} {sg scope : Scope} {g : Addr} {cdg : Value} {params : Arguments} {body : Expr} {k i : Nat} {pn : List (Addr × Obj)} {xe : Value → Shared → Prop} {W : WX} {tb : XK → TE} {p1 p2 : Pos}
    (I : Inv X pins σ H s) (L : LamS X.env.scope scope) (bare : Bare X params body scope) (tk : Takes ((cxOf CXg X.prog X.w X.K X.mg X.base Ng qg sg g cdg X.A X.stack s H Eg).tr pn xe) W)
    (room : Room (k + 1) (X.A.deeper (PyProof.Rows.envOfC qg sg s.heap.objs.size g cdg)))
    (bod : ∀ (A : Around) (outer : List Env) (s : Shared) (H : Hp) (E : XK) (f c' : Addr), Room k (A.deeper (lamEnv X scope s.heap.objs.size f c')) → PE (lamCx X A outer s H E scope f c') body (tb E))
    (at_i : Ng[i]? = some a) (vis : Vis sg a) (nd : (a == ("__debug__" : Str)) = false := by decide) (nc : (a == ("__classdict__" : Str)) = false := by decide) :
    PE ((cxOf CXg X.prog X.w X.K X.mg X.base Ng qg sg g cdg X.A X.stack s H Eg).tr pn xe) (.Call (.Name a p1) [] [] p2) (fun τ G Q => ∃ (E : XK) (f c' : Addr), (∀ cls d τ G, E cls d G → W cls d τ G) ∧ τ[i]? = some (some (.ref f)) ∧ LamF X f params body scope c' G ∧ tb E σ G Q) := by
  refine ⟨fun pz z τ G Q J w => ?_⟩
  obtain ⟨E, f, c', wish, in_i, ⟨ef, ec⟩, ht⟩ := w
  refine wpAny_Call_Name_kw (thn ((pe_var (pos := p1) at_i vis nd nc).run pz z τ G (fun v G1 => v = .ref f ∧ G1 = G) J ⟨.ref f, in_i, rfl, rfl⟩) fun u z1 hu => ?_)
  obtain ⟨v, G1, J1, rv, rfl, rfl⟩ := hu
  obtain rfl : u = Value.ref f := rv
  obtain ⟨pm, ctv, at_f⟩ := lamO_at J1.hok ef
  obtain ⟨⟨oc, vs, t, at_c, dc, vc⟩, _, _⟩ := (show ObjOk _ _ _ _ c' (CodeO c' (X.env.qual ++ "<lambda>")) from J1.hok c' _ ec)
  refine PySem.W.callWith_F0 ⟨_, _, _, _, at_f⟩ (PySem.wpAny_call ?_)
  have un : Un (frs X.stack) [] H G1 s.heap z1.heap := J1.base
  have runs : codeAny (model X.prog X.w) (X.A.deeper (PyProof.Rows.envOfC qg sg s.heap.objs.size g cdg)) (.call (.ref f) ⟨[], []⟩)
      (CR (L2.CX X.prog X.w) (PyProof.Rows.envOfC qg sg s.heap.objs.size g cdg :: X.stack) X.prog X.w G1 z1 Q E) z1 := by
    refine PySem.W.kla_callFunE room.depth at_f rfl L.co L.gen rfl ⟨c', oc, vs, t, rfl, at_c, dc, vc⟩ ?_
    rw [bare]
    refine PySem.wpAny_pure (PySem.wpAny_newFunctionEnv (fun y hy => (L.own y hy).2) (fun y hy => absurd hy (by simp)) (fun h1 ns but => ⟨J1.nolimit.fresh _ but, ?_⟩) L.kind)
    have kp : ∀ b o, z1.heap.get? b = some o → h1.get? b = some o := fun b o e => but.extBut b o (Nat.ne_of_lt (Heap.lt_size e)) (Heap.get?_push_of_some _ e)
    have S := lam_start2 (E := E) (f := f) (c' := c') (tk := z1.toks + ([] : List (Str × Value)).length) I L J1.env0 room.hd un ns kp
    show codeAny _ _ (.expr body (lamEnv X scope z1.heap.objs.size f c')) _ _
    refine PySem.W.kla_codeExpr (PySem.wpAny_mono ((bod _ _ z1 G1 E f c' (room.deeper _)).run [] _ _ G1 Q S ht) (fun v z2 y => ?_) fun _ _ y => y)
    obtain ⟨v', G2, S2, r2, q2⟩ := y
    exact ⟨v', G2, S2.os, S2.bare, S2.base, S2.hok, r2, q2⟩
  refine PySem.codeAny_mono runs ?_
  rintro (er | _ | _ | _ | u) z2 y
  · exact passes_call tk wish pz τ G1 z1 er z2 J1 y
  · exact y.elim
  · exact y.elim
  · exact y.elim
  · exact J1.after y
end
/-! ### a comprehension whose element looks back at the def that holds it -/
section
open PyProof.Rows hiding St
variable {X : Cx}
/-- from the block back to its def -/
def Back (X : Cx) (pins : List (Addr × Obj)) (σ : St) (s : Shared) (H : Hp) (scope : Scope) (ce : Env) (fp : List Addr) : Prop :=
  ∀ (pz : List (Addr × Obj)) (τ : St) (G : Hp) (z : Shared), Inv (X.blk s H scope ce fp) pz τ G z → Inv X pins σ G z
theorem pe_lcB {elt tg iter : Expr} {scope : Scope} {own : List (Str × Nat)} {pos : Pos} {wi : TI} {g : TG} {te : St → TE} (calm : X.calm = true) (nd : X.N.Nodup) (wk : PI X tg iter wi) (bk : BlkOk X.N X.env.scope scope own)
    (gg : ∀ (s : Shared) (H : Hp) (C : Addr) (cl : List (Str × Addr)) (fp : List Addr), PG (X.blk s H scope (compEnvC scope cl C X.env) fp) tg g)
    (ee : ∀ (pins : List (Addr × Obj)) (σ : St) (s : Shared) (H : Hp) (C : Addr) (cl : List (Str × Addr)) (fp : List Addr), Back X pins σ s H scope (compEnvC scope cl C X.env) fp → PE (X.blk s H scope (compEnvC scope cl C X.env) fp) elt (te σ))
    (same : ∀ x, foldedSetIterable iter X.env x = pure x := by intro _; rfl) : PE X (.ListComp elt [⟨tg, iter, [], 0⟩] scope pos) (fun σ H Q => tLc wi g tYes (te σ) (own.map (·.2)) σ H Q) := by
  refine ⟨fun pins s σ H Q I w => ?_⟩
  rw [eval_ListComp]
  have caught : ∀ y ∈ scope.names, y.2 = .free → ∃ c, X.env.cells.lookup y.1 = some c := fun y hy e => (bk.free y hy e).elim (fun k => I.ok.has _ (.inl k)) fun k => I.ok.has _ (.inr k)
  refine wpAny_comprehension_free (use := none) rfl same (closure_ok caught) bk.kind (fun y hy e => by rw [bk.uniq y hy, e]) (thn (wk.run pins s σ H _ I w) fun v1 s1 h1 => thn h1 fun v2 s2 h2 => ?_)
  obtain ⟨it, fp, turn_at, J, H2, rfl, I2, T, st2, frees, w⟩ := h2
  refine wpAny_newObj_type (newEnv_comp ?_) (by show 0 ≤ sizeLine; decide)
  have newD : H2 s2.heap.objs.size = none := I2.hok.fresh (Nat.le_refl _)
  obtain ⟨W, ⟨m0, w0⟩, turn⟩ := w s2.heap.objs.size newD
  generalize eD : s2.heap.objs.size = D at newD w0 turn
  -- the list that is filled
  have stay3 : ∀ b o, s2.heap.get? b = some o → (s2.heap.push { cls := .type "list", data := .seq ([] : List Value).toArray }).get? b = some o := fun b o e => Heap.get?_push_of_some _ e
  have I3 : Inv X pins σ (upd H2 D (.lst [])) { s2 with heap := s2.heap.push { cls := .type "list", data := .seq ([] : List Value).toArray } } :=
    I2.laid (t' := s2.toks) stay3 (Nat.le_of_eq eD) ⟨Nat.zero_le _, [], 0, .nil, by rw [← eD]; exact Heap.get?_push_size _ rfl⟩
  have size3 : (s2.heap.push { cls := .type "list", data := .seq ([] : List Value).toArray }).objs.size = s2.heap.objs.size + 1 := Heap.size_push _ _
  have frees3 : ∀ b ∈ fp, FpOk X pins (upd H2 D (.lst [])) b ∧ b < (s2.heap.push { cls := .type "list", data := .seq ([] : List Value).toArray }).objs.size := fun b hb => by
    obtain ⟨o, e, _⟩ := T.obj _ _ st2 b hb
    have lt := Heap.lt_size e
    refine ⟨⟨?_, (frees b hb).2⟩, by rw [size3]; exact Nat.lt_succ_of_lt lt⟩
    rw [upd_ne (by rw [← eD]; exact Nat.ne_of_lt lt)]
    exact (frees b hb).1
  have st3 : turn_at 0 (s2.heap.push { cls := .type "list", data := .seq ([] : List Value).toArray }) := T.keep _ _ _ st2 fun b _ o e => stay3 b o e
  generalize e3 : ({ s2 with heap := s2.heap.push { cls := .type "list", data := .seq ([] : List Value).toArray } } : Shared) = s3 at I3
  have h3 : s3.heap = s2.heap.push { cls := .type "list", data := .seq ([] : List Value).toArray } := by rw [← e3]
  rw [← h3] at frees3 st3
  have I4 := block_start I3 bk nd frees3
  have pg := gg s3 (upd H2 D (.lst [])) s3.heap.objs.size (cellsFrom (s3.heap.objs.size + 1) scope.names (cloFrom X.env.cells scope.names [])) fp
  have pe := ee pins σ s3 (upd H2 D (.lst [])) s3.heap.objs.size (cellsFrom (s3.heap.objs.size + 1) scope.names (cloFrom X.env.cells scope.names [])) fp
  show codeAny _ _ (.compStart (.ListComp elt [⟨tg, iter, [], 0⟩] scope pos) 0 (.ref it) (.ref D) (compEnvC scope (cellsFrom (s3.heap.objs.size + 1) scope.names (cloFrom X.env.cells scope.names [])) s3.heap.objs.size X.env))
    (compPost (model X.prog X.w) X.A X.xe none (EP X pins σ Q) (.ref D) s3.heap.objs.size) { s3 with heap := pushCells (s3.heap.push { cls := .type "dict", data := .dict #[] }) scope.names }
  have free3 : ∀ b ∈ fp, (upd H2 D (.lst [])) b = none := fun b hb => (frees3 b hb).1.1
  generalize eC : compEnvC scope (cellsFrom (s3.heap.objs.size + 1) scope.names (cloFrom X.env.cells scope.names [])) s3.heap.objs.size X.env = ce at I4 pg pe ⊢
  have locals : ce.locals = s3.heap.objs.size := by rw [← eC]; rfl
  generalize eH : upd H2 D (.lst []) = H3 at I3 I4 pg pe w0 free3 frees3
  generalize e4 : ({ s3 with heap := pushCells (s3.heap.push { cls := .type "dict", data := .dict #[] }) scope.names } : Shared) = s4 at I4 ⊢
  have st4 : turn_at 0 s4.heap := T.keep _ _ _ st3 fun b _ o e => by
    rw [← e4]
    exact pushCells_keeps _ _ _ _ (Heap.get?_push_of_some _ e)
  -- the way back
  have back : Back X pins σ s3 H3 scope ce fp := fun pz τ G z V => I3.call' (ch := fp) V.os V.base V.hok V.bare fun b hb => by
    obtain ⟨⟨_, y1, _, y3, y4, y5⟩, _⟩ := frees3 b hb
    exact ⟨y3, y1, y4, y5⟩
  have walked : ∀ {τ : St} {G : Hp} {z : Shared}, Inv (X.blk s3 H3 scope ce fp) [] τ G z → (∀ b ∈ fp, G b = none) → ∀ b ∈ fp, FpOk (X.blk s3 H3 scope ce fp) [] G b := fun {τ G z} V n b hb =>
    ⟨n b hb, (V.ok.exf b hb).1, V.ok.exfs b hb, .inl hb, fun x c e => (V.ok.exf b hb).2 x c e, fun p hp => absurd (show p ∈ ([] : List (Addr × Obj)) ++ [] from hp) (by simp)⟩
  have loop : codeAny (model X.prog X.w) X.A (.compLoop (.ListComp elt [⟨tg, iter, [], 0⟩] scope pos) 0 (.ref it) (.ref D) ce) (compPost (model X.prog X.w) X.A X.xe none (EP X pins σ Q) (.ref D) s3.heap.objs.size) s4 := by
    refine compLoop_any (fun n z => ∃ i G, Inv (X.blk s3 H3 scope ce fp) [] (wipe σ (own.map (·.2))) G z ∧ turn_at i z.heap ∧ (∀ b ∈ fp, G b = none) ∧ W i n G) ?_ m0 ⟨0, H3, I4, st4, free3, w0⟩
    rintro n z5 ⟨i, G5, V5, st5, n5, w5⟩
    rcases turn i n G5 w5 with ⟨stop, done⟩ | ⟨go, Nx, next, step⟩
    · refine thnF (T.done (X.blk s3 H3 scope ce fp) rfl rfl rfl calm i [] z5 _ G5 (fun _ _ => False) V5 (walked V5 n5) st5 stop) fun r z6 hz => ?_
      obtain ⟨rfl, V6⟩ := hz
      have I7 := back [] _ _ _ V6
      obtain ⟨m, ns, _⟩ := V6.loc
      have ns2 : z6.heap.Ns s3.heap.objs.size m := locals ▸ (show z6.heap.Ns ce.locals m from ns)
      have nC : G5 s3.heap.objs.size = none := locals ▸ (show G5 ce.locals = none from V6.free)
      obtain ⟨f0, f1, f2, f3, f4, f5⟩ := I3.fpOk (Nat.le_refl _) nC
      exact ⟨m, ns2, fun h'' but => ⟨.ref D, G5, I7.turned (t' := z6.toks) (fun b o hb e => (but.2 b hb).trans e) f0 f1 f3 f4 f5, rfl, done⟩⟩
    · refine thnF (T.item (X.blk s3 H3 scope ce fp) rfl rfl rfl calm i [] z5 _ G5 (fun _ _ => False) V5 (walked V5 n5) st5 go) fun r z6 hz => ?_
      obtain ⟨u, rfl, hz⟩ := hz
      refine thnF hz fun _ z7 hz => ?_
      obtain ⟨x, G7, V7, r7, y7, st7, n7⟩ := hz
      have V7' := V7.pinned (walked V7 n7) (T.obj _ _ st7)
      refine thnF (pg.run _ z7 _ G7 x u _ V7' r7 (step x G7 y7)) fun _ z8 hz => ?_
      obtain ⟨τ8, G8, V8, wiped, yes⟩ := hz
      refine thnF (((pts_nil : PTs (X.blk s3 H3 scope ce fp) [] tYes)).run _ z8 τ8 G8 (fun b G => b = true ∧ te σ τ8 G fun y H4 => ∃ acc, H4 D = some (.lst acc) ∧ acc.length < sizeLine ∧ Nx (upd H4 D (.lst (acc ++ [y])))) V8 ⟨rfl, yes⟩) fun b z9 hz => ?_
      obtain ⟨G9, V9, rfl, q9⟩ := hz
      simp only [if_true]
      refine thnF ((pe back).run _ z9 τ8 G9 _ V9 q9) fun y z10 hz => ?_
      obtain ⟨yv, G10, V10, r10, acc, atD, few, nx⟩ := hz
      refine app_ok (X := X.blk s3 H3 scope ce fp) V10 atD few r10 fun z11 V11 => ?_
      obtain ⟨m', less, w'⟩ := next _ nx
      have pinned : ∀ b ∈ fp, ∀ o, z7.heap.get? b = some o → z11.heap.get? b = some o ∧ (upd G10 D (.lst (acc ++ [yv]))) b = none := fun b hb o e =>
        let y := V11.pin (b, o) (List.mem_append_right _ (List.mem_append_right _ (mem_pinsAt hb e)))
        ⟨y.1, y.2.1⟩
      refine ⟨m', less, i + 1, _, (V11.unpinned (pins := [])).weak (by rw [← wiped, wipe_length]) (fun j v e => ?_), T.keep _ _ _ st7 fun b hb o e => (pinned b hb o e).1, fun b hb => ?_, w'⟩
      · rw [← wiped] at e
        exact (wipe_some e).1
      · obtain ⟨o, e, _⟩ := T.obj _ _ st7 b hb
        exact (pinned b hb o e).2
  exact codeAny_compStart_list loop (T.self X.A 0 _ _ _ st4 loop)
end
/-! ### a def that is handed a lambda and calls it -/
section
open LamX
/-- a lambda of the def X: its text, and what it does -/
structure LamD (X : Cx) (k : Nat) where
  params : Arguments
  body : Expr
  scope : Scope
  t : XK → TE
  L : LamS X.env.scope scope
  bare : Bare X params body scope
  bod : ∀ (A : Around) (outer : List Env) (s : Shared) (H : Hp) (E : XK) (f c' : Addr), Room k (A.deeper (lamEnv X scope s.heap.objs.size f c')) → PE (lamCx X A outer s H E scope f c') body (t E)
abbrev LamD.at {X : Cx} {k : Nat} (d : LamD X k) (f c' : Addr) (G : Hp) : Prop := LamF X f d.params d.body d.scope c' G
/-- the def x stands at g, as the text wrote it: one parameter a, the slots Ng -/
structure OneP (K : PySem.W.Frag) (mg : Str → Option Value) (x a : Str) (Ng : List Str) (st : Stmt) (g : Addr) (cdv : Value) : Prop where
  at_ : mg x = some (.ref g)
  kp : PySem.W.keepIn K (.ref g) = true
  lk : ∃ (oc kV doc pm ct : Value) (od an : Option Addr) (osl : Array (Option Value)), K.lookup g = some ⟨oc, od, .func (PySem.W.fnOf x x (defArgs st) (defBody st) (defScope st) .none kV doc pm an cdv ct), osl⟩ ∧
    Binds K (PySem.W.fnOf x x (defArgs st) (defBody st) (defScope st) .none kV doc pm an cdv ct) [a] []
  cd : PySem.W.codeIn K cdv x = true
  sc : FnScope Ng [a] (defScope st)
  slot : Ng[0]? = some a
  vis : Vis (defScope st) a
/-- the def's body does TT of whatever the lambda does -/
def Handed (X : Cx) (k : Nat) (x a : Str) (Ng : List Str) (st : Stmt) (g : Addr) (cdv : Value) (TT : (XK → Hp → VK → Prop) → Hp → VK → Prop) : Prop :=
  ∀ (d : LamD X k) (f c' : Addr) (s : Shared) (H : Hp) (Q : VK) (tl : XK → Hp → VK → Prop), d.at f c' H →
    (∀ (W : WX) (pn : List (Addr × Obj)) (xe : Value → Shared → Prop) (p1 p2 : Pos), Takes ((cxOf CX0 X.prog X.w X.K X.mg X.base Ng x (defScope st) g cdv X.A X.stack s H E0).tr pn xe) W →
      PE ((cxOf CX0 X.prog X.w X.K X.mg X.base Ng x (defScope st) g cdv X.A X.stack s H E0).tr pn xe) (.Call (.Name a p1) [] [] p2) (fun τ G R => ∃ (E : XK) (f' c'' : Addr), (∀ cls dd τ G, E cls dd G → W cls dd τ G) ∧ τ[0]? = some (some (.ref f')) ∧ d.at f' c'' G ∧ tl E G R)) →
    TT tl H Q → ∃ t, PSs (cxOf CX0 X.prog X.w X.K X.mg X.base Ng x (defScope st) g cdv X.A X.stack s H E0).nox (defBody st) t ∧ t { nx := fun _ G => Q .non G, rt := Q } (L2.start Ng [.ref f]) H
section
variable {X : Cx} {pins : List (Addr × Obj)} {σ : St} {H : Hp} {s : Shared} {k : Nat} {x a : Str} {Ng : List Str} {st : Stmt} {g : Addr} {cdv : Value} {TT : (XK → Hp → VK → Prop) → Hp → VK → Prop}
theorem run_handed {Q : VK} (I : Inv X pins σ H s) (D : OneP X.K X.mg x a Ng st g cdv) (room : Room (k + 2) X.A) (G : Handed X k x a Ng st g cdv TT) (d : LamD X k) {f c' : Addr} (kn : d.at f c' H) (nd : (a == ("__debug__" : Str)) = false) (nc : (a == ("__classdict__" : Str)) = false)
    (w : TT (fun E G' Q' => d.t E σ G' Q') H Q) : codeAny (model X.prog X.w) X.A (.call (.ref g) ⟨[.ref f], []⟩) (CR CX0 X.stack X.prog X.w H s Q E0) s := by
  obtain ⟨oc, kV, doc, pm, ct, od, an, osl, lk, bi⟩ := D.lk
  refine run_ofS (N := Ng) (ps := [a]) (us := [.ref f]) (vs := [.ref f]) lk D.cd D.sc room I.env0 (bi s [.ref f] I.kIn rfl) (.cons rfl .nil) rfl fun room' => ?_
  obtain ⟨t, ht, q⟩ := G d f c' s H Q _ kn (fun W pn xe p1 p2 tk => pe_act2 (i := 0) I d.L d.bare tk room' (fun A outer s H E f c' r => d.bod A outer s H E f c' r) D.slot D.vis nd nc) w
  exact ⟨t, ht.nox, q⟩
/-- x(e), e a lambda of X -/
theorem pe_handX {e : Expr} {te : TE} {p pos : Pos} (D : OneP X.K X.mg x a Ng st g cdv) (room : Room (k + 2) X.A) (G : Handed X k x a Ng st g cdv TT) (gl : Gl X x) (he : PE X e te) (nd : (a == ("__debug__" : Str)) = false := by decide) (nc : (a == ("__classdict__" : Str)) = false := by decide) (ndx : (x == ("__debug__" : Str)) = false := by decide)
    (ev : starEach [e] X.env = (false, eval e X.env) :: starEach [] X.env := by rfl) (pl : (backTo pos (starEach [] X.env)).any (·.1) = false := by rfl) :
    PE X (.Call (.Name x p) [e] [] pos) (fun σ H Q => te σ H fun v H1 => ∃ (d : LamD X k) (f c' : Addr), v = .ref f ∧ d.at f c' H1 ∧ TT (fun E G' Q' => d.t E σ G' Q') H1 Q) := by
  refine ⟨fun pins s σ H Q I h => wpAny_Call_Name_kw (ld_glob I gl D.at_ (PySem.W.callWith_K (h₀ := X.base) I.ok.mod.kin D.kp (thn ((pa_cons he pa_nil ev).run pos pins s σ H (fun vs H1 => match vs with | [v] => ∃ (d : LamD X k) (f c' : Addr), v = .ref f ∧ d.at f c' H1 ∧ TT (fun E G' Q' => d.t E σ G' Q') H1 Q | _ => False) I ?_) fun us s1 hu => ?_) ev pl) ndx)⟩
  · exact h
  · obtain ⟨vs, H1, I1, r, w⟩ := hu
    obtain ⟨v, rfl⟩ : ∃ v, vs = [v] := by
      match vs, w with
      | [v], _ => exact ⟨v, rfl⟩
    obtain ⟨d, f, c', rfl, kn, w⟩ := w
    obtain ⟨u, rfl, ru⟩ := vals1 r
    obtain rfl : u = Value.ref f := ru
    refine ⟨I1.kIn, PySem.wpAny_call (PySem.codeAny_mono (run_handed I1 D room G d kn nd nc w) ?_)⟩
    rintro (er | _ | _ | _ | u) s2 y
    · exact y.elim
    · exact y.elim
    · exact y.elim
    · exact y.elim
    · exact I1.after y
def tHandB (X : Cx) (k : Nat) (TT : (XK → Hp → VK → Prop) → Hp → VK → Prop) (te : TE) (σ : St) : TE := fun τ H Q => te τ H fun v H1 => ∃ (d : LamD X k) (f c' : Addr), v = .ref f ∧ d.at f c' H1 ∧ TT (fun E G' Q' => d.t E σ G' Q') H1 Q
/-- the same in a comprehension's block, whose def is X -/
theorem pe_handB {s0 : Shared} {H0 : Hp} {scope : Scope} {ce : Env} {fp : List Addr} {e : Expr} {te : TE} {p pos : Pos} (bk : Back X pins σ s0 H0 scope ce fp) (D : OneP X.K X.mg x a Ng st g cdv) (room : Room (k + 2) X.A) (G : Handed X k x a Ng st g cdv TT) (gl : Gl (X.blk s0 H0 scope ce fp) x)
    (he : PE (X.blk s0 H0 scope ce fp) e te) (nd : (a == ("__debug__" : Str)) = false := by decide) (nc : (a == ("__classdict__" : Str)) = false := by decide) (ndx : (x == ("__debug__" : Str)) = false := by decide)
    (ev : starEach [e] (X.blk s0 H0 scope ce fp).env = (false, eval e (X.blk s0 H0 scope ce fp).env) :: starEach [] (X.blk s0 H0 scope ce fp).env := by rfl) (pl : (backTo pos (starEach [] (X.blk s0 H0 scope ce fp).env)).any (·.1) = false := by rfl) :
    PE (X.blk s0 H0 scope ce fp) (.Call (.Name x p) [e] [] pos) (tHandB X k TT te σ) := by
  refine ⟨fun pz z τ H Q I h => wpAny_Call_Name_kw (ld_glob I gl D.at_ (PySem.W.callWith_K (h₀ := X.base) I.ok.mod.kin D.kp (thn ((pa_cons he pa_nil ev).run pos pz z τ H (fun vs H1 => match vs with | [v] => ∃ (d : LamD X k) (f c' : Addr), v = .ref f ∧ d.at f c' H1 ∧ TT (fun E G' Q' => d.t E σ G' Q') H1 Q | _ => False) I ?_) fun us s1 hu => ?_) ev pl) ndx)⟩
  · exact h
  · obtain ⟨vs, H1, I1, r, w⟩ := hu
    obtain ⟨v, rfl⟩ : ∃ v, vs = [v] := by
      match vs, w with
      | [v], _ => exact ⟨v, rfl⟩
    obtain ⟨d, f, c', rfl, kn, w⟩ := w
    obtain ⟨u, rfl, ru⟩ := vals1 r
    obtain rfl : u = Value.ref f := ru
    refine ⟨I1.kIn, PySem.wpAny_call (PySem.codeAny_mono (run_handed (bk _ _ _ _ I1) D room G d kn nd nc w) ?_)⟩
    rintro (er | _ | _ | _ | u) s2 y
    · exact y.elim
    · exact y.elim
    · exact y.elim
    · exact y.elim
    · exact I1.after y
end
end
/-! ### the law's own call, with a table of code objects that its lambdas fill -/
section
open LamX
/-- the abstract heap H tells of the script at a, of the empty table at Pt, and of nothing else -/
structure SoleT (P : Program) (w : World) (K : PySem.W.Frag) (H : Hp) (h : Heap) (a Pt : Addr) (ns : List Int) : Prop where
  only : ∀ b, H b = none ∨ b = Pt ∨ ∃ o xs, H b = some (.frz o (.lst xs))
  seq : SqL K H a (ns.map V.int)
  ok : HOk P w H h
  known : ∀ b, H b ≠ none → b = a ∨ b = Pt
  notK : H a ≠ none → K.lookup a = none
  tab : H Pt = some (.tbl #[])
/-- the empty table of a code object -/
abbrev noTab : Obj := { cls := .none, data := .fields #[] }
theorem sole_runT {P : Program} {w : World} {K : PySem.W.Frag} {mg mb : Str → Option Value} {CX : CXT} {k : Nat} {fa a c Pt : Addr} {fd : FuncData} {x : Str} {sp : Sp} {s₁ : Shared} {vs : List Value} {ns : List Int} {H : Hp}
    (Z : SoleT P w K H s₁.heap a Pt ns) (KX : K.In s₁.heap) (gN : s₁.heap.Ns mainGlobals mg) (bN : s₁.heap.Ns builtinsNs mb) (bB : ∀ y : Str, y ≠ "__name__" → mb y = bootBuiltins y) (lim : s₁.heap.NoLimit) (gens0 : s₁.gens = #[])
    (obj : s₁.heap.get? a = some { cls := .type "list", data := .seq vs.toArray }) (tabO : s₁.heap.get? Pt = some noTab) (tabK : K.lookup Pt = none) (hd : PySem.W.CodeHd s₁.heap c Pt)
    (main : ∃ (bm : Addr) (ob : Obj), mg "__builtins__" = some (.ref bm) ∧ bm ≠ builtinsNs ∧ s₁.heap.get? bm = some ob ∧ ob.cls = .type "module" ∧ ob.dict = some builtinsNs ∧ ob.data = .plain)
    (room : Room k callerA) (F : ∀ base : Heap, K.In base → base.Ns mainGlobals mg → TabB base mg c Pt → FnG P w K mg base CX k fa fd [x] sp)
    (bind : ∀ (s : Shared) (u : Value), BindsTo s fd ⟨[u], []⟩ [(x, u)]) (want : ∀ H : Hp, H Pt = some (.tbl #[]) → SqL K H a (ns.map V.int) → sp [.ref a] H (fun v _ => v = .bl true) fun _ _ _ => False)
    (noX : ∀ H e s', CX [] H s₁ (fun _ _ _ => False) e s' → False) : codeAny (model P w) callerA (.call (.ref fa) ⟨[.ref a], []⟩) (Wanted s₁) s₁ := by
  -- what H tells of an address is the script's list or the table
  have told : ∀ {b : Addr} {o : Obj}, s₁.heap.get? b = some o → H b ≠ none → o.data = .seq vs.toArray ∨ o.data = .fields #[] := fun {b o} g n => by
    rcases Z.known b n with e | e
    · rw [e, obj] at g
      rw [← Option.some.inj g]
      exact .inl rfl
    · rw [e, tabO] at g
      rw [← Option.some.inj g]
      exact .inr rfl
  have hid : ∀ {b : Addr} {o : Obj}, s₁.heap.get? b = some o → ¬ H b ≠ none → (hidT s₁.heap H).get? b = some o := fun g n => hidT_get g (Classical.byContradiction n)
  have names : ∀ {b : Addr} {m : Str → Option Value}, s₁.heap.Ns b m → (hidT s₁.heap H).Ns b m := by
    rintro b m ⟨o, es, ep, g, d, r⟩
    refine ⟨o, es, ep, hid g fun n => ?_, d, r⟩
    rcases told g n with e | e
    · rw [e] at d
      exact Data.noConfusion d
    · rw [e] at d
      exact Data.noConfusion d
  have part : K.In (hidT s₁.heap H) := fun b o g => hid (KX b o g) fun n => by
    rcases Z.known b n with e | e
    · subst e
      rw [Z.notK n] at g
      cases g
    · subst e
      rw [tabK] at g
      cases g
  obtain ⟨mc, c1, c2⟩ := lim
  have md : Mod K mg (hidT s₁.heap H) := ⟨part, names gN, ⟨mb, names bN, bB⟩, ⟨mc, names c1, c2⟩⟩
  have apart : ∀ {bm : Addr} {o : Obj}, s₁.heap.get? bm = some o → o.data = .plain → bm ≠ Pt ∧ ¬ H bm ≠ none := fun {bm o} g d => by
    refine ⟨fun m => ?_, fun n => ?_⟩
    · rw [m, tabO] at g
      rw [← Option.some.inj g] at d
      exact Data.noConfusion d
    · rcases told g n with e | e
      · rw [d] at e
        exact Data.noConfusion e
      · rw [d] at e
        exact Data.noConfusion e
  have TB : TabB (hidT s₁.heap H) mg c Pt := by
    refine ⟨?_, ?_, fun m => ?_⟩
    · obtain ⟨o, us, file, tf, flags, tg, inF, text, tt, q1, q2, q3, q⟩ := id hd
      refine ⟨o, us, file, tf, flags, tg, inF, text, tt, hid q1 fun n => ?_, q2, q3, q⟩
      rcases told q1 n with e | e
      · rw [q3] at e
        exact Data.noConfusion e
      · rw [q3] at e
        obtain ⟨q4, _⟩ := q
        injection e with e
        rw [e] at q4
        simp at q4
    · obtain ⟨bm, ob, b1, b2, b3, b4, b5, b6⟩ := main
      obtain ⟨n1, n2⟩ := apart b3 b6
      refine ⟨bm, ob, b1, b2, fun m => ?_, n1, hid b3 n2, b4, b5, b6⟩
      obtain ⟨o, es, ep, g, d, _⟩ := gN
      rw [m, g] at b3
      rw [← Option.some.inj b3, d] at b6
      exact Data.noConfusion b6
    · obtain ⟨o, es, ep, g, d, _⟩ := gN
      rw [m, tabO] at g
      rw [← Option.some.inj g] at d
      exact Data.noConfusion d
  have e0 : Env0 P w K mg (hidT s₁.heap H) callerA [] s₁ H := ⟨rfl, md, fun _ _ g => of_hidT g, Nat.le_of_eq (hidT_size _ _), trivial, fun b m => absurd m (List.not_mem_nil (a := b)), Z.ok, PyProof.Rows.AllBare.of_eq gens0⟩
  refine codeAny_mono ((F _ part (names gN) TB).goes callerA [] s₁ H ⟨[.ref a], []⟩ [.ref a] [.ref a] _ _ rfl room e0 (bind s₁ (.ref a)) (.cons rfl .nil) (want H Z.tab Z.seq)) ?_
  rintro (er | _ | _ | _ | u) s' q
  · exact (noX H er s' q).elim
  · exact q.elim
  · exact q.elim
  · exact q.elim
  · obtain ⟨v, H', os, bare, un, ok', rv, rfl⟩ := q
    obtain rfl : u = Value.bool true := rv
    have stay : ∀ b o, b ≠ Pt → s₁.heap.get? b = some o → s'.heap.get? b = some o := fun b o nb g => by
      rcases Z.only b with n | n | ⟨ob, xs, n⟩
      · exact un.keep b o g n (fun m => by cases m) (fun m => by cases m)
      · exact absurd n nb
      · have g1 := (Z.ok b _ n).1
        have g2 := (ok' b _ (un.frzs b ob _ n)).1
        rw [g] at g1
        rw [g2, Option.some.inj g1]
    obtain ⟨more, gm⟩ := un.tbls Pt #[] Z.tab
    have grown : s'.heap.get? Pt = some { cls := .none, data := .fields more } := by
      have z : s'.heap.get? Pt = some { cls := .none, data := .fields (#[] ++ more) } := ok' Pt _ gm
      rw [Array.empty_append] at z
      exact z
    refine ⟨rfl, ⟨fun b o g => ?_, fun b o g => ?_⟩, os, bare⟩
    · by_cases m : b = Pt
      · subst m
        rw [tabO] at g
        cases g
        exact .inr (.inl ⟨(hd.tab tabO).isCodeTable, rfl, #[], more, rfl, by first | exact grown | (rw [Array.empty_append]; exact grown)⟩)
      · exact .inl (stay b o m g)
    · by_cases m : b = Pt
      · subst m
        exact ⟨_, grown⟩
      · exact ⟨o, stay b o m g⟩
theorem law_callGT {P : Program} {w : World} {K : PySem.W.Frag} {mg mb : Str → Option Value} {CX : CXT} {k : Nat} {fa a c Pt : Addr} {fd : FuncData} {x : Str} {sp : Sp} {s₁ : Shared} {vs : List Value} {ns : List Int} (KX : K.In s₁.heap) (gN : s₁.heap.Ns mainGlobals mg)
    (bN : s₁.heap.Ns builtinsNs mb) (bB : ∀ y : Str, y ≠ "__name__" → mb y = bootBuiltins y) (lim : s₁.heap.NoLimit) (gens0 : s₁.gens = #[]) (obj : s₁.heap.get? a = some { cls := .type "list", data := .seq vs.toArray }) (hints : PyProof.Rows.IntsAre vs ns) (few : ns.length ≤ sizeLine)
    (tabO : s₁.heap.get? Pt = some noTab) (tabK : K.lookup Pt = none) (hd : PySem.W.CodeHd s₁.heap c Pt)
    (main : ∃ (bm : Addr) (ob : Obj), mg "__builtins__" = some (.ref bm) ∧ bm ≠ builtinsNs ∧ s₁.heap.get? bm = some ob ∧ ob.cls = .type "module" ∧ ob.dict = some builtinsNs ∧ ob.data = .plain)
    (room : Room k callerA) (F : ∀ base : Heap, K.In base → base.Ns mainGlobals mg → TabB base mg c Pt → FnG P w K mg base CX k fa fd [x] sp) (bind : ∀ (s : Shared) (u : Value), BindsTo s fd ⟨[u], []⟩ [(x, u)])
    (want : ∀ H : Hp, H Pt = some (.tbl #[]) → SqL K H a (ns.map V.int) → sp [.ref a] H (fun v _ => v = .bl true) fun _ _ _ => False) (noX : ∀ H e s', CX [] H s₁ (fun _ _ _ => False) e s' → False) :
    codeAny (model P w) callerA (.call (.ref fa) ⟨[.ref a], []⟩) (Wanted s₁) s₁ := by
  have rv := vals_ints hints
  have many := hints.length
  have ne : a ≠ Pt := fun m => by
    rw [m, tabO] at obj
    cases obj
  by_cases hk : K.lookup a = none
  · -- the script is the caller's own: told as a locked list
    generalize eH : (fun b : Addr => if b = a then some (HO.frz { cls := .type "list", data := .seq vs.toArray } (.lst (ns.map V.int))) else if b = Pt then some (.tbl #[]) else none) = H
    have at_a : H a = some (HO.frz { cls := .type "list", data := .seq vs.toArray } (.lst (ns.map V.int))) := by
      rw [← eH]
      exact if_pos rfl
    have at_t : H Pt = some (.tbl #[]) := by
      rw [← eH]
      exact (if_neg (Ne.symm ne)).trans (if_pos rfl)
    have else_ : ∀ b, b ≠ a → b ≠ Pt → H b = none := fun b n1 n2 => by
      rw [← eH]
      exact (if_neg n1).trans (if_neg n2)
    refine sole_runT (H := H) ⟨fun b => ?_, .inl (.inr ⟨_, at_a⟩), fun b u z => ?_, fun b n => ?_, fun _ => hk, at_t⟩ KX gN bN bB lim gens0 obj tabO tabK hd main room F bind want noX
    · by_cases e1 : b = a
      · exact .inr (.inr ⟨_, _, by rw [e1]; exact at_a⟩)
      · by_cases e2 : b = Pt
        · exact .inr (.inl e2)
        · exact .inl (else_ b e1 e2)
    · by_cases e1 : b = a
      · subst e1
        obtain rfl := Option.some.inj (at_a.symm.trans z)
        exact ⟨obj, by rw [List.length_map]; exact few, vs, _, rv, obj⟩
      · by_cases e2 : b = Pt
        · subst e2
          obtain rfl := Option.some.inj (at_t.symm.trans z)
          exact tabO
        · rw [else_ b e1 e2] at z
          cases z
    · by_cases e1 : b = a
      · exact .inl e1
      · by_cases e2 : b = Pt
        · exact .inr e2
        · exact absurd (else_ b e1 e2) n
  · -- the script is one of the module's objects
    obtain ⟨o, ho⟩ := Option.ne_none_iff_exists'.mp hk
    have eo := Option.some.inj (obj.symm.trans (KX a o ho))
    generalize eH : (fun b : Addr => if b = Pt then some (HO.tbl #[]) else none) = H
    have at_t : H Pt = some (.tbl #[]) := by
      rw [← eH]
      exact if_pos rfl
    have else_ : ∀ b, b ≠ Pt → H b = none := fun b n => by
      rw [← eH]
      exact if_neg n
    refine sole_runT (H := H) ⟨fun b => ?_, .inr ⟨o, vs.toArray, 0, ho, by rw [← eo], by rw [← eo], by rw [← eo], by rw [List.size_toArray, many]; exact few, by simpa using rv⟩, fun b u z => ?_, fun b n => ?_, fun n => absurd (else_ a ne) n, at_t⟩ KX gN bN bB lim gens0 obj tabO tabK hd main room F bind want noX
    · by_cases e2 : b = Pt
      · exact .inr (.inl e2)
      · exact .inl (else_ b e2)
    · by_cases e2 : b = Pt
      · subst e2
        obtain rfl := Option.some.inj (at_t.symm.trans z)
        exact tabO
      · rw [else_ b e2] at z
        cases z
    · by_cases e2 : b = Pt
      · exact .inr e2
      · exact absurd (else_ b e2) n
/-- the goal behind the head, by such a promise -/
theorem walk_ofGT {l : PySem.W.OpenLaw} {n k : Nat} {q : Program} {loose : List Str} {XP : (Str → Option Value) → Heap → Prop} {YP : World → Heap → Prop} {d : DefRec} {K : Params → PySem.W.Frag} {CX : World → CXT} {sp : World → Addr → Sp} {x : Str}
    (hn : l.most = some n) (few : n ≤ sizeLine) (hdf : d.params.defaults = []) (room : Room k callerA) (hY : ∀ (w : World) (h : Heap), YP w h → (K w.params).In h)
    (F : ∀ (w : World) (mg : Str → Option Value) (fa : Addr) (h : Heap), YP w h → (K w.params).In h → h.Ns mainGlobals mg → mg d.name = some (.ref fa) → ∃ (fd : FuncData) (c Pt : Addr), (∀ (s : Shared) (u : Value), BindsTo s fd ⟨[u], []⟩ [(x, u)]) ∧
      h.get? Pt = some noTab ∧ (K w.params).lookup Pt = none ∧ PySem.W.CodeHd h c Pt ∧
      (∀ base : Heap, (K w.params).In base → base.Ns mainGlobals mg → TabB base mg c Pt → FnG l.prog w (K w.params) mg base (CX w) k fa fd [x] (sp w Pt)))
    (want : ∀ (w : World) (Pt : Addr) (H : Hp) (a : Addr) (ns : List Int), ns.length ≤ n → H Pt = some (.tbl #[]) → SqL (K w.params) H a (ns.map V.int) → sp w Pt [.ref a] H (fun v _ => v = .bl true) fun _ _ _ => False)
    (noX : ∀ (w : World) (H : Hp) (s : Shared) (e : Value) (s' : Shared), CX w [] H s (fun _ _ _ => False) e s' → False) : PySem.W.WalkO q loose XP YP l.row.toRowW d [] (fun f vs => PySem.call f vs) :=
  Att.attach_call hn hdf fun w s₀ s₁ mg mb fa o pm cd doc a vs ns G Y ho hd hcd hmg hobj hints hlen hg => by
    have KX := hY w _ Y
    obtain ⟨fd, c, Pt, hb, t1, t2, t3, hF⟩ := F w mg fa _ Y KX G.T.g hmg
    exact law_callGT KX G.T.g G.T.b G.T.builtins G.T.nolimit hg hobj hints (Nat.le_trans hlen few) t1 t2 t3 G.T.bmain room hF hb (fun H z1 z2 => want w Pt H a ns hlen z1 z2) fun H e s' => noX w H s₁ e s'
end
/-! ### own operators with an int on either side (gathered from k12) -/
section
variable {X : Cx} {C : Addr} {k k' : Nat} {ps ps' : List Str} {sp sp' : Sp} {E : XK}
theorem op_ownIO {op : Operator} {fo ro : Option Value} (m : OwnM X.prog X.w X.K X.mg X.base C k (PySem.dunder op.info.2) ps sp) (mr : OwnM X.prog X.w X.K X.mg X.base C k' (dunderR op.info.2) ps' sp') (hr : Room k X.A) (hx : Passes (L2.CX X.prog X.w) X E) (hc : PySem.W.selfFirst X.K C = true)
    (h1 : PySem.W.findIn X.K (.type "int") (PySem.dunder op.info.2) = some fo) (h2 : PySem.W.findIn X.K (.type "int") (dunderR op.info.2) = some ro) (hsub : PySem.W.subIn X.K (.type "int") (.ref C) = some false) : OpR X (binaryOp op) (rOwnI C sp E) := by
  obtain ⟨f, fd, hs, hf, hb, F⟩ := m
  obtain ⟨f', fd', hs', _⟩ := mr
  exact op_ownI F hr hb hx hc hs hf hs' (.inr ⟨_, rfl⟩) h1 h2 hsub
theorem op_ownRO {op : Operator} {B : Builtin} {idl : String} (m : OwnM X.prog X.w X.K X.mg X.base C k' (PySem.dunder op.info.2) ps' sp') (mr : OwnM X.prog X.w X.K X.mg X.base C k (dunderR op.info.2) ps sp) (hr : Room k X.A) (hx : Passes (L2.CX X.prog X.w) X E) (hc : PySem.W.selfFirst X.K C = true)
    (fillsI : fillsNumberSlot (.type "int") op.info.2 = pure true) (slot : Slot "int" (PySem.dunder op.info.2) idl) (entry : entryFor table idl = some B) (args : ∀ a b : Value, argsOk idl ⟨[a, b], []⟩)
    (g : ∀ (i : Int) (t : Tok) (x C dx : Addr), Meets (B ⟨[.int i t, .ref x], []⟩) (fun _ R s => s.heap.get? x = some (PySem.W.instObj C dx) ∧ R (.ok (.ret .notImplemented)) s)) (hsub : PySem.W.subIn X.K (.ref C) (.type "int") = some false) : OpR X (binaryOp op) (rOwnR C sp E) := by
  obtain ⟨f, fd, hs, hf, hb, F⟩ := mr
  obtain ⟨f', fd', hs', _⟩ := m
  exact op_ownR F hr hb hx hc hs' hs hf fillsI slot entry args g hsub
end
section
variable {K : PySem.W.Frag}
theorem fi_floordiv : PySem.W.findIn K (.type "int") (PySem.dunder "floordiv") = some (some (.builtin "int.__floordiv__")) := by kernel_rfl
theorem fr_floordiv : PySem.W.findIn K (.type "int") (dunderR "floordiv") = some (some (.builtin "int.__rfloordiv__")) := by kernel_rfl
theorem fi_mod : PySem.W.findIn K (.type "int") (PySem.dunder "mod") = some (some (.builtin "int.__mod__")) := by kernel_rfl
theorem fr_mod : PySem.W.findIn K (.type "int") (dunderR "mod") = some (some (.builtin "int.__rmod__")) := by kernel_rfl
end
/-! ### dicts whose keys are tuples of ints, texts and None: told by an own description -/
section
def lV : Leaf → V
  | .none => .non
  | .num i => .int i
  | .text x => .str x
/-- the entries: keys, where their tuples stand, values -/
abbrev Ents : Type := List (List Leaf × Addr × V)
def dRow3 (p : List Leaf × Addr × V) (q : List Leaf × Addr × Value) : Prop := p.1 = q.1 ∧ p.2.1 = q.2.1 ∧ RelV p.2.2 q.2.2
def dObj (P : Program) (w : World) (a : Addr) (kbs : Ents) : HO := .ext fun h => ∃ xs : List (List Leaf × Addr × Value), Paired dRow3 kbs xs ∧
  (∃ o es ep, h.get? a = some o ∧ o.ExactDict ∧ o.data = .dict es ep ∧ es.toList = xs.map (entryOfKey (tupleKind (leafKind P w)))) ∧ (xs.map (·.1)).Nodup ∧ (a == sysModules) = false ∧ kbs.length ≤ sizeLine
/-- such a dict stands at a, and its keys' tuples where they are said to -/
def Tab (P : Program) (w : World) (H : Hp) (a : Addr) (kbs : Ents) : Prop := H a = some (dObj P w a kbs) ∧ ∀ x ∈ kbs, H x.2.1 = some (.tup (x.1.map lV))
def valT (kbs : Ents) (k : List Leaf) : Option V := (kbs.find? fun x => decide (x.1 = k)).map (·.2.2)
variable {P : Program} {w : World} {H H' : Hp} {h : Heap} {a b : Addr} {kbs : Ents} {k : List Leaf}
theorem leaf_is {l : Leaf} {u : Value} (r : RelV (lV l) u) : (leafKind P w).is l u = true := by
  cases l with
  | none =>
    obtain rfl : u = Value.none := r
    rfl
  | num i =>
    obtain ⟨t, rfl⟩ := r
    exact decide_eq_true rfl
  | text x =>
    obtain ⟨t, rfl⟩ := r
    show Value.isStrOf x (.str x t) = true
    simp [Value.isStrOf]
theorem leaves_are : ∀ {ls : List Leaf} {us : List Value}, Vals (ls.map lV) us → ItemsAre (leafKind P w) ls us
  | [], _, r => by
    cases r
    exact .nil
  | l :: ls, _, r => by
    cases r with
    | cons r t => exact .cons (leaf_is r) (leaves_are t)
theorem leafKey (ok : HOk P w H h) (e : H b = some (.tup (k.map lV))) : (tupleKind (leafKind P w)).is h k b := by
  obtain ⟨_, us, r, ob, at_b, isT, m, dat⟩ := (show ObjOk P w H h b (.tup (k.map lV)) from ok b _ e)
  exact ⟨ob, us.toArray, m, at_b, isT, dat, by simpa using leaves_are r⟩
theorem dRow3.keys {xs : List (List Leaf × Addr × Value)} (r : Paired dRow3 kbs xs) : kbs.map (·.1) = xs.map (·.1) := by
  induction r with
  | nil => rfl
  | cons h _ ih => rw [List.map_cons, List.map_cons, ih, h.1]
theorem dRow3.val {xs : List (List Leaf × Addr × Value)} (r : Paired dRow3 kbs xs) (k : List Leaf) : RelO (valT kbs k) ((atKey xs k).map (·.2)) := by
  induction r with
  | nil => exact True.intro
  | @cons p q ps qs h _ ih =>
    unfold valT atKey at ih ⊢
    rw [List.find?_cons, List.find?_cons, ← h.1]
    by_cases e : p.1 = k
    · rw [decide_eq_true e]
      exact h.2.2
    · rw [decide_eq_false e]
      exact ih
theorem dRow3.snoc {xs : List (List Leaf × Addr × Value)} {p : List Leaf × Addr × V} {q : List Leaf × Addr × Value} (r : Paired dRow3 kbs xs) (z : dRow3 p q) : Paired dRow3 (kbs ++ [p]) (xs ++ [q]) := by
  induction r with
  | nil => exact .cons z .nil
  | cons h _ ih => exact .cons h ih
theorem Tab.dict (t : Tab P w H a kbs) (ok : HOk P w H h) : ∃ xs, Paired dRow3 kbs xs ∧ h.DictOfH (tupleKind (leafKind P w)) a xs ∧ (a == sysModules) = false ∧ kbs.length ≤ sizeLine := by
  obtain ⟨⟨xs, r, ⟨o, es, ep, h1, h2, h3, h4⟩, nd, low, few⟩, _, _⟩ := (show ObjOk P w H h a (dObj P w a kbs) from ok a _ t.1)
  refine ⟨xs, r, ⟨o, es, ep, h1, h2, h3, h4, ?_, nd⟩, low, few⟩
  have all : ∀ {l : Ents} {m : List (List Leaf × Addr × Value)}, Paired dRow3 l m → (∀ x ∈ l, H x.2.1 = some (.tup (x.1.map lV))) → ∀ x ∈ m, (tupleKind (leafKind P w)).is h x.1 x.2.1 := by
    intro l m r
    induction r with
    | nil => exact fun _ x hx => nomatch hx
    | @cons p q ps qs hq _ ih =>
      intro hl x hx
      rcases List.mem_cons.mp hx with e | hx
      · rw [e, ← hq.1, ← hq.2.1]
        exact leafKey ok (hl p List.mem_cons_self)
      · exact ih (fun y hy => hl y (List.mem_cons_of_mem _ hy)) x hx
  exact all r t.2
theorem dObj_ok {xs : List (List Leaf × Addr × Value)} (r : Paired dRow3 kbs xs) (d : h.DictOfH (tupleKind (leafKind P w)) a xs) (low : (a == sysModules) = false) (few : kbs.length ≤ sizeLine) : ObjOk P w H h a (dObj P w a kbs) := by
  obtain ⟨o, es, ep, h1, h2, h3, h4, _, nd⟩ := d
  refine ⟨⟨xs, r, ⟨o, es, ep, h1, h2, h3, h4⟩, nd, low, few⟩, ⟨o, h1⟩, fun g1 g2 z k => ?_⟩
  obtain ⟨ys, r', ⟨o', es', ep', q1, q2, q3, q4⟩, nd', low', few'⟩ := z
  exact ⟨ys, r', ⟨o', es', ep', k _ q1, q2, q3, q4⟩, nd', low', few'⟩
theorem Tab.same (t : Tab P w H a kbs) (s : Same H H') : Tab P w H' a kbs := ⟨s _ _ t.1, fun x hx => s _ _ (t.2 x hx)⟩
variable {X : Cx}
def rInTab (X : Cx) : R2 := fun x y H Q => ∃ b a k kbs, x = .ref b ∧ y = .ref a ∧ H b = some (.tup (k.map lV)) ∧ Tab X.prog X.w H a kbs ∧ Q (.bl (valT kbs k).isSome) H
theorem relO_isS {x : Option V} {y : Option Value} (r : RelO x y) : y.isSome = x.isSome := by
  cases x <;> cases y <;> first | rfl | exact r.elim
theorem op_inTab (un : X.A.units + 64 < cLine) : OpR X (compareOp .In) (rInTab X) := by
  intro pins s σ H x y v u Q I rx ry h
  obtain ⟨b, a, k, kbs, rfl, rfl, eb, t, q⟩ := h
  cases rx
  cases ry
  obtain ⟨xs, r, d, low, few⟩ := t.dict I.hok
  refine wpAny_in_heap (tupleKind_room_in1 (by omega)) (leafKey I.hok eb) low d ?_
  have e := relO_isS (dRow3.val r k)
  rw [Option.isSome_map] at e
  rw [e]
  exact ⟨.bl _, H, I.tok _, rfl, q⟩
def rIxTab (X : Cx) : R2 := fun x y H Q => ∃ b a k kbs v, x = .ref a ∧ y = .ref b ∧ H b = some (.tup (k.map lV)) ∧ Tab X.prog X.w H a kbs ∧ valT kbs k = some v ∧ Q v H
theorem ixTab (un : X.A.units + 64 < cLine) : IxR X (rIxTab X) := by
  intro value slice pins s σ H x y v u Q I rx ry h hs
  obtain ⟨b, a, k, kbs, z, rfl, rfl, eb, t, ev, q⟩ := h
  cases rx
  cases ry
  obtain ⟨xs, r, d, low, few⟩ := t.dict I.hok
  have e := dRow3.val r k
  rw [ev] at e
  obtain ⟨u', hu, ru⟩ := RelO.some_of e
  obtain ⟨p, hp, rfl⟩ := Option.map_eq_some_iff.mp hu
  exact PyProof.Rows.tail_any d.typeIs PySem.F.slot_dict_getitem.lookup (wpAny_getItem_heap (tupleKind_room_in1 (by omega)) (leafKey I.hok eb) d hp ⟨z, H, I.tok _, ru, q⟩) hs
/-- a store of a new key -/
def PutTab (X : Cx) (H : Hp) (D : Addr) (y z : V) (H' : Hp) : Prop := ∃ kbs k b, y = .ref b ∧ H b = some (.tup (k.map lV)) ∧ Tab X.prog X.w H D kbs ∧ k ∉ kbs.map (·.1) ∧ kbs.length < sizeLine ∧ H' = upd H D (dObj X.prog X.w D (kbs ++ [(k, b, z)]))
theorem atKey_none {xs : List (List Leaf × Addr × Value)} {k : List Leaf} (n : k ∉ xs.map (·.1)) : atKey xs k = none := by
  unfold atKey
  rw [Option.map_eq_none_iff, List.find?_eq_none]
  intro x hx e
  exact n (List.mem_map.mpr ⟨x, hx, of_decide_eq_true e⟩)
theorem putTab_set {pins : List (Addr × Obj)} {σ : St} {H H' : Hp} {s : Shared} {E : Value → Shared → Prop} {D : Addr} {y z : V} {u r : Value} {Q : Unit → Shared → Prop} (un : X.A.units < cLine) (I : Inv X pins σ H s) (p : PutTab X H D y z H') (ry : RelV y u) (rz : RelV z r)
    (w : ∀ s', Inv X pins σ H' s' → Q () s') : wpAny (model X.prog X.w) X.A (dictSet D u r) Q E s := by
  obtain ⟨kbs, k, b, rfl, eb, t, new, few, rfl⟩ := p
  cases ry
  obtain ⟨xs, rr, d, low, _⟩ := t.dict I.hok
  have nw : atKey xs k = none := atKey_none (by rw [← dRow3.keys rr]; exact new)
  have len : xs.length = kbs.length := by rw [← List.length_map (f := (·.1)), ← dRow3.keys rr, List.length_map]
  refine wpAny_dictSet_heap (knd := tupleKind (leafKind X.prog X.w)) un (leafKey I.hok eb) d (fun h' d' but => w _ ?_) (by omega)
  rw [storedH_new nw] at d'
  obtain ⟨o, es, ep, q1, _⟩ := id d'
  refine I.write (x := D) (e := D) (by rw [t.1]; exact True.intro) (.inl rfl) (fun c o' nc g => (but.2 c nc).trans g) ⟨o, q1⟩ (dObj_ok (dRow3.snoc rr ⟨rfl, rfl, rz⟩) d' low ?_)
  rw [List.length_append]
  exact few
end
/-! ### {key: value for ..}, its keys tuples of ints, texts and None, each once -/
section
open PyProof.Rows hiding St
variable {X : Cx}
def tDcT (X : Cx) (wi : TI) (g : TG) (tk tv : TE) (vs : List Nat) : TE := fun σ H Q => wi σ H fun J H1 => ∀ D, H1 D = none → ∃ W : Nat → Nat → Hp → Prop, (∃ m, W 0 m (upd H1 D (dObj X.prog X.w D []))) ∧ ∀ i m H, W i m H →
  (J.stop i H ∧ Q (.ref D) H) ∨ (J.go i H ∧ ∃ Nx : Hp → Prop, (∀ H', Nx H' → ∃ m', m' < m ∧ W (i + 1) m' H') ∧ ∀ x H', J.yld i H x H' → g x (wipe σ vs) H' fun σ2 H2 => wipe σ2 vs = wipe σ vs ∧ tk σ2 H2 fun y H4 => tv σ2 H4 fun z H5 => ∃ H6, PutTab X H5 D y z H6 ∧ Nx H6)
theorem pe_dcT {kx vx tg iter : Expr} {scope : Scope} {own : List (Str × Nat)} {pos : Pos} {wi : TI} {g : TG} {tk tv : TE} (un : X.A.units < cLine) (calm : X.calm = true) (nd : X.N.Nodup) (wk : PI X tg iter wi) (bk : BlkOk X.N X.env.scope scope own)
    (gg : ∀ (s : Shared) (H : Hp) (C : Addr) (cl : List (Str × Addr)) (fp : List Addr), PG (X.blk s H scope (compEnvC scope cl C X.env) fp) tg g)
    (kk : ∀ (s : Shared) (H : Hp) (C : Addr) (cl : List (Str × Addr)) (fp : List Addr), PE (X.blk s H scope (compEnvC scope cl C X.env) fp) kx tk) (vv : ∀ (s : Shared) (H : Hp) (C : Addr) (cl : List (Str × Addr)) (fp : List Addr), PE (X.blk s H scope (compEnvC scope cl C X.env) fp) vx tv)
    (same : ∀ x, foldedSetIterable iter X.env x = pure x := by intro _; rfl) : PE X (.DictComp kx vx [⟨tg, iter, [], 0⟩] scope pos) (tDcT X wi g tk tv (own.map (·.2))) := by
  refine ⟨fun pins s σ H Q I w => ?_⟩
  rw [arm_eval_DictComp]
  have caught : ∀ y ∈ scope.names, y.2 = .free → ∃ c, X.env.cells.lookup y.1 = some c := fun y hy e => (bk.free y hy e).elim (fun k => I.ok.has _ (.inl k)) fun k => I.ok.has _ (.inr k)
  refine wpAny_comprehension_free (use := none) rfl same (closure_ok caught) bk.kind (fun y hy e => by rw [bk.uniq y hy, e]) (thn (wk.run pins s σ H _ I w) fun v1 s1 h1 => thn h1 fun v2 s2 h2 => ?_)
  obtain ⟨it, fp, turn_at, J, H2, rfl, I2, T, st2, frees, w⟩ := h2
  refine wpAny_newObj_type (newEnv_comp ?_)
  have newD : H2 s2.heap.objs.size = none := I2.hok.fresh (Nat.le_refl _)
  obtain ⟨W, ⟨m0, w0⟩, turn⟩ := w s2.heap.objs.size newD
  generalize eD : s2.heap.objs.size = D at newD w0 turn
  -- the dict that is filled
  have stay3 : ∀ b o, s2.heap.get? b = some o → (s2.heap.push { cls := .type "dict", data := .dict #[] }).get? b = some o := fun b o e => Heap.get?_push_of_some _ e
  have low : (D == sysModules) = false := by
    rw [← eD]
    exact beq_eq_false_iff_ne.mpr (Nat.ne_of_gt I2.big)
  have I3 : Inv X pins σ (upd H2 D (dObj X.prog X.w D [])) { s2 with heap := s2.heap.push { cls := .type "dict", data := .dict #[] } } :=
    I2.laid (t' := s2.toks) stay3 (Nat.le_of_eq eD) (by rw [← eD] at low ⊢; exact dObj_ok .nil (Heap.DictOfH.new s2.heap) low (Nat.zero_le _))
  have size3 : (s2.heap.push { cls := .type "dict", data := .dict #[] }).objs.size = s2.heap.objs.size + 1 := Heap.size_push _ _
  generalize eH : upd H2 D (dObj X.prog X.w D []) = H3 at I3 w0
  have frees3 : ∀ b ∈ fp, FpOk X pins H3 b ∧ b < (s2.heap.push { cls := .type "dict", data := .dict #[] }).objs.size := fun b hb => by
    obtain ⟨o, e, _⟩ := T.obj _ _ st2 b hb
    have lt := Heap.lt_size e
    refine ⟨⟨?_, (frees b hb).2⟩, by rw [size3]; exact Nat.lt_succ_of_lt lt⟩
    rw [← eH, upd_ne (by rw [← eD]; exact Nat.ne_of_lt lt)]
    exact (frees b hb).1
  have st3 : turn_at 0 (s2.heap.push { cls := .type "dict", data := .dict #[] }) := T.keep _ _ _ st2 fun b _ o e => stay3 b o e
  generalize e3 : ({ s2 with heap := s2.heap.push { cls := .type "dict", data := .dict #[] } } : Shared) = s3 at I3
  have h3 : s3.heap = s2.heap.push { cls := .type "dict", data := .dict #[] } := by rw [← e3]
  rw [← h3] at frees3 st3
  have I4 := block_start I3 bk nd frees3
  have pg := gg s3 H3 s3.heap.objs.size (cellsFrom (s3.heap.objs.size + 1) scope.names (cloFrom X.env.cells scope.names [])) fp
  have pk := kk s3 H3 s3.heap.objs.size (cellsFrom (s3.heap.objs.size + 1) scope.names (cloFrom X.env.cells scope.names [])) fp
  have pv := vv s3 H3 s3.heap.objs.size (cellsFrom (s3.heap.objs.size + 1) scope.names (cloFrom X.env.cells scope.names [])) fp
  show codeAny _ _ (.compStart (.DictComp kx vx [⟨tg, iter, [], 0⟩] scope pos) 0 (.ref it) (.ref D) (compEnvC scope (cellsFrom (s3.heap.objs.size + 1) scope.names (cloFrom X.env.cells scope.names [])) s3.heap.objs.size X.env))
    (compPost (model X.prog X.w) X.A X.xe none (EP X pins σ Q) (.ref D) s3.heap.objs.size) { s3 with heap := pushCells (s3.heap.push { cls := .type "dict", data := .dict #[] }) scope.names }
  have free3 : ∀ b ∈ fp, H3 b = none := fun b hb => (frees3 b hb).1.1
  generalize eC : compEnvC scope (cellsFrom (s3.heap.objs.size + 1) scope.names (cloFrom X.env.cells scope.names [])) s3.heap.objs.size X.env = ce at I4 pg pk pv ⊢
  have locals : ce.locals = s3.heap.objs.size := by rw [← eC]; rfl
  generalize e4 : ({ s3 with heap := pushCells (s3.heap.push { cls := .type "dict", data := .dict #[] }) scope.names } : Shared) = s4 at I4 ⊢
  have st4 : turn_at 0 s4.heap := T.keep _ _ _ st3 fun b _ o e => by
    rw [← e4]
    exact pushCells_keeps _ _ _ _ (Heap.get?_push_of_some _ e)
  have walked : ∀ {τ : St} {G : Hp} {z : Shared}, Inv (X.blk s3 H3 scope ce fp) [] τ G z → (∀ b ∈ fp, G b = none) → ∀ b ∈ fp, FpOk (X.blk s3 H3 scope ce fp) [] G b := fun {τ G z} V n b hb =>
    ⟨n b hb, (V.ok.exf b hb).1, V.ok.exfs b hb, .inl hb, fun x c e => (V.ok.exf b hb).2 x c e, fun p hp => absurd (show p ∈ ([] : List (Addr × Obj)) ++ [] from hp) (by simp)⟩
  have loop : codeAny (model X.prog X.w) X.A (.compLoop (.DictComp kx vx [⟨tg, iter, [], 0⟩] scope pos) 0 (.ref it) (.ref D) ce) (compPost (model X.prog X.w) X.A X.xe none (EP X pins σ Q) (.ref D) s3.heap.objs.size) s4 := by
    refine compLoop_anyD (fun n z => ∃ i G, Inv (X.blk s3 H3 scope ce fp) [] (wipe σ (own.map (·.2))) G z ∧ turn_at i z.heap ∧ (∀ b ∈ fp, G b = none) ∧ W i n G) ?_ m0 ⟨0, H3, I4, st4, free3, w0⟩
    rintro n z5 ⟨i, G5, V5, st5, n5, w5⟩
    rcases turn i n G5 w5 with ⟨stop, done⟩ | ⟨go, Nx, next, step⟩
    · refine thnF (T.done (X.blk s3 H3 scope ce fp) rfl rfl rfl calm i [] z5 _ G5 (fun _ _ => False) V5 (walked V5 n5) st5 stop) fun r z6 hz => ?_
      obtain ⟨rfl, V6⟩ := hz
      have I7 : Inv X pins σ G5 z6 := I3.call' (ch := fp) V6.os V6.base V6.hok V6.bare fun b hb => by
        obtain ⟨⟨_, y1, _, y3, y4, y5⟩, _⟩ := frees3 b hb
        exact ⟨y3, y1, y4, y5⟩
      obtain ⟨m, ns, _⟩ := V6.loc
      have ns2 : z6.heap.Ns s3.heap.objs.size m := locals ▸ (show z6.heap.Ns ce.locals m from ns)
      have nC : G5 s3.heap.objs.size = none := locals ▸ (show G5 ce.locals = none from V6.free)
      obtain ⟨f0, f1, f2, f3, f4, f5⟩ := I3.fpOk (Nat.le_refl _) nC
      exact ⟨m, ns2, fun h'' but => ⟨.ref D, G5, I7.turned (t' := z6.toks) (fun b o hb e => (but.2 b hb).trans e) f0 f1 f3 f4 f5, rfl, done⟩⟩
    · refine thnF (T.item (X.blk s3 H3 scope ce fp) rfl rfl rfl calm i [] z5 _ G5 (fun _ _ => False) V5 (walked V5 n5) st5 go) fun r z6 hz => ?_
      obtain ⟨u, rfl, hz⟩ := hz
      refine thnF hz fun _ z7 hz => ?_
      obtain ⟨x, G7, V7, r7, y7, st7, n7⟩ := hz
      have V7' := V7.pinned (walked V7 n7) (T.obj _ _ st7)
      refine thnF (pg.run _ z7 _ G7 x u _ V7' r7 (step x G7 y7)) fun _ z8 hz => ?_
      obtain ⟨τ8, G8, V8, wiped, yes⟩ := hz
      refine thnF (((pts_nil : PTs (X.blk s3 H3 scope ce fp) [] tYes)).run _ z8 τ8 G8 (fun b G => b = true ∧ tk τ8 G fun y H4 => tv τ8 H4 fun z H5 => ∃ H6, PutTab X H5 D y z H6 ∧ Nx H6) V8 ⟨rfl, yes⟩) fun b z9 hz => ?_
      obtain ⟨G9, V9, rfl, q9⟩ := hz
      simp only [if_true]
      refine thnF (pk.run _ z9 τ8 G9 _ V9 q9) fun y z10 hz => ?_
      obtain ⟨yv, G10, V10, r10, q10⟩ := hz
      refine thnF (pv.run _ z10 τ8 G10 _ V10 q10) fun y2 z11 hz => ?_
      obtain ⟨zv, G11, V11, r11, G12, put, nx⟩ := hz
      refine putTab_set (X := X.blk s3 H3 scope ce fp) un V11 put r10 r11 fun z12 V12 => ?_
      obtain ⟨m', less, w'⟩ := next _ nx
      have pinned : ∀ b ∈ fp, ∀ o, z7.heap.get? b = some o → z12.heap.get? b = some o ∧ G12 b = none := fun b hb o e =>
        let y := V12.pin (b, o) (List.mem_append_right _ (List.mem_append_right _ (mem_pinsAt hb e)))
        ⟨y.1, y.2.1⟩
      refine ⟨m', less, i + 1, _, (V12.unpinned (pins := [])).weak (by rw [← wiped, wipe_length]) (fun j v e => ?_), T.keep _ _ _ st7 fun b hb o e => (pinned b hb o e).1, fun b hb => ?_, w'⟩
      · rw [← wiped] at e
        exact (wipe_some e).1
      · obtain ⟨o, e, _⟩ := T.obj _ _ st7 b hb
        exact (pinned b hb o e).2
  exact codeAny_compStart_dict loop (T.self X.A 0 _ _ _ st4 loop)
end
section
variable {X : Cx} {J : It} {n : Nat} {G : Hp → Prop} {Y : Nat → Hp → V → Hp → Prop}
theorem dc_it (wk : Walk J n G Y) {g : TG} {tk tv : TE} {vs : List Nat} {σ : St} {H1 : Hp} {D : Addr} {Qd : Hp → Prop} (I : Nat → Hp → Prop) (i0 : I 0 (upd H1 D (dObj X.prog X.w D []))) (hG : ∀ i H, I i H → G H)
    (hs : ∀ i x H H', i < n → I i H → Y i H x H' → g x (wipe σ vs) H' fun σ2 H2 => wipe σ2 vs = wipe σ vs ∧ tk σ2 H2 fun y H4 => tv σ2 H4 fun z H5 => ∃ H6, PutTab X H5 D y z H6 ∧ I (i + 1) H6) (hd : ∀ H, I n H → Qd H) :
    ∃ W : Nat → Nat → Hp → Prop, (∃ m, W 0 m (upd H1 D (dObj X.prog X.w D []))) ∧ ∀ i m H, W i m H →
      (J.stop i H ∧ Qd H) ∨ (J.go i H ∧ ∃ Nx : Hp → Prop, (∀ H', Nx H' → ∃ m', m' < m ∧ W (i + 1) m' H') ∧ ∀ x H', J.yld i H x H' → g x (wipe σ vs) H' fun σ2 H2 => wipe σ2 vs = wipe σ vs ∧ tk σ2 H2 fun y H4 => tv σ2 H4 fun z H5 => ∃ H6, PutTab X H5 D y z H6 ∧ Nx H6) := by
  refine ⟨fun i m H => m = n - i ∧ i ≤ n ∧ I i H, ⟨n, rfl, Nat.zero_le _, i0⟩, ?_⟩
  rintro i m H ⟨rfl, le, iH⟩
  by_cases lt : i < n
  · exact .inr ⟨wk.goes i H lt (hG i H iH), I (i + 1), fun H' z => ⟨n - (i + 1), by omega, rfl, lt, z⟩, fun x H' y => hs i x H H' lt iH (wk.yields i H x H' lt (hG i H iH) y)⟩
  · obtain rfl : i = n := by omega
    exact .inl ⟨wk.stops H (hG _ H iH), hd H iH⟩
end
section
variable {J : It} {n : Nat} {G : Hp → Prop} {Y : Nat → Hp → V → Hp → Prop}
/-- the same for keys that are ints or texts (tDc), by what holds at each turn -/
theorem dcK_it (wk : Walk J n G Y) {g : TG} {tt : TT} {tk tv : TE} {vs : List Nat} {σ : St} {H1 : Hp} {D : Addr} {Qd : Hp → Prop} (I : Nat → Hp → Prop) (i0 : I 0 (upd H1 D (.dK []))) (hG : ∀ i H, I i H → G H)
    (hs : ∀ i x H H', i < n → I i H → Y i H x H' → g x (wipe σ vs) H' fun σ2 H2 => wipe σ2 vs = wipe σ vs ∧ tt σ2 H2 fun b H3 => if b = true then tk σ2 H3 fun y H4 => tv σ2 H4 fun z H5 => ∃ kvs k, y = kV k ∧ H5 D = some (.dK kvs) ∧ kvs.length < sizeLine ∧ I (i + 1) (upd H5 D (.dK (putK kvs k z))) else I (i + 1) H3)
    (hd : ∀ H, I n H → Qd H) : ∃ W : Nat → Nat → Hp → Prop, (∃ m, W 0 m (upd H1 D (.dK []))) ∧ ∀ i m H, W i m H → (J.stop i H ∧ Qd H) ∨ (J.go i H ∧ ∃ Nx : Hp → Prop, (∀ H', Nx H' → ∃ m', m' < m ∧ W (i + 1) m' H') ∧ ∀ x H', J.yld i H x H' → g x (wipe σ vs) H' fun σ2 H2 => wipe σ2 vs = wipe σ vs ∧ tt σ2 H2 fun b H3 =>
      if b = true then tk σ2 H3 fun y H4 => tv σ2 H4 fun z H5 => ∃ kvs k, y = kV k ∧ H5 D = some (.dK kvs) ∧ kvs.length < sizeLine ∧ Nx (upd H5 D (.dK (putK kvs k z))) else Nx H3) := by
  refine ⟨fun i m H => m = n - i ∧ i ≤ n ∧ I i H, ⟨n, rfl, Nat.zero_le _, i0⟩, ?_⟩
  rintro i m H ⟨rfl, le, iH⟩
  by_cases lt : i < n
  · exact .inr ⟨wk.goes i H lt (hG i H iH), I (i + 1), fun H' z => ⟨n - (i + 1), by omega, rfl, lt, z⟩, fun x H' y => hs i x H H' lt iH (wk.yields i H x H' lt (hG i H iH) y)⟩
  · obtain rfl : i = n := by omega
    exact .inl ⟨wk.stops H (hG _ H iH), hd H iH⟩
theorem putK_new {κ : Type} [DecidableEq κ] {kvs : List (κ × V)} {k : κ} {v : V} (n : k ∉ kvs.map (·.1)) : putK kvs k v = kvs ++ [(k, v)] := by
  unfold putK
  rw [if_neg]
  rw [List.any_eq_true]
  rintro ⟨x, hx, e⟩
  exact n (List.mem_map.mpr ⟨x, hx, of_decide_eq_true e⟩)
end
/-! ### tests that tell one truth, whatever grows meanwhile -/
section
def PureT (t : TT) (σ : St) (H : Hp) (b : Bool) : Prop := ∀ Q : Bool → Hp → Prop, (∀ H', Same H H' → Q b H') → t σ H Q
variable {t u : TT} {σ : St} {H : Hp} {x y : Bool}
theorem PureT.or (a : PureT t σ H x) (b : ∀ H', Same H H' → PureT u σ H' y) : PureT (tOr t u) σ H (x || y) := fun Q q => a _ fun H1 s1 => by
  cases x with
  | true => exact iteT (q _ s1)
  | false => exact iteF (b H1 s1 _ fun H2 s2 => q _ (s1.trans s2))
theorem PureT.and (a : PureT t σ H x) (b : x = true → ∀ H', Same H H' → PureT u σ H' y) : PureT (tAnd t u) σ H (x && y) := fun Q q => a _ fun H1 s1 => by
  cases x with
  | false => exact iteF (q _ s1)
  | true => exact iteT (b rfl H1 s1 _ fun H2 s2 => q _ (s1.trans s2))
theorem PureT.no (a : PureT t σ H x) : PureT (tNot t) σ H (!x) := fun Q q => a _ fun H1 s1 => q _ s1
theorem PureT.cast (a : PureT t σ H x) (e : x = y) : PureT t σ H y := e ▸ a
theorem PureT.ifs {c d : TS} {D : Ends} (a : PureT t σ H x) (b : x = true → ∀ H', Same H H' → c D σ H') (e : x = false → ∀ H', Same H H' → d D σ H') : tIfS t c d D σ H := a _ fun H1 s1 => by
  cases x with
  | true => exact iteT (b rfl _ s1)
  | false => exact iteF (e rfl _ s1)
end
section
variable {t : TT} {σ : St} {H : Hp} {x : Bool}
theorem PureT.sq {c d u : TS} {D : Ends} (a : PureT t σ H x) (b : x = true → ∀ H', Same H H' → c { D with nx := u D } σ H') (e : x = false → ∀ H', Same H H' → d { D with nx := u D } σ H') : tSeq (tIfS t c d) u D σ H := PureT.ifs a b e
end
theorem no_tt {b : Bool} (h : (!b) = true) : b = false := by cases b <;> first | rfl | cases h
theorem no_ff {b : Bool} (h : (!b) = false) : b = true := by cases b <;> first | rfl | cases h
theorem dec_len {n m : Nat} : decide (V.int n = V.int m) = decide (n = m) := decide_eq_decide.mpr ⟨fun h => by injection h with h; omega, fun h => by rw [h]⟩
theorem PureT.sqn {t : TT} {σ : St} {H : Hp} {x : Bool} {c u : TS} {D : Ends} (a : PureT t σ H x) (b : x = true → ∀ H', Same H H' → c { D with nx := u D } σ H') (e : x = false → ∀ H', Same H H' → u D σ H') : tSeq (tIfS t c tNext) u D σ H := PureT.ifs a b e
theorem PureT.orc {t u : TT} {σ : St} {H : Hp} {x y : Bool} (a : PureT t σ H x) (b : x = false → ∀ H', Same H H' → PureT u σ H' y) : PureT (tOr t u) σ H (x || y) := fun Q q => a _ fun H1 s1 => by
  cases x with
  | true => exact iteT (q _ s1)
  | false => exact iteF (b rfl H1 s1 _ fun H2 s2 => q _ (s1.trans s2))
/-! ### enumerate of a tuple, in a for loop's head -/
section
open PyProof.Rows hiding St
abbrev tupIt (t : Addr) : Obj := { cls := .type "tuple_iterator", data := .fields #[.ref t, .int 0 0] }
abbrev enumOf (n : Addr) : Obj := { cls := .type "enumerate", data := .fields #[.none, .bool false, .ref n, rawInt 0, .none, .none] }
theorem meets_enumT (t : Addr) (items : Array Value) : Meets (Builtin.«enumerate.__new__» ⟨[.type "enumerate", .ref t], []⟩)
    (fun _ R s => s.heap.IsTuple t items ∧ R (.ok (.ret (.ref (s.heap.push (tupIt t)).objs.size))) { s with heap := (s.heap.push (tupIt t)).push (enumOf s.heap.objs.size) }) := .of_wp fun prog w A R s z => by
  obtain ⟨at_t, z⟩ := z
  obtain ⟨hp, gs, dr, tk1, os1⟩ := s
  have sub := sub_enumerate
  obtain ⟨o, ho, _⟩ := id at_t
  wp_walk using wpAny_loadPart' ho
  refine wpAny_stack_any fun _ => (wpAny_pure ?_)
  split
  · rename_i c _ _ _ _ _
    cases (c == Value.type "enumerate") <;> (wp_walk using wpAny_loadPart' ho, wpAny_pyIter_tuple at_t; exact ⟨_, rfl, z⟩)
  · wp_walk using wpAny_loadPart' ho, wpAny_pyIter_tuple at_t
    exact ⟨_, rfl, z⟩
theorem call_enumT {prog : Program} {w : World} {A : Around} {E : Value → Shared → Prop} {s : Shared} {t : Addr} {items : Array Value} {Q : Value → Shared → Prop} (at_t : s.heap.IsTuple t items)
    (z : ∀ h', IsEnum h' (s.heap.objs.size + 1) s.heap.objs.size 0 .none → h'.IsTupleIter s.heap.objs.size t 0 → (∀ b o, s.heap.get? b = some o → h'.get? b = some o) → Q (.ref (s.heap.objs.size + 1)) { s with heap := h' }) :
    wpAny (model prog w) A (call (.type "enumerate") [.ref t]) Q E s := by
  refine callType_new PySem.F.called_enumerate (by decide) (PySem.F.typeCall_enumerate_1 _) (PySem.F.newCall_enumerate_1 _) (fun obj => PySem.F.args_object_init_2 obj _) PySem.F.entry_enumerate_new (meets_enumT t items) ⟨at_t, ?_⟩
  have size1 : (s.heap.push (tupIt t)).objs.size = s.heap.objs.size + 1 := Heap.size_push ..
  show _ ∧ _
  rw [size1]
  have en : IsEnum ((s.heap.push (tupIt t)).push (enumOf s.heap.objs.size)) (s.heap.objs.size + 1) s.heap.objs.size 0 .none := by
    have y := Heap.get?_push_size (s.heap.push (tupIt t)) (o := enumOf s.heap.objs.size) rfl
    rw [size1] at y
    exact y
  exact ⟨⟨_, en, rfl⟩, z _ en ⟨_, Heap.get?_push_of_some _ (Heap.get?_push_size _ rfl), rfl, rfl⟩ fun b o x => Heap.get?_push_of_some _ (Heap.get?_push_of_some _ x)⟩
end
section
open PyProof.Rows hiding St
def Itet (a : Addr) (xs : List V) : It := ⟨fun i H => i < xs.length ∧ H a = some (.tup xs), fun i H v H' => ∃ T x, v = .ref T ∧ H T = none ∧ H' = upd H T (.tup [.int (i : Nat), x]) ∧ xs[i]? = some x, fun i H => i = xs.length ∧ H a = some (.tup xs)⟩
theorem walk_enumTup {a : Addr} {xs : List V} : Walk (Itet a xs) xs.length (fun H => H a = some (.tup xs)) (YPair (fun i => some (.int (i : Nat))) (fun i => xs[i]?)) :=
  ⟨fun _ _ hi h => ⟨hi, h⟩, fun _ h => ⟨rfl, h⟩, fun i H v H' _ _ ⟨T, x, h1, h2, h3, h4⟩ => ⟨T, .int (i : Nat), x, h1, h2, h3, rfl, h4⟩⟩
theorem turn_enumTup {P : Program} {w : World} {K : PySem.W.Frag} {elts : List Expr} {kk : Nat} {tpos : Pos} {a e it : Addr} {xs : List V} :
    Turn P w K (.Tuple elts kk tpos) (Itet a xs) [e, it] e (fun i h => (∃ old, IsEnum h e it ((i : Nat) : Int) old) ∧ h.IsTupleIter it a i ∧ e ≠ it) where
  mem := List.mem_cons_self
  obj := fun i h st b hb => by
    obtain ⟨⟨old, en⟩, ⟨o, ho, _, dat⟩, _⟩ := st
    rcases List.mem_cons.mp hb with z | z
    · exact ⟨_, z ▸ en, fun v q => by cases q⟩
    · obtain rfl := List.mem_singleton.mp z
      exact ⟨o, ho, fun v q => by rw [dat] at q; cases q⟩
  keep := fun i h h' st k => by
    obtain ⟨⟨old, en⟩, ti, ne⟩ := st
    exact ⟨⟨old, k e List.mem_cons_self _ en⟩, ti.at fun o q => k it (List.mem_cons_of_mem _ List.mem_cons_self) o q, ne⟩
  item := by
    intro X hP hw hK calm i pins s σ H E I fp st go
    subst hP hw hK
    obtain ⟨⟨old, en⟩, ti, ne⟩ := st
    obtain ⟨lt, at_a⟩ := go
    obtain ⟨its, rv, p, _⟩ := I.tuple (SqT.of (K := X.K) at_a)
    have p : s.heap.IsTuple a its.toArray := p
    have len := rv.length
    have lte : e < s.heap.objs.size := Heap.lt_size en
    have lti : it < s.heap.objs.size := by
      obtain ⟨_, q, _⟩ := ti
      exact Heap.lt_size q
    have nea : a ≠ e := ne_of_none at_a (fp e List.mem_cons_self).1
    have nia : a ≠ it := ne_of_none at_a (fp it (List.mem_cons_of_mem _ List.mem_cons_self)).1
    have ef : e ∉ [it, a] := fun m => by
      rcases List.mem_cons.mp m with z | z
      · exact ne z
      · exact nea (List.mem_singleton.mp z).symm
    refine wpAny_pyNext_enum_itemD (Draws.tuple (A := X.A.in1) (I.ok.hd calm) it a nia its.toArray) en ⟨ti, p⟩ (by simpa [← len] using lt) ne ef fun x h' tk px out st' atT sz kk => ?_
    refine ⟨_, rfl, wpAny_letOwnedTupleGo_enum (s := { s with heap := h', toks := tk + 1 }) out fun h2 en2 but => ?_⟩
    have atT2 : h2.get? s.heap.objs.size = some { cls := .type "tuple", data := .seq #[.int i tk, x] } := (but.2 _ (Nat.ne_of_gt lte)).trans atT
    obtain ⟨y, ey⟩ : ∃ y, xs[i]? = some y := ⟨xs[i], List.getElem?_eq_getElem lt⟩
    obtain ⟨u, hu, ru⟩ := rv.get ey
    have eux : x = u := by
      have q : its.toArray[i]? = some x := px
      rw [List.getElem?_toArray, hu] at q
      exact (Option.some.inj q).symm
    subst eux
    have new : ObjOk X.prog X.w (upd H s.heap.objs.size (.tup [.int (i : Nat), y])) h2 s.heap.objs.size (.tup [.int (i : Nat), y]) := ⟨by show 2 ≤ sizeLine; decide, [.int i tk, x], .cons ⟨_, rfl⟩ (.cons ru .nil), ⟨_, atT2, rfl, _, rfl⟩⟩
    have apart : ∀ b, b ∉ [e, it] → b ≠ e ∧ b ≠ it := fun b hb => ⟨fun z => hb (by simp [z]), fun z => hb (by simp [z])⟩
    have I1 : Inv X pins σ (upd H s.heap.objs.size (.tup [.int (i : Nat), y])) { s with heap := h2, toks := tk + 1 } :=
      I.turnedNew (ch := [e, it]) (fun b ob hb q => (but.2 b (apart b hb).1).trans (kk b ob (apart b hb).1 (apart b hb).2 q)) fp (Nat.le_refl _) new
    have e1 : ((i + 1 : Nat) : Int) = (i : Int) + 1 := by omega
    refine ⟨.ref s.heap.objs.size, _, I1, rfl, ⟨_, y, rfl, I.hok.fresh (Nat.le_refl _), rfl, ey⟩, ⟨⟨x, by rw [e1]; exact en2⟩, st'.1.at fun o q => (but.2 it (Ne.symm ne)).trans q, ne⟩, fun b hb => ?_⟩
    rw [upd_ne (Nat.ne_of_lt (by
      rcases List.mem_cons.mp hb with z | z
      · rw [z]; exact lte
      · rw [List.mem_singleton.mp z]; exact lti))]
    exact (fp b hb).1
  done := by
    intro X hP hw hK calm i pins s σ H E I fp st stop
    subst hP hw hK
    obtain ⟨⟨old, en⟩, ti, ne⟩ := st
    obtain ⟨rfl, at_a⟩ := stop
    obtain ⟨its, rv, p, _⟩ := I.tuple (SqT.of (K := X.K) at_a)
    have p : s.heap.IsTuple a its.toArray := p
    have len := rv.length
    have nia : a ≠ it := ne_of_none at_a (fp it (List.mem_cons_of_mem _ List.mem_cons_self)).1
    obtain ⟨f0, f1, f2, f3, f4, f5⟩ := fp it (List.mem_cons_of_mem _ List.mem_cons_self)
    exact wpAny_pyNext_enum_endD (Draws.tuple (A := X.A.in1) (I.ok.hd calm) it a nia its.toArray) en (by
      refine ⟨?_, p⟩
      rw [List.size_toArray, ← len]
      exact ti) fun h' eb => ⟨rfl, I.turned (t' := s.toks) (fun b o hb q => eb b o hb q) f0 f1 f3 f4 f5⟩
  self := fun A i s Q E st h => by
    obtain ⟨⟨_, en⟩, _⟩ := st
    exact wpAny_pyIter_enum en h
variable {X : Cx}
/-- enumerate of a tracked list or tuple -/
def iEnumS (ta : TA) : TI := fun σ H R => ta σ H fun vs H1 => ∃ (a : Addr) (xs : List V) (o : HO), vs = [.ref a] ∧ (o = .lst xs ∨ o = .tup xs) ∧ H1 a = some o ∧
  ∀ J, Walk J xs.length (fun H => H a = some o) (YPair (fun i => some (.int (i : Nat))) (fun i => xs[i]?)) → R J H1
theorem pi_enumS {e : Expr} {ta : TA} {p pos tpos : Pos} {elts : List Expr} {kk : Nat} (hg : Gl X "enumerate") (hm : X.mg "enumerate" = none) (ha : PA X [e] ta) (hs : starEach [e] X.env = [(false, eval e X.env)] := by rfl) :
    PI X (.Tuple elts kk tpos) (.Call (.Name "enumerate" p) [e] [] pos) (iEnumS ta) := by
  refine ⟨fun pins s σ H R I w => Call_ (ld_blt I hg hm boot_enumerate (PyProof.Rows.callWith_type1 (thn (ha.run pos pins s σ H _ I w) fun us s1 hz => ?_) hs rfl))⟩
  obtain ⟨vs, H1, I1, r1, a, xs, o, rfl, ho, at_a, q⟩ := hz
  obtain ⟨u, rfl, ru⟩ := vals1 r1
  obtain rfl : u = Value.ref a := ru
  have fresh : ∀ b, b ∈ [s1.heap.objs.size + 1, s1.heap.objs.size] → FpOk X pins H1 b := fun b hb => by
    have le : s1.heap.objs.size ≤ b := by
      rcases List.mem_cons.mp hb with z | z
      · rw [z]; exact Nat.le_succ _
      · rw [List.mem_singleton.mp z]; exact Nat.le_refl _
    exact I1.fpOk le (I1.hok.fresh le)
  rcases ho with rfl | rfl
  · obtain ⟨its, rv, p', _⟩ := I1.list (SqL.of (K := X.K) at_a)
    exact call_enumerate_list p'.isList fun h' en ti _ k => wpAny_pyIter_enum en ⟨s1.heap.objs.size + 1, [s1.heap.objs.size + 1, s1.heap.objs.size], _, _, H1, rfl, I1.kept (t' := s1.toks) k, turn_enum a _ _, ⟨⟨.none, en⟩, ti, Nat.succ_ne_self _⟩, fresh, q _ (walk_enum.mono (fun H z => SqL.of z) fun _ _ _ _ _ _ y => y)⟩
  · obtain ⟨its, rv, p', _⟩ := I1.tuple (SqT.of (K := X.K) at_a)
    have p' : s1.heap.IsTuple a its.toArray := p'
    exact call_enumT p' fun h' en ti k => wpAny_pyIter_enum en ⟨s1.heap.objs.size + 1, [s1.heap.objs.size + 1, s1.heap.objs.size], _, _, H1, rfl, I1.kept (t' := s1.toks) k, turn_enumTup (a := a) (xs := xs), ⟨⟨.none, en⟩, ti, Nat.succ_ne_self _⟩, fresh, q _ walk_enumTup⟩
end
def top (i : Nat) : Stmt := PySem.Challenge.pw_twodivisions_k03_programs_told_and_chang.main.body.getD i (.Pass ⟨0, 0, 0, 0⟩)
structure TxtL (mg : Str → Option Value) : Prop where
  isinstance : mg "isinstance" = none
  int : mg "int" = none
  bool : mg "bool" = none
  str : mg "str" = none
  abs : mg "abs" = none
  len : mg "len" = none
  list : mg "list" = none
  tuple : mg "tuple" = none
  range : mg "range" = none
  enumerate : mg "enumerate" = none
  all : mg "all" = none
  max : mg "max" = none
  min : mg "min" = none
abbrev Txt (K : PySem.W.Frag) (mg : Str → Option Value) (aR : Addr) : Prop := TxtL mg
section
variable {P : Program} {w : World} {K : PySem.W.Frag} {mg : Str → Option Value} {base : Heap} {aR : Addr}
abbrev s__law_pool : Stmt := top 50
theorem sc__law_pool : FnScope ["_law_script", "_law_k", "_law_cell", "_law_seed"] ["_law_script", "_law_k"] (defScope s__law_pool) := ⟨rfl, rfl, rfl, by decide +kernel, rfl, by decide +kernel, by decide +kernel⟩
def spPool (K : PySem.W.Frag) : Sp := fun vs H Q _ => ∃ (a : Addr) (ns : List Int) (k : Nat), vs = [.ref a, .int k] ∧ SqL K H a (ns.map V.int) ∧ k < 64 ∧ ∀ pp H', Same H H' → H pp = none → PoolAt H' pp → Q (.ref pp) H'
theorem seed_ok (c : Int) (k : Nat) (hk : k < 64) : Sm (7919 * (k : Int)) ∧ (c.fmod 2147483629 + 7919 * (k : Int) * (k : Int) + 31).natAbs < 2 ^ 64 := by
  have h1 := Int.fmod_nonneg_of_pos c (show (0 : Int) < 2147483629 by decide)
  have h2 := Int.fmod_lt_of_pos c (show (0 : Int) < 2147483629 by decide)
  have h3 : 0 ≤ 7919 * (k : Int) * (k : Int) := Int.mul_nonneg (by omega) (by omega)
  have h4 : 7919 * (k : Int) * (k : Int) ≤ 7919 * (k : Int) * 64 := Int.mul_le_mul_of_nonneg_left (by omega) (by omega)
  exact ⟨⟨by omega, by omega⟩, by omega⟩
theorem ok__law_pool (h : Has K mg "_law_pool" s__law_pool ["_law_script", "_law_k"]) (T : Txt K mg aR) : Ok P w K mg base 1 "_law_pool" ["_law_script", "_law_k"] (spPool K) := by
  obtain ⟨f, fd, g, b, F⟩ := h
  refine ⟨f, fd, g, F.kp, b, F.ok sc__law_pool (fun vs H Q E h => ?_) (fun cdv A outer s H vs Q E hr h => ?_)⟩
  · obtain ⟨a, ns, k, rfl, _⟩ := h
    rfl
  · obtain ⟨a, ns, k, rfl, hS, hk, q⟩ := h
    refine ⟨_, (pss_cons (ps_set (i := 2) sc__law_pool.nd rfl (Or.inl rfl) pe_int)
    (pss_cons (ps_if (pt_cmpR op_lt (pv 1) (pe_callB call_len_seq (by rfl) T.len (by decide +kernel) (pa_cons (pv 0) pa_nil)) (nomark _))
      (pss_one (ps_set (i := 2) sc__law_pool.nd rfl (Or.inl rfl) (pe_ix ix_list (pv 0) (pv 1) (fun _ _ => rfl))))
      pss_nil)
    (pss_cons (ps_set (i := 3) sc__law_pool.nd rfl (Or.inl rfl) (pe_op op_modN (pe_op op_pow (pe_op op_add (pe_op op_add (pe_op op_modN (pe_callTy call_int1 (by rfl) T.int (by decide +kernel) (pa_cons (pv 2) pa_nil)) pe_int) (pe_op op_mulS (pe_op op_mulS pe_int (pv 1)) (pv 1))) pe_int) pe_int) pe_int))
    (pss_cons (ps_if (pt_cmpR op_lt (pv 2) (pe_op op_pow pe_int pe_int) (nomark _))
      (pss_one (ps_set (i := 2) sc__law_pool.nd rfl (Or.inl rfl) pe_int))
      pss_nil)
    (pss_one (ps_ret (pe_lst (pa_cons (pv 2) (pa_cons (pv 3) pa_nil))))))))), ?_⟩
    have z0 : ∀ c : Int, 0 ≤ ((c.fmod 2147483629 + 7919 * (k : Int) * (k : Int) + 31) ^ (3 : Int).toNat).fmod 2147483647 := fun c => Int.fmod_nonneg_of_pos _ (by decide)
    have z1 : ∀ c : Int, ((c.fmod 2147483629 + 7919 * (k : Int) * (k : Int) + 31) ^ (3 : Int).toNat).fmod 2147483647 < 2147483647 := fun c => Int.fmod_lt_of_pos _ (by decide)
    refine ⟨_, rfl, _, rfl, _, _, rfl, .inl hS, _, _, rfl, rfl, _, rfl, ?_⟩
    refine ite2 (fun c1 => ?_) (fun c1 => ?_)
    · have hlt : k < ns.length := by
        have := of_decide_eq_true c1
        rw [List.length_map] at this
        omega
      refine ⟨_, rfl, _, rfl, a, _, _, .int ns[k], rfl, rfl, hS, atI_nat (by rw [List.getElem?_map, List.getElem?_eq_getElem hlt]; rfl), ?_⟩
      obtain ⟨k1, k2⟩ := seed_ok ns[k] k hk
      refine ⟨_, rfl, .inl ⟨_, rfl, _, _, rfl, rfl, n29, _, rfl, _, _, rfl, rfl, ⟨⟨by decide, by decide⟩, ⟨by omega, by omega⟩⟩, _, rfl, _, _, rfl, rfl, ⟨k1, ⟨by omega, by omega⟩⟩, _, _, rfl, rfl, _, _, rfl, rfl, _, _, rfl, rfl, ⟨by decide, by decide, k2⟩, _, _, rfl, rfl, n47, ?_⟩⟩
      refine ⟨_, rfl, _, _, rfl, rfl, ⟨by decide, by decide, by decide⟩, _, _, rfl, rfl, _, rfl, ?_⟩
      refine ite2 (fun c2 => ?_) (fun c2 => ?_)
      · refine ⟨_, rfl, _, rfl, (by show 2 ≤ sizeLine; decide), fun p hp => ?_⟩
        exact q p _ (Same.new hp) hp ⟨_, _, z0 ns[k], z1 ns[k], upd_same⟩
      · refine ⟨_, rfl, _, rfl, (by show 2 ≤ sizeLine; decide), fun p hp => ?_⟩
        exact q p _ (Same.new hp) hp ⟨_, _, z0 ns[k], z1 ns[k], upd_same⟩
    · obtain ⟨k1, k2⟩ := seed_ok 0 k hk
      refine ⟨_, rfl, .inl ⟨_, rfl, _, _, rfl, rfl, n29, _, rfl, _, _, rfl, rfl, ⟨⟨by decide, by decide⟩, ⟨by omega, by omega⟩⟩, _, rfl, _, _, rfl, rfl, ⟨k1, ⟨by omega, by omega⟩⟩, _, _, rfl, rfl, _, _, rfl, rfl, _, _, rfl, rfl, ⟨by decide, by decide, k2⟩, _, _, rfl, rfl, n47, ?_⟩⟩
      refine ⟨_, rfl, _, _, rfl, rfl, ⟨by decide, by decide, by decide⟩, _, _, rfl, rfl, _, rfl, ?_⟩
      refine ite2 (fun c2 => ?_) (fun c2 => ?_)
      · refine ⟨_, rfl, _, rfl, (by show 2 ≤ sizeLine; decide), fun p hp => ?_⟩
        exact q p _ (Same.new hp) hp ⟨_, _, z0 0, z1 0, upd_same⟩
      · refine ⟨_, rfl, _, rfl, (by show 2 ≤ sizeLine; decide), fun p hp => ?_⟩
        exact q p _ (Same.new hp) hp ⟨_, _, z0 0, z1 0, upd_same⟩
abbrev s__law_draw : Stmt := top 51
theorem sc__law_draw : FnScope ["_law_pool_here", "_law_many", "_law_digit"] ["_law_pool_here", "_law_many"] (defScope s__law_draw) := ⟨rfl, rfl, rfl, by decide +kernel, rfl, by decide +kernel, by decide +kernel⟩
def spDraw : Sp := fun vs H Q _ => ∃ (pp : Addr) (n : Int), vs = [.ref pp, .int n] ∧ 0 < n ∧ Sm n ∧ PoolAt H pp ∧ ∀ d H', 0 ≤ d → d < n → PoolAt H' pp → Keep pp H H' → Q (.int d) H'
theorem ok__law_draw (h : Has K mg "_law_draw" s__law_draw ["_law_pool_here", "_law_many"]) (T : Txt K mg aR) : Ok P w K mg base 1 "_law_draw" ["_law_pool_here", "_law_many"] spDraw := by
  obtain ⟨f, fd, g, b, F⟩ := h
  refine ⟨f, fd, g, F.kp, b, F.ok sc__law_draw (fun vs H Q E h => ?_) (fun cdv A outer s H vs Q E hr h => ?_)⟩
  · obtain ⟨pp, n, rfl, _⟩ := h
    rfl
  · obtain ⟨pp, n, rfl, hn, sn, ⟨c, z, z0, z1, hp⟩, q⟩ := h
    have hn0 : n ≠ 0 := by omega
    refine ⟨_, (pss_cons (ps_if (pt_cmpR op_gt (pe_ix ix_list (pv 0) pe_int (fun _ _ => rfl)) pe_int (nomark _))
      (pss_cons (ps_set (i := 2) sc__law_draw.nd rfl (Or.inl rfl) (pe_op op_modN (pe_callTy call_int1 (by rfl) T.int (by decide +kernel) (pa_cons (pe_ix ix_list (pv 0) pe_int (fun _ _ => rfl)) pa_nil)) (pv 1)))
      (pss_cons (ps_asg (pe_op op_divS (pe_ix ix_list (pv 0) pe_int (fun _ _ => rfl)) (pv 1)) (pg_sub (pv 0) pe_int set_list))
      (pss_one (ps_ret (pv 2)))))
      pss_nil)
    (pss_cons (ps_asg (pe_op op_modN (pe_callTy call_int1 (by rfl) T.int (by decide +kernel) (pa_cons (pe_op op_add (pe_op op_mulS (pe_ix ix_list (pv 0) pe_int (fun _ _ => rfl)) pe_int) pe_int) pa_nil)) pe_int) (pg_sub (pv 0) pe_int set_list))
    (pss_one (ps_ret (pe_op op_modN (pe_op op_divS (pe_op op_modN (pe_callTy call_int1 (by rfl) T.int (by decide +kernel) (pa_cons (pe_op op_mulS (pe_ix ix_list (pv 0) pe_int (fun _ _ => rfl)) (pe_ix ix_list (pv 0) pe_int (fun _ _ => rfl))) pa_nil)) pe_int) pe_int) (pv 1)))))), ?_⟩
    refine ⟨_, rfl, pp, _, _, _, rfl, rfl, SqL.of hp, atI0, _, _, rfl, rfl, _, rfl, ?_⟩
    refine ite2 (fun c1 => ?_) (fun c1 => ?_)
    · refine ⟨_, rfl, pp, _, _, _, rfl, rfl, SqL.of hp, atI0, .inl ⟨_, rfl, _, rfl, _, _, rfl, rfl, hn0, ?_⟩⟩
      refine ⟨_, rfl, pp, _, _, _, rfl, rfl, SqL.of hp, atI0, _, rfl, _, _, rfl, rfl, ⟨hn0, sn⟩, _, rfl, pp, _, _, 0, rfl, rfl, hp, rfl, ?_⟩
      refine ⟨_, rfl, ?_⟩
      exact q _ _ (Int.fmod_nonneg_of_pos _ hn) (Int.fmod_lt_of_pos _ hn) ⟨_, z, z0, z1, upd_same⟩ fun b o e nb => by
        rw [upd_ne nb]
        exact e
    · have s0 : 0 ≤ (z * 48271 + 11).fmod 2147483647 := Int.fmod_nonneg_of_pos _ (by decide)
      have s1 : (z * 48271 + 11).fmod 2147483647 < 2147483647 := Int.fmod_lt_of_pos _ (by decide)
      refine ⟨_, rfl, pp, _, _, _, rfl, rfl, SqL.of hp, atI1, _, _, rfl, rfl, ⟨⟨by omega, by omega⟩, ⟨by decide, by decide⟩⟩, _, _, rfl, rfl, .inl ⟨_, rfl, _, _, rfl, rfl, n47, _, rfl, pp, _, _, 1, rfl, rfl, hp, rfl, ?_⟩⟩
      have e2 : (upd H pp (.lst ([V.int c, V.int z].set 1 (.int ((z * 48271 + 11).fmod 2147483647))))) pp = some (.lst [V.int c, V.int ((z * 48271 + 11).fmod 2147483647)]) := upd_same
      refine ⟨_, rfl, pp, _, _, _, rfl, rfl, SqL.of e2, atI1, _, rfl, pp, _, _, _, rfl, rfl, SqL.of e2, atI1, _, _, rfl, rfl, ⟨⟨by omega, by omega⟩, ⟨by omega, by omega⟩⟩, .inl ⟨_, rfl, _, _, rfl, rfl, n29, _, _, rfl, rfl, ⟨by decide, ⟨by decide, by decide⟩⟩, _, rfl, _, _, rfl, rfl, hn0, ?_⟩⟩
      exact q _ _ (Int.fmod_nonneg_of_pos _ hn) (Int.fmod_lt_of_pos _ hn) ⟨_, _, s0, s1, e2⟩ fun b o e nb => by
        rw [upd_ne nb]
        exact e
abbrev s__law_choose : Stmt := top 52
theorem sc__law_choose : FnScope ["_law_pool_here", "_law_items"] ["_law_pool_here", "_law_items"] (defScope s__law_choose) := ⟨rfl, rfl, rfl, by decide +kernel, rfl, by decide +kernel, by decide +kernel⟩
def spChoose (K : PySem.W.Frag) : Sp := fun vs H Q _ => ∃ (pp l : Addr) (xs : List V), vs = [.ref pp, .ref l] ∧ SqL K H l xs ∧ l ≠ pp ∧ 0 < xs.length ∧ xs.length < 1000000 ∧ PoolAt H pp ∧ ∀ v H', v ∈ xs → PoolAt H' pp → Keep pp H H' → Q v H'
theorem ok__law_choose (h : Has K mg "_law_choose" s__law_choose ["_law_pool_here", "_law_items"]) (T : Txt K mg aR) (O__law_draw : Ok P w K mg base 1 "_law_draw" ["_law_pool_here", "_law_many"] spDraw) : Ok P w K mg base 2 "_law_choose" ["_law_pool_here", "_law_items"] (spChoose K) := by
  obtain ⟨f, fd, g, b, F⟩ := h
  refine ⟨f, fd, g, F.kp, b, F.ok sc__law_choose (fun vs H Q E h => ?_) (fun cdv A outer s H vs Q E hr h => ?_)⟩
  · obtain ⟨pp, l, xs, rfl, _⟩ := h
    rfl
  · obtain ⟨pp, l, xs, rfl, hS, hne, hl0, hl1, hP, q⟩ := h
    refine ⟨_, (pss_one (ps_ret (pe_ix ix_list (pv 1) (pe_cO O__law_draw (hr.mono (by decide)) pass0 rfl (pa_cons (pv 0) (pa_cons (pe_callB call_len_seq (by rfl) T.len (by decide +kernel) (pa_cons (pv 1) pa_nil)) pa_nil))) (fun _ _ => rfl)))), ?_⟩
    refine ⟨_, rfl, _, rfl, _, rfl, l, xs, rfl, .inl hS, pp, _, rfl, by omega, ⟨by omega, by omega⟩, hP, fun d H' d0 d1 P' k' => ?_⟩
    have hj : d.toNat < xs.length := by omega
    refine ⟨l, xs, d, xs[d.toNat], rfl, rfl, k'.seq hne hS, ?_, q _ H' (List.getElem_mem hj) P' k'⟩
    exact at_of (j := d.toNat) (by omega) (List.getElem?_eq_getElem hj)
end
/-! ### the checks of programs: what they answer of any data -/
def five : List Str := ["down", "up", "zero", "positive", "near"]
def abc : Str := "abcdefghijklmnopqrstuvwxyz"
/-- what the text's top has of the checks' constants -/
structure PTx (K : PySem.W.Frag) (mg : Str → Option Value) (aR : Addr) : Prop where
  T : TxtL mg
  gRULES : mg "RULES" = some (.ref aR)
  tRULES : ∀ H, SqT K H aR (five.map V.str)
  large : ∃ t, mg "LARGEST" = some (.int 1000000 t)
  letters : ∃ t, mg "LETTERS" = some (.str abc t)
/-- data of bounded size, n deep -/
def Sz : Nat → PyData → Prop
  | 0, d => (itemsD d).length ≤ 1000 ∧ ∀ s, d = .str s → s.length ≤ 1000
  | n + 1, d => (itemsD d).length ≤ 1000 ∧ (∀ s, d = .str s → s.length ≤ 1000) ∧ ∀ x ∈ itemsD d, Sz n x
def betw (d : PyData) (lo hi : Int) : Bool := match d with | .int i => decide (lo ≤ i) && decide (i ≤ hi) | _ => false
def ruleD (d : PyData) : Bool := match d with | .str s => inV (.str s) (five.map V.str) | _ => false
def baseD (d : PyData) : Bool := match d with | .int i => betw d (-10) 10 && decide (2 ≤ i.natAbs) | _ => false
def remD (d : PyData) (n : Int) : Bool := betw d (1 - n) (n - 1)
def inAbc (c : Nat) : Bool := !(Builtin.Str.occurrences abc ⟨#[c]⟩ 0 abc.length 1).isEmpty
def nameD (d : PyData) : Bool := match d with | .str s => decide (1 ≤ s.length) && (decide (s.length ≤ 8) && s.cps.toList.all inAbc) | _ => false
def isTup (d : PyData) : Bool := tyD d == "tuple"
def listD (d : PyData) (lo hi : Int) : Bool := isSeq d && (decide (lo ≤ ((itemsD d).length : Int)) && decide (((itemsD d).length : Int) ≤ hi))
def factD (d : PyData) (n : Int) : Bool := isTup d && (decide (((itemsD d).length : Int) = n) && (itemsD d).all fun x => betw x (-1000000) 1000000)
section
variable {P : Program} {w : World} {K : PySem.W.Frag} {mg : Str → Option Value} {base : Heap} {aR : Addr}
def spIsInt : Sp := fun vs H Q _ => ∃ v d, vs = [v] ∧ Dt Z0 H v d ∧ Q (.bl (isInt d)) H
abbrev s_is_integer : Stmt := top 16
abbrev N_is_integer : List Str := ["value"]
theorem sc_is_integer : FnScope N_is_integer ["value"] (defScope s_is_integer) := ⟨rfl, rfl, rfl, by decide +kernel, rfl, by decide +kernel, by decide +kernel⟩
theorem ok_is_integer (h : Has K mg "is_integer" s_is_integer ["value"]) (PT : PTx K mg aR) : Ok P w K mg base 1 "is_integer" ["value"] spIsInt := by
  obtain ⟨f, fd, g, b, F⟩ := h
  have T := PT.T
  refine ⟨f, fd, g, F.kp, b, F.ok sc_is_integer (fun vs H Q E h => ?_) (fun cdv A outer s H vs Q E hr h => ?_)⟩
  · obtain ⟨v, d, rfl, _⟩ := h
    rfl
  · obtain ⟨v, d, rfl, h1, q⟩ := h
    refine ⟨_, (pss_one (ps_ret (pe_and (pe_callB call_isi (by rfl) T.isinstance bb_isinstance (pa_cons (pv 0) (pa_cons (pe_bltn (v := .ty "int") (by rfl) T.int bb_int rfl) pa_nil))) (pe_one (pe_not (pe_callB call_isi (by rfl) T.isinstance bb_isinstance (pa_cons (pv 0) (pa_cons (pe_bltn (v := .ty "bool") (by rfl) T.bool bb_bool rfl) pa_nil)))))))), ?_⟩
    refine ⟨_, rfl, _, _, _, _, _, rfl, .ty _, h1.ty, h1.kInt, _, rfl, ?_⟩
    cases e : isInt d || (tyD d == "bool") with
    | false =>
      refine iteF ?_
      rw [show isInt d = false from (Bool.or_eq_false_iff.mp e).1] at q
      exact q
    | true =>
      refine iteT ?_
      refine ⟨_, rfl, _, _, _, _, _, rfl, .ty _, h1.ty, h1.kBool, _, rfl, ?_⟩
      rw [show (!(tyD d == "bool")) = isInt d by cases h1 <;> first | rfl | (simp [tyD, isInt] at e; done)]
      exact q
def spBetw : Sp := fun vs H Q _ => ∃ v d lo hi, vs = [v, .int lo, .int hi] ∧ Dt Z0 H v d ∧ Q (.bl (betw d lo hi)) H
abbrev s_is_between : Stmt := top 17
abbrev N_is_between : List Str := ["value", "low", "high"]
theorem sc_is_between : FnScope N_is_between ["value", "low", "high"] (defScope s_is_between) := ⟨rfl, rfl, rfl, by decide +kernel, rfl, by decide +kernel, by decide +kernel⟩
theorem ok_is_between (h : Has K mg "is_between" s_is_between ["value", "low", "high"]) (O_is_integer : Ok P w K mg base 1 "is_integer" ["value"] spIsInt) : Ok P w K mg base 2 "is_between" ["value", "low", "high"] spBetw := by
  obtain ⟨f, fd, g, b, F⟩ := h
  refine ⟨f, fd, g, F.kp, b, F.ok sc_is_between (fun vs H Q E h => ?_) (fun cdv A outer s H vs Q E hr h => ?_)⟩
  · obtain ⟨v, d, lo, hi, rfl, _⟩ := h
    rfl
  · obtain ⟨v, d, lo, hi, rfl, h1, q⟩ := h
    refine ⟨_, (pss_one (ps_ret (pe_and (pe_cO O_is_integer (hr.mono (by decide)) pass0 rfl (pa_cons (pv 0) pa_nil)) (pe_one (pe_chain op_le op_le (pv 1) (pv 0) (pv 2)))))), ?_⟩
    refine ⟨_, rfl, v, d, rfl, h1, _, rfl, ?_⟩
    cases h1 with
    | int i =>
      refine iteT ?_
      refine ⟨_, rfl, _, rfl, _, _, rfl, rfl, _, rfl, ?_⟩
      by_cases e : lo ≤ i
      · refine iteP (decide_eq_true e) ?_
        refine ⟨_, rfl, _, _, rfl, rfl, ?_⟩
        rw [show betw (.int i) lo hi = decide (i ≤ hi) by show (decide _ && decide _) = _; rw [decide_eq_true e, Bool.true_and]] at q
        exact q
      · refine iteN (by rw [decide_eq_false e]; decide) ?_
        rw [show betw (.int i) lo hi = false by show (decide _ && decide _) = _; rw [decide_eq_false e, Bool.false_and]] at q
        exact q
    | _ => exact iteF q
def spRuleD : Sp := fun vs H Q _ => ∃ v d, vs = [v] ∧ Dt Z0 H v d ∧ Q (.bl (ruleD d)) H
abbrev s_is_rule : Stmt := top 18
abbrev N_is_rule : List Str := ["value"]
theorem sc_is_rule : FnScope N_is_rule ["value"] (defScope s_is_rule) := ⟨rfl, rfl, rfl, by decide +kernel, rfl, by decide +kernel, by decide +kernel⟩
theorem ok_is_rule (h : Has K mg "is_rule" s_is_rule ["value"]) (PT : PTx K mg aR) : Ok P w K mg base 1 "is_rule" ["value"] spRuleD := by
  obtain ⟨f, fd, g, b, F⟩ := h
  have T := PT.T
  refine ⟨f, fd, g, F.kp, b, F.ok sc_is_rule (fun vs H Q E h => ?_) (fun cdv A outer s H vs Q E hr h => ?_)⟩
  · obtain ⟨v, d, rfl, _⟩ := h
    rfl
  · obtain ⟨v, d, rfl, h1, q⟩ := h
    refine ⟨_, (pss_one (ps_ret (pe_and (pe_callB call_isi (by rfl) T.isinstance bb_isinstance (pa_cons (pv 0) (pa_cons (pe_bltn (v := .ty "str") (by rfl) T.str bb_str rfl) pa_nil))) (pe_one (pe_cmpR op_in_seq (pv 0) (pe_glob (v := .ref aR) (by rfl) PT.gRULES rfl) (by rfl)))))), ?_⟩
    refine ⟨_, rfl, _, _, _, _, _, rfl, .ty _, h1.ty, h1.kStr, _, rfl, ?_⟩
    cases h1 with
    | str x =>
      refine iteT ?_
      exact ⟨_, rfl, _, _, rfl, .inr (PT.tRULES _), rfl, rfl, q⟩
    | _ => exact iteF q
def spBaseD : Sp := fun vs H Q _ => ∃ v d, vs = [v] ∧ Dt Z0 H v d ∧ Q (.bl (baseD d)) H
abbrev s_is_base : Stmt := top 19
abbrev N_is_base : List Str := ["value"]
theorem sc_is_base : FnScope N_is_base ["value"] (defScope s_is_base) := ⟨rfl, rfl, rfl, by decide +kernel, rfl, by decide +kernel, by decide +kernel⟩
theorem ok_is_base (h : Has K mg "is_base" s_is_base ["value"]) (PT : PTx K mg aR) (O_is_between : Ok P w K mg base 2 "is_between" ["value", "low", "high"] spBetw) : Ok P w K mg base 3 "is_base" ["value"] spBaseD := by
  obtain ⟨f, fd, g, b, F⟩ := h
  have T := PT.T
  refine ⟨f, fd, g, F.kp, b, F.ok sc_is_base (fun vs H Q E h => ?_) (fun cdv A outer s H vs Q E hr h => ?_)⟩
  · obtain ⟨v, d, rfl, _⟩ := h
    rfl
  · obtain ⟨v, d, rfl, h1, q⟩ := h
    refine ⟨_, (pss_one (ps_ret (pe_and (pe_cO O_is_between (hr.mono (by decide)) pass0 rfl (pa_cons (pv 0) (pa_cons (pe_un un_neg pe_int) (pa_cons pe_int pa_nil)))) (pe_one (pe_cmpR op_ge (pe_callB call_abs (by rfl) T.abs bb_abs (pa_cons (pv 0) pa_nil)) pe_int (nomark _)))))), ?_⟩
    refine ⟨_, rfl, _, rfl, v, d, _, _, rfl, h1, _, rfl, ?_⟩
    cases e : betw d (-10) 10 with
    | false =>
      refine iteF ?_
      rw [show baseD d = false by cases d <;> first | rfl | (show (betw _ _ _ && _) = false; rw [e]; rfl)] at q
      exact q
    | true =>
      refine iteT ?_
      cases h1 with
      | int i =>
        refine ⟨_, rfl, _, rfl, _, _, rfl, rfl, ?_⟩
        rw [show baseD (.int i) = decide ((2 : Int) ≤ (if i < 0 then -i else i)) by
          show (betw _ _ _ && decide (2 ≤ i.natAbs)) = _
          rw [e, Bool.true_and]
          exact decide_eq_decide.mpr (by split <;> omega)] at q
        exact q
      | _ => cases e
def spRemD : Sp := fun vs H Q _ => ∃ v d n, vs = [v, .int n] ∧ Dt Z0 H v d ∧ Q (.bl (remD d n)) H
abbrev s_is_remainder : Stmt := top 20
abbrev N_is_remainder : List Str := ["value", "size"]
theorem sc_is_remainder : FnScope N_is_remainder ["value", "size"] (defScope s_is_remainder) := ⟨rfl, rfl, rfl, by decide +kernel, rfl, by decide +kernel, by decide +kernel⟩
theorem ok_is_remainder (h : Has K mg "is_remainder" s_is_remainder ["value", "size"]) (O_is_between : Ok P w K mg base 2 "is_between" ["value", "low", "high"] spBetw) : Ok P w K mg base 3 "is_remainder" ["value", "size"] spRemD := by
  obtain ⟨f, fd, g, b, F⟩ := h
  refine ⟨f, fd, g, F.kp, b, F.ok sc_is_remainder (fun vs H Q E h => ?_) (fun cdv A outer s H vs Q E hr h => ?_)⟩
  · obtain ⟨v, d, n, rfl, _⟩ := h
    rfl
  · obtain ⟨v, d, n, rfl, h1, q⟩ := h
    refine ⟨_, (pss_one (ps_ret (pe_cO O_is_between (hr.mono (by decide)) pass0 rfl (pa_cons (pv 0) (pa_cons (pe_op op_sub pe_int (pv 1)) (pa_cons (pe_op op_sub (pv 1) pe_int) pa_nil)))))), ?_⟩
    exact ⟨_, rfl, _, rfl, _, _, rfl, rfl, _, rfl, _, _, rfl, rfl, v, d, _, _, rfl, h1, q⟩
def spNameD : Sp := fun vs H Q _ => ∃ v d, vs = [v] ∧ Dt Z0 H v d ∧ Sz 0 d ∧ ∀ H', Same H H' → Q (.bl (nameD d)) H'
abbrev s_is_name : Stmt := top 21
abbrev N_is_name : List Str := ["value", "letter"]
theorem sc_is_name : FnScope N_is_name ["value"] (defScope s_is_name) := ⟨rfl, rfl, rfl, by decide +kernel, rfl, by decide +kernel, by decide +kernel⟩
theorem ok_is_name (h : Has K mg "is_name" s_is_name ["value"]) (PT : PTx K mg aR) : Ok P w K mg base 1 "is_name" ["value"] spNameD := by
  obtain ⟨f, fd, g, b, F⟩ := h
  have T := PT.T
  obtain ⟨tL, gL⟩ := PT.letters
  refine ⟨f, fd, g, F.kp, b, F.ok sc_is_name (fun vs H Q E h => ?_) (fun cdv A outer s H vs Q E hr h => ?_)⟩
  · obtain ⟨v, d, rfl, _⟩ := h
    rfl
  · obtain ⟨v, d, rfl, h1, sz, q⟩ := h
    refine ⟨_, (pss_cons (ps_if (pt_not (pt_val (pe_callB call_isi (by rfl) T.isinstance bb_isinstance (pa_cons (pv 0) (pa_cons (pe_bltn (v := .ty "str") (by rfl) T.str bb_str rfl) pa_nil)))))
        (pss_one (ps_ret pe_bl))
        pss_nil)
      (pss_one (ps_ret (pe_and (pe_chain op_le op_le pe_int (pe_callB call_len_str (by rfl) T.len bb_len (pa_cons (pv 0) pa_nil)) pe_int) (pe_one (pe_callB (allT rfl) (by rfl) T.all bb_all (pa_cons (pe_lc (own := [("letter", 1)]) (g := (gName 1)) (tt := tYes) rfl sc_is_name.nd (pi_str (pv 0)) (blkOk_by (N := N_is_name) (sc := defScope s_is_name) (by decide +kernel)) (fun _ _ _ _ _ => (pg_name (i := 1) sc_is_name.nd rfl (by first | exact Or.inl rfl | exact Or.inr rfl))) (fun _ _ _ _ _ => pts_nil) (fun _ _ _ _ _ => (pe_cmpR op_in_str (pv 1) (pe_glob (v := .str abc) (by rfl) gL ⟨tL, rfl⟩) (by rfl)))) pa_nil))))))), ?_⟩
    refine ⟨_, rfl, _, _, _, _, _, rfl, .ty _, h1.ty, h1.kStr, _, rfl, ?_⟩
    cases h1 with
    | str x =>
      have few := sz.2 x rfl
      refine iteN (fun h => nomatch h) ?_
      refine ⟨_, rfl, x, rfl, Nat.le_trans few (by decide), _, _, rfl, rfl, _, rfl, ?_⟩
      have e : nameD (.str x) = (decide (1 ≤ x.length) && (decide (x.length ≤ 8) && x.cps.toList.all inAbc)) := rfl
      rw [e] at q
      by_cases c1 : 1 ≤ x.length
      · rw [decide_eq_true c1, Bool.true_and] at q
        refine iteP (decide_eq_true (by omega)) ?_
        by_cases c2 : x.length ≤ 8
        · rw [decide_eq_true c2, Bool.true_and] at q
          refine ⟨_, _, rfl, rfl, _, rfl, iteP (decide_eq_true (by omega)) ?_⟩
          refine ⟨_, rfl, x, rfl, fun D hD => ?_⟩
          refine lc_vals walk_str Z0 (fun _ => True) (x.cps.toList.map fun c => V.bl (inAbc c)) (by simp) hD id True.intro (fun _ _ _ _ => True.intro) (Nat.lt_of_le_of_lt (show x.cps.size ≤ 8 from c2) (by decide)) (fun _ _ => True.intro) ?_ ?_
          · intro i y k H2 H3 Qk ek f _ _ yl z
            obtain ⟨rfl, c, hc, rfl⟩ := yl
            rw [List.getElem?_map, Array.getElem?_toList, hc] at ek
            cases ek
            exact ⟨rfl, _, rfl, _, _, rfl, rfl, z _ Fm.refl True.intro⟩
          · intro H4 f _ hD4
            refine ⟨D, x.cps.toList.map inAbc, rfl, by rw [hD4, List.map_map]; rfl, ?_⟩
            rw [List.all_map]
            exact q H4 f.same
        · rw [decide_eq_false c2, Bool.false_and] at q
          refine ⟨_, _, rfl, rfl, _, rfl, iteN (by rw [decide_eq_false (show ¬ (x.length : Int) ≤ 8 by omega)]; decide) ?_⟩
          exact q _ (Same.refl _)
      · rw [decide_eq_false c1, Bool.false_and] at q
        refine iteN (by rw [decide_eq_false (show ¬ (1 : Int) ≤ (x.length : Int) by omega)]; decide) ?_
        exact ⟨_, rfl, iteF (q _ (Same.refl _))⟩
    | _ => exact iteP rfl (q _ (Same.refl _))
def spListD : Sp := fun vs H Q _ => ∃ v d lo hi, vs = [v, .int lo, .int hi] ∧ Dt Z0 H v d ∧ ∀ H', Same H H' → Q (.bl (listD d lo hi)) H'
abbrev s_is_listing : Stmt := top 22
abbrev N_is_listing : List Str := ["value", "least", "most"]
theorem sc_is_listing : FnScope N_is_listing ["value", "least", "most"] (defScope s_is_listing) := ⟨rfl, rfl, rfl, by decide +kernel, rfl, by decide +kernel, by decide +kernel⟩
theorem ok_is_listing (h : Has K mg "is_listing" s_is_listing ["value", "least", "most"]) (PT : PTx K mg aR) : Ok P w K mg base 1 "is_listing" ["value", "least", "most"] spListD := by
  obtain ⟨f, fd, g, b, F⟩ := h
  have T := PT.T
  refine ⟨f, fd, g, F.kp, b, F.ok sc_is_listing (fun vs H Q E h => ?_) (fun cdv A outer s H vs Q E hr h => ?_)⟩
  · obtain ⟨v, d, lo, hi, rfl, _⟩ := h
    rfl
  · obtain ⟨v, d, lo, hi, rfl, hd, q⟩ := h
    refine ⟨_, (pss_one (ps_ret (pe_and (pe_callB call_isiT (by rfl) T.isinstance bb_isinstance (pa_cons (pv 0) (pa_cons (pe_tup (pa_cons (pe_bltn (v := .ty "list") (by rfl) T.list bb_list rfl) (pa_cons (pe_bltn (v := .ty "tuple") (by rfl) T.tuple bb_tuple rfl) pa_nil))) pa_nil))) (pe_one (pe_chain op_le op_le (pv 1) (pe_callB lenT (by rfl) T.len bb_len (pa_cons (pv 0) pa_nil)) (pv 2)))))), ?_⟩
    refine ⟨_, rfl, (by show 2 ≤ sizeLine; decide), fun t ht => ?_⟩
    have s1 : Same H (upd H t (.tup [.ty "list", .ty "tuple"])) := Same.new ht
    have d1 := hd.fr (Fm.of s1)
    refine ⟨_, _, _, _, _, _, rfl, upd_same, pairedLT, d1.ty, d1.kSeq, _, rfl, ?_⟩
    generalize upd H t (.tup [.ty "list", .ty "tuple"]) = H1 at s1 d1 ⊢
    have q := q H1 s1
    unfold listD at q
    cases e : isSeq d with
    | false =>
      refine iteF ?_
      rw [e] at q
      exact q
    | true =>
      refine iteT ?_
      obtain ⟨a, xs, rfl, dx, ha, _⟩ := d1.seq e
      have hl := dx.len
      rw [e, Bool.true_and] at q
      refine ⟨_, rfl, _, rfl, a, xs, rfl, ha, _, _, rfl, rfl, _, rfl, ?_⟩
      rw [hl]
      by_cases c1 : lo ≤ ((itemsD d).length : Int)
      · refine iteP (decide_eq_true c1) ?_
        rw [decide_eq_true c1, Bool.true_and] at q
        exact ⟨_, rfl, _, _, rfl, rfl, q⟩
      · refine iteN (by rw [decide_eq_false c1]; decide) ?_
        rw [decide_eq_false c1, Bool.false_and] at q
        exact q
def spFactD : Sp := fun vs H Q _ => ∃ v d n, vs = [v, .int n] ∧ Dt Z0 H v d ∧ (itemsD d).length ≤ 1000 ∧ ∀ H', Same H H' → Q (.bl (factD d n)) H'
abbrev s_is_factors : Stmt := top 23
abbrev N_is_factors : List Str := ["value", "many", "factor"]
theorem sc_is_factors : FnScope N_is_factors ["value", "many"] (defScope s_is_factors) := ⟨rfl, rfl, rfl, by decide +kernel, rfl, by decide +kernel, by decide +kernel⟩
theorem Dt.tupOf {v : V} {d : PyData} {Z : Addr → Prop} {H : Hp} (h : Dt Z H v d) (s : isTup d = true) : ∃ a xs, v = .ref a ∧ DtAll Z H xs (itemsD d) ∧ H a = some (.tup xs) ∧ ¬ Z a ∧ d = .tuple (itemsD d) := by
  cases h <;> first | (simp [isTup, tyD] at s; done) | exact ⟨_, _, rfl, by assumption, by assumption, by assumption, rfl⟩
theorem ok_is_factors (h : Has K mg "is_factors" s_is_factors ["value", "many"]) (PT : PTx K mg aR) (O_is_between : Ok P w K mg base 2 "is_between" ["value", "low", "high"] spBetw) : Ok P w K mg base 3 "is_factors" ["value", "many"] spFactD := by
  obtain ⟨f, fd, g, b, F⟩ := h
  have T := PT.T
  obtain ⟨tL, gL⟩ := PT.large
  refine ⟨f, fd, g, F.kp, b, F.ok sc_is_factors (fun vs H Q E h => ?_) (fun cdv A outer s H vs Q E hr h => ?_)⟩
  · obtain ⟨v, d, n, rfl, _⟩ := h
    rfl
  · obtain ⟨v, d, n, rfl, hd, few, q⟩ := h
    refine ⟨_, (pss_cons (ps_if (pt_not (PW.pt (pw_and (pt_val (pe_callB call_isi (by rfl) T.isinstance bb_isinstance (pa_cons (pv 0) (pa_cons (pe_bltn (v := .ty "tuple") (by rfl) T.tuple bb_tuple rfl) pa_nil)))) (pw_and1 (pt_cmpR op_eq (pe_callB lenT (by rfl) T.len bb_len (pa_cons (pv 0) pa_nil)) (pv 1) (nomark _))))))
        (pss_one (ps_ret pe_bl))
        pss_nil)
      (pss_one (ps_ret (pe_callB (allT rfl) (by rfl) T.all bb_all (pa_cons (pe_lc (own := [("factor", 2)]) (g := (gName 2)) (tt := tYes) rfl sc_is_factors.nd (pi_seq (pv 0)) (blkOk_by (N := N_is_factors) (sc := defScope s_is_factors) (by decide +kernel)) (fun _ _ _ _ _ => (pg_name (i := 2) sc_is_factors.nd rfl (by first | exact Or.inl rfl | exact Or.inr rfl))) (fun _ _ _ _ _ => pts_nil) (fun _ _ _ _ _ => (pe_cO O_is_between (hr.mono (by decide)) pass0 rfl (pa_cons (pv 2) (pa_cons (pe_un un_neg (pe_glob (v := .int 1000000) (by rfl) gL ⟨tL, rfl⟩)) (pa_cons (pe_glob (v := .int 1000000) (by rfl) gL ⟨tL, rfl⟩) pa_nil)))))) pa_nil))))), ?_⟩
    refine ⟨_, rfl, _, _, _, _, _, rfl, .ty _, hd.ty, hd.kTup, _, rfl, ?_⟩
    unfold factD at q
    cases e : isTup d with
    | false =>
      rw [e] at q
      have e2 : (tyD d == "tuple") = false := e
      rw [e2]
      exact iteF (iteP rfl (q _ (Same.refl _)))
    | true =>
      rw [e, Bool.true_and] at q
      have e2 : (tyD d == "tuple") = true := e
      rw [e2]
      refine iteT ?_
      obtain ⟨a, xs, rfl, dx, ha, _, _⟩ := hd.tupOf e
      have hl := dx.len
      refine ⟨_, rfl, a, xs, rfl, .inr ha, _, rfl, rfl, _, rfl, ?_⟩
      rw [hl]
      by_cases hn : ((itemsD d).length : Int) = n
      · rw [decide_eq_true hn, Bool.true_and] at q
        refine iteN (by rw [veq hn]; decide) ?_
        refine ⟨_, rfl, a, xs, .tup xs, rfl, .inr rfl, ha, fun J wk D hD => ?_⟩
        refine lc_vals wk Z0 (fun _ => True) ((itemsD d).map fun d => V.bl (betw d (-1000000) 1000000)) (by simp [hl]) hD id True.intro (fun _ _ _ _ => True.intro) (by rw [hl]; exact Nat.lt_of_le_of_lt few (by decide)) (fun H f => f _ _ ha id) ?_ ?_
        · intro i x k H2 H3 Qk ek f _ _ y z
          obtain ⟨rfl, ex⟩ := y
          rw [List.getElem?_map] at ek
          obtain ⟨di, e1, rfl⟩ := Option.map_eq_some_iff.mp ek
          obtain ⟨d', e2, dt⟩ := dx.get ex
          rw [e1] at e2
          cases e2
          exact ⟨rfl, _, rfl, _, rfl, _, _, _, _, rfl, dt.fr f, z _ Fm.refl True.intro⟩
        · intro H4 f _ hD4
          refine ⟨D, (itemsD d).map fun x => betw x (-1000000) 1000000, rfl, by rw [hD4, List.map_map]; rfl, ?_⟩
          rw [List.all_map]
          exact q H4 f.same
      · rw [decide_eq_false hn, Bool.false_and] at q
        refine iteP ?_ (q _ (Same.refl _))
        rw [Bool.eq_false_iff.mpr (vne hn)]
        rfl
def itD (d : PyData) (i : Nat) : PyData := (itemsD d).getD i .none
def regD (d : PyData) : Bool := isTup d && (decide ((itemsD d).length = 2) && (nameD (itD d 0) && factD (.tuple [itD d 1]) 1))
theorem two_dt {Z : Addr → Prop} {H : Hp} {xs : List V} {ds : List PyData} (h : DtAll Z H xs ds) (l : ds.length = 2) : ∃ x y d e, xs = [x, y] ∧ ds = [d, e] ∧ Dt Z H x d ∧ Dt Z H y e := by
  cases h with
  | nil => cases l
  | cons h1 t =>
    cases t with
    | nil => cases l
    | cons h2 t =>
      cases t with
      | nil => exact ⟨_, _, _, _, rfl, rfl, h1, h2⟩
      | cons h3 t => simp at l
theorem three_dt {Z : Addr → Prop} {H : Hp} {xs : List V} {ds : List PyData} (h : DtAll Z H xs ds) (l : ds.length = 3) : ∃ x y z d e f, xs = [x, y, z] ∧ ds = [d, e, f] ∧ Dt Z H x d ∧ Dt Z H y e ∧ Dt Z H z f := by
  cases h with
  | nil => cases l
  | cons h1 t =>
    obtain ⟨x, y, d, e, rfl, rfl, h2, h3⟩ := two_dt t (by simpa using l)
    exact ⟨_, _, _, _, _, _, rfl, rfl, h1, h2, h3⟩
theorem four_dt {Z : Addr → Prop} {H : Hp} {xs : List V} {ds : List PyData} (h : DtAll Z H xs ds) (l : ds.length = 4) : ∃ x y z u d e f g, xs = [x, y, z, u] ∧ ds = [d, e, f, g] ∧ Dt Z H x d ∧ Dt Z H y e ∧ Dt Z H z f ∧ Dt Z H u g := by
  cases h with
  | nil => cases l
  | cons h1 t =>
    obtain ⟨x, y, z, d, e, f, rfl, rfl, h2, h3, h4⟩ := three_dt t (by simpa using l)
    exact ⟨_, _, _, _, _, _, _, _, rfl, rfl, h1, h2, h3, h4⟩
def spRegD : Sp := fun vs H Q _ => ∃ v d, vs = [v] ∧ Dt Z0 H v d ∧ Sz 1 d ∧ ∀ H', Same H H' → Q (.bl (regD d)) H'
abbrev s_is_register : Stmt := top 24
abbrev N_is_register : List Str := ["value"]
theorem sc_is_register : FnScope N_is_register ["value"] (defScope s_is_register) := ⟨rfl, rfl, rfl, by decide +kernel, rfl, by decide +kernel, by decide +kernel⟩
theorem ok_is_register (h : Has K mg "is_register" s_is_register ["value"]) (PT : PTx K mg aR) (O_is_name : Ok P w K mg base 1 "is_name" ["value"] spNameD) (O_is_factors : Ok P w K mg base 3 "is_factors" ["value", "many"] spFactD) : Ok P w K mg base 4 "is_register" ["value"] spRegD := by
  obtain ⟨f, fd, g, b, F⟩ := h
  have T := PT.T
  refine ⟨f, fd, g, F.kp, b, F.ok sc_is_register (fun vs H Q E h => ?_) (fun cdv A outer s H vs Q E hr h => ?_)⟩
  · obtain ⟨v, d, rfl, _⟩ := h
    rfl
  · obtain ⟨v, d, rfl, hd, sz, q⟩ := h
    refine ⟨_, (pss_one (ps_ret (pe_and (pe_callB call_isi (by rfl) T.isinstance bb_isinstance (pa_cons (pv 0) (pa_cons (pe_bltn (v := .ty "tuple") (by rfl) T.tuple bb_tuple rfl) pa_nil))) (pe_and (pe_cmpR op_eq (pe_callB lenT (by rfl) T.len bb_len (pa_cons (pv 0) pa_nil)) pe_int (nomark _)) (pe_and (pe_cO O_is_name (hr.mono (by decide)) pass0 rfl (pa_cons (pe_ix ixt (pv 0) pe_int (fun _ _ => rfl)) pa_nil)) (pe_one (pe_cO O_is_factors (hr.mono (by decide)) pass0 rfl (pa_cons (pe_slice slt (pv 0) (po_some pe_int) po_none) (pa_cons pe_int pa_nil))))))))), ?_⟩
    refine ⟨_, rfl, _, _, _, _, _, rfl, .ty _, hd.ty, hd.kTup, _, rfl, ?_⟩
    unfold regD at q
    cases e : isTup d with
    | false =>
      rw [e] at q
      rw [show (tyD d == "tuple") = false from e]
      exact iteF (q _ (Same.refl _))
    | true =>
      rw [e, Bool.true_and] at q
      rw [show (tyD d == "tuple") = true from e]
      refine iteT ?_
      obtain ⟨a, xs, rfl, dx, ha, _, ed⟩ := hd.tupOf e
      have hl := dx.len
      refine ⟨_, rfl, a, xs, rfl, .inr ha, rfl, _, rfl, ?_⟩
      rw [hl]
      by_cases hn : (itemsD d).length = 2
      · rw [decide_eq_true hn, Bool.true_and] at q
        refine iteP (veq (by omega)) ?_
        obtain ⟨x, y, d0, d1, rfl, eds, h0, h1⟩ := two_dt dx hn
        have e0 : itD d 0 = d0 := by unfold itD; rw [eds]; rfl
        have e1 : itD d 1 = d1 := by unfold itD; rw [eds]; rfl
        rw [e0, e1] at q
        have z0 : Sz 0 d0 := sz.2.2 d0 (by rw [eds]; simp)
        refine ⟨_, rfl, a, _, 0, x, rfl, rfl, ha, atI0, x, d0, rfl, h0, z0, fun H1 s1 => ⟨_, rfl, ?_⟩⟩
        cases en : nameD d0 with
        | false =>
          rw [en] at q
          exact iteF (q _ s1)
        | true =>
          rw [en, Bool.true_and] at q
          refine iteT ?_
          have ha1 := s1 _ _ ha
          refine ⟨_, rfl, _, rfl, a, _, rfl, ha1, (fun h => absurd (show HT.sIx 2 0 (some 1) = 0 from h.1) (by decide)), fun p np => ?_⟩
          have s2 : Same H1 (upd H1 p (.tup (cutV [x, y] (some 1) none))) := Same.new np
          have dp : Dt Z0 (upd H1 p (.tup (cutV [x, y] (some 1) none))) (.ref p) (.tuple [d1]) := .tup upd_same id (.cons ((h1.fr (Fm.of s1)).fr (Fm.of s2)) .nil)
          exact ⟨_, _, _, rfl, dp, by simp [itemsD], fun H3 s3 => q _ ((s1.trans s2).trans s3)⟩
      · rw [decide_eq_false hn, Bool.false_and] at q
        exact iteN (vne (by omega)) (q _ (Same.refl _))
def modeD (d : PyData) : Bool := isTup d && (decide ((itemsD d).length = 3) && (nameD (itD d 0) && (ruleD (itD d 1) && isSeq (itD d 2))))
def spModeD : Sp := fun vs H Q _ => ∃ v d, vs = [v] ∧ Dt Z0 H v d ∧ Sz 1 d ∧ ∀ H', Same H H' → Q (.bl (modeD d)) H'
abbrev s_is_mode : Stmt := top 25
abbrev N_is_mode : List Str := ["value", "name", "rule", "rows"]
theorem sc_is_mode : FnScope N_is_mode ["value"] (defScope s_is_mode) := ⟨rfl, rfl, rfl, by decide +kernel, rfl, by decide +kernel, by decide +kernel⟩
theorem ok_is_mode (h : Has K mg "is_mode" s_is_mode ["value"]) (PT : PTx K mg aR) (O_is_name : Ok P w K mg base 1 "is_name" ["value"] spNameD) (O_is_rule : Ok P w K mg base 1 "is_rule" ["value"] spRuleD) : Ok P w K mg base 2 "is_mode" ["value"] spModeD := by
  obtain ⟨f, fd, g, b, F⟩ := h
  have T := PT.T
  refine ⟨f, fd, g, F.kp, b, F.ok sc_is_mode (fun vs H Q E h => ?_) (fun cdv A outer s H vs Q E hr h => ?_)⟩
  · obtain ⟨v, d, rfl, _⟩ := h
    rfl
  · obtain ⟨v, d, rfl, hd, sz, q⟩ := h
    refine ⟨_, (pss_cons (ps_if (pt_not (PW.pt (pw_and (pt_val (pe_callB call_isi (by rfl) T.isinstance bb_isinstance (pa_cons (pv 0) (pa_cons (pe_bltn (v := .ty "tuple") (by rfl) T.tuple bb_tuple rfl) pa_nil)))) (pw_and1 (pt_cmpR op_eq (pe_callB lenT (by rfl) T.len bb_len (pa_cons (pv 0) pa_nil)) pe_int (nomark _))))))
        (pss_one (ps_ret pe_bl))
        pss_nil)
      (pss_cons (ps_asg (pv 0) (pgT (n := 3) (by rfl) (pgs_cons (pg_name (i := 1) sc_is_mode.nd rfl (.inl rfl)) (pgs_cons (pg_name (i := 2) sc_is_mode.nd rfl (.inl rfl)) (pgs_cons (pg_name (i := 3) sc_is_mode.nd rfl (.inl rfl)) pgs_nil)))))
      (pss_one (ps_ret (pe_and (pe_cO O_is_name (hr.mono (by decide)) pass0 rfl (pa_cons (pv 1) pa_nil)) (pe_and (pe_cO O_is_rule (hr.mono (by decide)) pass0 rfl (pa_cons (pv 2) pa_nil)) (pe_one (pe_callB call_isiT (by rfl) T.isinstance bb_isinstance (pa_cons (pv 3) (pa_cons (pe_tup (pa_cons (pe_bltn (v := .ty "list") (by rfl) T.list bb_list rfl) (pa_cons (pe_bltn (v := .ty "tuple") (by rfl) T.tuple bb_tuple rfl) pa_nil))) pa_nil)))))))))), ?_⟩
    refine ⟨_, rfl, _, _, _, _, _, rfl, .ty _, hd.ty, hd.kTup, _, rfl, ?_⟩
    unfold modeD at q
    cases e : isTup d with
    | false =>
      rw [e] at q
      rw [show (tyD d == "tuple") = false from e]
      exact iteF (iteP rfl (q _ (Same.refl _)))
    | true =>
      rw [e, Bool.true_and] at q
      rw [show (tyD d == "tuple") = true from e]
      refine iteT ?_
      obtain ⟨a, xs, rfl, dx, ha, _, ed⟩ := hd.tupOf e
      have hl := dx.len
      refine ⟨_, rfl, a, xs, rfl, .inr ha, rfl, _, rfl, ?_⟩
      rw [hl]
      by_cases hn : (itemsD d).length = 3
      · rw [decide_eq_true hn, Bool.true_and] at q
        refine iteN (by rw [veq (show (((itemsD d).length : Nat) : Int) = 3 by omega)]; decide) ?_
        obtain ⟨x, y, z, d0, d1, d2, rfl, eds, h0, h1, h2⟩ := three_dt dx hn
        have e0 : itD d 0 = d0 := by unfold itD; rw [eds]; rfl
        have e1 : itD d 1 = d1 := by unfold itD; rw [eds]; rfl
        have e2 : itD d 2 = d2 := by unfold itD; rw [eds]; rfl
        rw [e0, e1, e2] at q
        have z0 : Sz 0 d0 := sz.2.2 d0 (by rw [eds]; simp)
        refine ⟨_, rfl, a, _, rfl, ha, rfl, _, _, rfl, _, _, rfl, _, _, rfl, rfl, ?_⟩
        refine ⟨_, rfl, x, d0, rfl, h0, z0, fun H1 s1 => ⟨_, rfl, ?_⟩⟩
        cases en : nameD d0 with
        | false =>
          rw [en] at q
          exact iteF (q _ s1)
        | true =>
          rw [en, Bool.true_and] at q
          refine iteT ?_
          refine ⟨_, rfl, y, d1, rfl, h1.fr (Fm.of s1), _, rfl, ?_⟩
          cases er : ruleD d1 with
          | false =>
            rw [er] at q
            exact iteF (q _ s1)
          | true =>
            rw [er, Bool.true_and] at q
            refine iteT ?_
            refine ⟨_, rfl, (by show 2 ≤ sizeLine; decide), fun t ht => ?_⟩
            have s2 : Same H1 (upd H1 t (.tup [.ty "list", .ty "tuple"])) := Same.new ht
            have d3 := (h2.fr (Fm.of s1)).fr (Fm.of s2)
            exact ⟨_, _, _, _, _, _, rfl, upd_same, pairedLT, d3.ty, d3.kSeq, q _ (s1.trans s2)⟩
      · rw [decide_eq_false hn, Bool.false_and] at q
        refine iteP ?_ (q _ (Same.refl _))
        rw [Bool.eq_false_iff.mpr (vne (show (((itemsD d).length : Nat) : Int) ≠ 3 by omega))]
        rfl
def optD (d : PyData) (b : Bool) : Bool := match d with | .none => true | _ => b
def thenD (d : PyData) (zs : List Str) : Bool := match d with | .none => true | .str s => inV (.str s) (zs.map V.str) | _ => false
def upsD (d : PyData) (many : Nat) : Bool := isTup d && (decide ((itemsD d).length = many) && (itemsD d).all fun x => factD x (many + 2))
def rowD (d : PyData) (size : Int) (many : Nat) (zs : List Str) : Bool :=
  isTup d && (decide ((itemsD d).length = 4) && ((optD (itD d 0) (betw (itD d 0) (-1) 1) && optD (itD d 1) (remD (itD d 1) size)) && (upsD (itD d 2) many && thenD (itD d 3) zs)))
def spRowD : Sp := fun vs H Q _ => ∃ v d size many nm zs, vs = [v, .int size, .int ((many : Nat) : Int), .ref nm] ∧ Dt Z0 H v d ∧ Sz 2 d ∧ H nm = some (.lst (zs.map V.str)) ∧ ∀ H', Same H H' → Q (.bl (rowD d size many zs)) H'
abbrev s_is_row : Stmt := top 26
abbrev N_is_row : List Str := ["value", "size", "many", "names", "sign", "remainder", "updates", "then", "update"]
theorem sc_is_row : FnScope N_is_row ["value", "size", "many", "names"] (defScope s_is_row) := ⟨rfl, rfl, rfl, by decide +kernel, rfl, by decide +kernel, by decide +kernel⟩
theorem isN_opt {Z : Addr → Prop} {H : Hp} {v : V} {d : PyData} (h : Dt Z H v d) : decide (v = .non) = (tyD d == "NoneType") := by
  cases h <;> first | rfl | (exact decide_eq_false (fun z => by cases z))
theorem optD_of {d : PyData} {b : Bool} : optD d b = ((tyD d == "NoneType") || b) := by
  cases d <;> rfl
theorem flat_strs (zs : List Str) : (zs.map V.str).all flatV = true := by
  rw [List.all_eq_true]
  intro v hv
  obtain ⟨s, _, rfl⟩ := List.mem_map.mp hv
  rfl
theorem ok_is_row (h : Has K mg "is_row" s_is_row ["value", "size", "many", "names"]) (PT : PTx K mg aR) (O_is_between : Ok P w K mg base 2 "is_between" ["value", "low", "high"] spBetw) (O_is_remainder : Ok P w K mg base 3 "is_remainder" ["value", "size"] spRemD)
    (O_is_factors : Ok P w K mg base 3 "is_factors" ["value", "many"] spFactD) : Ok P w K mg base 4 "is_row" ["value", "size", "many", "names"] spRowD := by
  obtain ⟨f, fd, g, b, F⟩ := h
  have T := PT.T
  refine ⟨f, fd, g, F.kp, b, F.ok sc_is_row (fun vs H Q E h => ?_) (fun cdv A outer s H vs Q E hr h => ?_)⟩
  · obtain ⟨v, d, size, many, nm, zs, rfl, _⟩ := h
    rfl
  · obtain ⟨v, d, size, many, nm, zs, rfl, hd, sz, hn, q⟩ := h
    refine ⟨_, (pss_cons (ps_if (pt_not (PW.pt (pw_and (pt_val (pe_callB call_isi (by rfl) T.isinstance bb_isinstance (pa_cons (pv 0) (pa_cons (pe_bltn (v := .ty "tuple") (by rfl) T.tuple bb_tuple rfl) pa_nil)))) (pw_and1 (pt_cmpR op_eq (pe_callB lenT (by rfl) T.len bb_len (pa_cons (pv 0) pa_nil)) pe_int (nomark _))))))
        (pss_one (ps_ret pe_bl))
        pss_nil)
      (pss_cons (ps_asg (pv 0) (pgT (n := 4) (by rfl) (pgs_cons (pg_name (i := 4) sc_is_row.nd rfl (.inl rfl)) (pgs_cons (pg_name (i := 5) sc_is_row.nd rfl (.inl rfl)) (pgs_cons (pg_name (i := 6) sc_is_row.nd rfl (.inl rfl)) (pgs_cons (pg_name (i := 7) sc_is_row.nd rfl (.inl rfl)) pgs_nil))))))
      (pss_cons (ps_if (pt_not (PW.pt (pw_and (PW.pt (pw_or (pt_cmpR op_isN (pv 4) pe_non (nomark _)) (pw_or1 (pt_val (pe_cO O_is_between (hr.mono (by decide)) pass0 rfl (pa_cons (pv 4) (pa_cons (pe_un un_neg pe_int) (pa_cons pe_int pa_nil)))))))) (pw_and1 (PW.pt (pw_or (pt_cmpR op_isN (pv 5) pe_non (nomark _)) (pw_or1 (pt_val (pe_cO O_is_remainder (hr.mono (by decide)) pass0 rfl (pa_cons (pv 5) (pa_cons (pv 1) pa_nil)))))))))))
        (pss_one (ps_ret pe_bl))
        pss_nil)
      (pss_cons (ps_if (pt_not (PW.pt (pw_and (pt_val (pe_callB call_isi (by rfl) T.isinstance bb_isinstance (pa_cons (pv 6) (pa_cons (pe_bltn (v := .ty "tuple") (by rfl) T.tuple bb_tuple rfl) pa_nil)))) (pw_and1 (pt_cmpR op_eq (pe_callB lenT (by rfl) T.len bb_len (pa_cons (pv 6) pa_nil)) (pv 2) (nomark _))))))
        (pss_one (ps_ret pe_bl))
        pss_nil)
      (pss_cons (ps_if (pt_not (pt_val (pe_callB (allT rfl) (by rfl) T.all bb_all (pa_cons (pe_lc (own := [("update", 8)]) (g := (gName 8)) (tt := tYes) rfl sc_is_row.nd (pi_seq (pv 6)) (blkOk_by (N := N_is_row) (sc := defScope s_is_row) (by decide +kernel)) (fun _ _ _ _ _ => (pg_name (i := 8) sc_is_row.nd rfl (by first | exact Or.inl rfl | exact Or.inr rfl))) (fun _ _ _ _ _ => pts_nil) (fun _ _ _ _ _ => (pe_cO O_is_factors (hr.mono (by decide)) pass0 rfl (pa_cons (pv 8) (pa_cons (pe_op op_add (pv 2) pe_int) pa_nil))))) pa_nil))))
        (pss_one (ps_ret pe_bl))
        pss_nil)
      (pss_one (ps_ret (pe_or (pe_cmpR op_isN (pv 7) pe_non (nomark _)) (pe_one (pe_and (pe_callB call_isi (by rfl) T.isinstance bb_isinstance (pa_cons (pv 7) (pa_cons (pe_bltn (v := .ty "str") (by rfl) T.str bb_str rfl) pa_nil))) (pe_one (pe_cmpR inT (pv 7) (pv 3) (by rfl))))))))))))), ?_⟩
    refine ⟨_, rfl, _, _, _, _, _, rfl, .ty _, hd.ty, hd.kTup, _, rfl, ?_⟩
    unfold rowD at q
    cases e : isTup d with
    | false =>
      rw [e] at q
      rw [show (tyD d == "tuple") = false from e]
      exact iteF (iteP rfl (q _ (Same.refl _)))
    | true =>
      rw [e, Bool.true_and] at q
      rw [show (tyD d == "tuple") = true from e]
      refine iteT ?_
      obtain ⟨a, xs, rfl, dx, ha, _, ed⟩ := hd.tupOf e
      have hl := dx.len
      refine ⟨_, rfl, a, xs, rfl, .inr ha, rfl, _, rfl, ?_⟩
      rw [hl]
      by_cases h4 : (itemsD d).length = 4
      · rw [decide_eq_true h4, Bool.true_and] at q
        refine iteN (by rw [veq (show (((itemsD d).length : Nat) : Int) = 4 by omega)]; decide) ?_
        obtain ⟨x, y, z, u, d0, d1, d2, d3, rfl, eds, h0, h1, h2, h3⟩ := four_dt dx h4
        have e0 : itD d 0 = d0 := by unfold itD; rw [eds]; rfl
        have e1 : itD d 1 = d1 := by unfold itD; rw [eds]; rfl
        have e2 : itD d 2 = d2 := by unfold itD; rw [eds]; rfl
        have e3 : itD d 3 = d3 := by unfold itD; rw [eds]; rfl
        rw [e0, e1, e2, e3] at q
        have z2 : Sz 1 d2 := sz.2.2 d2 (by rw [eds]; simp)
        refine ⟨_, rfl, a, _, rfl, ha, rfl, _, _, rfl, _, _, rfl, _, _, rfl, _, _, rfl, rfl, ?_⟩
        have t1 : ∀ {H' : Hp} {v : V} {d : PyData} {i : Nat} {τ : St}, Dt Z0 H' v d → τ[i]? = some (some v) → PureT (tTest (tOp (fun x y H Q => y = V.non ∧ Q (V.bl (decide (x = V.non))) H) (tVar i) (tC V.non))) τ H' (tyD d == "NoneType") := fun h e Q q =>
          ⟨_, e, rfl, _, rfl, by rw [isN_opt h]; exact q _ (Same.refl _)⟩
        dsimp only
        refine PureT.sqn (x := !(optD d0 (betw d0 (-1) 1) && optD d1 (remD d1 size))) (PureT.no (PureT.and ?c1 fun _ H1 s1 => ?c2)) (fun ff H1 s1 => ?no) (fun tt H1 s1 => ?yes)
        case c1 =>
          refine ((t1 h0 rfl).or fun H1 s1 => ?_).cast optD_of.symm
          exact fun Q q => ⟨_, rfl, _, rfl, x, d0, _, _, rfl, h0.fr (Fm.of s1), _, rfl, q _ (Same.refl _)⟩
        case c2 =>
          refine ((t1 (h1.fr (Fm.of s1)) rfl).or fun H2 s2 => ?_).cast optD_of.symm
          exact fun Q q => ⟨_, rfl, _, rfl, y, d1, _, rfl, (h1.fr (Fm.of s1)).fr (Fm.of s2), _, rfl, q _ (Same.refl _)⟩
        case no =>
          have q := q H1 s1
          rw [no_tt ff, Bool.false_and] at q
          exact q
        case yes =>
          rw [no_ff tt, Bool.true_and] at q
          have g2 := h2.fr (Fm.of s1)
          refine PureT.sqn (x := !(isTup d2 && decide ((itemsD d2).length = many))) (PureT.no (PureT.and (fun Q q => ⟨_, rfl, _, _, _, _, _, rfl, .ty _, g2.ty, g2.kTup, _, rfl, q _ (Same.refl _)⟩) fun it H2 s2 => ?d2)) (fun ff H2 s2 => ?no2) (fun tt H2 s2 => ?yes2)
          case d2 =>
            obtain ⟨a2, xs2, rfl, dx2, ha2, _, _⟩ := (g2.fr (Fm.of s2)).tupOf it
            exact fun Q q => ⟨_, rfl, a2, xs2, rfl, .inr ha2, _, rfl, rfl, _, rfl, by rw [dx2.len, dec_len]; exact q _ (Same.refl _)⟩
          case no2 =>
            have q := q H2 (s1.trans s2)
            unfold upsD at q
            rw [← Bool.and_assoc, no_tt ff, Bool.false_and, Bool.false_and] at q
            exact q
          case yes2 =>
            have both := Bool.and_eq_true_iff.mp (no_ff tt)
            obtain ⟨a2, xs2, rfl, dx2, ha2, _, _⟩ := (g2.fr (Fm.of s2)).tupOf both.1
            have ln : (itemsD d2).length = many := of_decide_eq_true both.2
            unfold upsD at q
            rw [← Bool.and_assoc, no_ff tt, Bool.true_and] at q
            have s12 := s1.trans s2
            refine PureT.sqn (x := !((itemsD d2).all fun x => factD x (many + 2))) (PureT.no ?al) (fun ff H3 s3 => ?no3) (fun tt H3 s3 => ?yes3)
            case al =>
              refine fun Q q => ⟨_, rfl, a2, xs2, .tup xs2, rfl, .inr rfl, ha2, fun J wk D hD => ?_⟩
              refine lc_vals wk Z0 (fun _ => True) ((itemsD d2).map fun d => V.bl (factD d (many + 2))) (by simp [dx2.len]) hD id True.intro (fun _ _ _ _ => True.intro) (by rw [dx2.len]; exact Nat.lt_of_le_of_lt z2.1 (by decide)) (fun H f => f _ _ ha2 id) ?_ ?_
              · intro i x k H4 H5 Qk ek f _ _ y z
                obtain ⟨rfl, ex⟩ := y
                rw [List.getElem?_map] at ek
                obtain ⟨di, e1, rfl⟩ := Option.map_eq_some_iff.mp ek
                obtain ⟨d', e2, dt⟩ := dx2.get ex
                rw [e1] at e2
                cases e2
                exact ⟨rfl, _, rfl, _, rfl, _, _, rfl, rfl, x, di, _, rfl, dt.fr f, (z2.2.2 di (List.mem_of_getElem? e1)).1, fun H6 s6 => z _ (Fm.of s6) True.intro⟩
              · intro H4 f _ hD4
                refine ⟨D, (itemsD d2).map fun x => factD x (many + 2), rfl, by rw [hD4, List.map_map]; rfl, ?_⟩
                refine ⟨_, rfl, ?_⟩
                rw [List.all_map]
                exact q H4 f.same
            case no3 =>
              have q := q H3 (s12.trans s3)
              rw [no_tt ff, Bool.false_and] at q
              exact q
            case yes3 =>
              have q := q H3 (s12.trans s3)
              rw [no_ff tt, Bool.true_and] at q
              have g3 := (h3.fr (Fm.of s12)).fr (Fm.of s3)
              refine ⟨_, rfl, rfl, _, rfl, ?_⟩
              rw [isN_opt g3]
              have hn3 := (s12.trans s3) _ _ hn
              cases g3 with
              | non => exact iteT q
              | str x => exact iteF ⟨_, rfl, _, _, _, _, _, rfl, .ty _, (Dt.str (Z := Z0) (H := H3) x).ty, (Dt.str (Z := Z0) (H := H3) x).kStr, _, rfl, iteT ⟨_, rfl, _, rfl, nm, _, rfl, .inl hn3, rfl, flat_strs zs, q⟩⟩
              | bl b => exact iteF ⟨_, rfl, _, _, _, _, _, rfl, .ty _, (Dt.bl (Z := Z0) (H := H3) b).ty, (Dt.bl (Z := Z0) (H := H3) b).kStr, _, rfl, iteF q⟩
              | int b => exact iteF ⟨_, rfl, _, _, _, _, _, rfl, .ty _, (Dt.int (Z := Z0) (H := H3) b).ty, (Dt.int (Z := Z0) (H := H3) b).kStr, _, rfl, iteF q⟩
              | lst e n t => exact iteF ⟨_, rfl, _, _, _, _, _, rfl, .ty _, (Dt.lst e n t).ty, (Dt.lst e n t).kStr, _, rfl, iteF q⟩
              | tup e n t => exact iteF ⟨_, rfl, _, _, _, _, _, rfl, .ty _, (Dt.tup e n t).ty, (Dt.tup e n t).kStr, _, rfl, iteF q⟩
      · rw [decide_eq_false h4, Bool.false_and] at q
        refine iteP ?_ (q _ (Same.refl _))
        rw [Bool.eq_false_iff.mpr (vne (show (((itemsD d).length : Nat) : Int) ≠ 4 by omega))]
        rfl
end
/-! ### the first part that does not fit -/
section
variable {P : Program} {w : World} {K : PySem.W.Frag} {mg : Str → Option Value} {base : Heap} {aR : Addr}
def nmOf (d : PyData) : Str := match d with | .tuple (.str s :: _) => s | _ => ""
def wrongAt (part : PyData → Bool) : List PyData → List Str → Nat → Option Nat
  | [], _, _ => none
  | d :: ds, ns, i => if (!part d || inV (.str (nmOf d)) (ns.map V.str)) = true then some i else wrongAt part ds (ns ++ [nmOf d]) (i + 1)
def atV : Option Nat → V
  | none => .non
  | some i => .int (i : Nat)
def spPart (part : PyData → Bool) : Sp := fun vs H Q _ => ∃ v d, vs = [v] ∧ Dt Z0 H v d ∧ Sz 1 d ∧ ∀ H', Same H H' → Q (.bl (part d)) H'
def spFirstD (f0 : Addr) (part : PyData → Bool) : Sp := fun vs H Q _ => ∃ v d, vs = [v, .ref f0] ∧ Dt Z0 H v d ∧ isSeq d = true ∧ (itemsD d).length ≤ 1000 ∧ (∀ x ∈ itemsD d, Sz 1 x) ∧ ∀ H', Same H H' → Q (atV (wrongAt part (itemsD d) [] 0)) H'
abbrev s_first_wrong : Stmt := top 27
abbrev N_first_wrong : List Str := ["parts", "is_part", "names", "at", "part"]
theorem sc_first_wrong : FnScope N_first_wrong ["parts", "is_part"] (defScope s_first_wrong) := ⟨rfl, rfl, rfl, by decide +kernel, rfl, by decide +kernel, by decide +kernel⟩
theorem ok_first_wrong {f0 : Addr} {fd0 : FuncData} {part : PyData → Bool} (h : Has K mg "first_wrong" s_first_wrong ["parts", "is_part"]) (PT : PTx K mg aR) (F0 : FnOk P w K mg base CX0 4 f0 fd0 ["value"] (spPart part)) (k0 : PySem.W.keepIn K (.ref f0) = true) (b0 : Binds K fd0 ["value"] [])
    (named : ∀ d, part d = true → ∃ s rest, d = .tuple (.str s :: rest)) : Ok P w K mg base 5 "first_wrong" ["parts", "is_part"] (spFirstD f0 part) := by
  obtain ⟨f, fd, g, b, F⟩ := h
  have T := PT.T
  refine ⟨f, fd, g, F.kp, b, F.ok sc_first_wrong (fun vs H Q E h => ?_) (fun cdv A outer s H vs Q E hr h => ?_)⟩
  · obtain ⟨v, d, rfl, _⟩ := h
    rfl
  · obtain ⟨v, d, rfl, hd, sq, few, sz, q⟩ := h
    obtain ⟨l, xs, rfl, dx, ha, _⟩ := hd.seq sq
    have hl := dx.len
    refine ⟨_, (pss_cons (ps_set (i := 2) sc_first_wrong.nd rfl (.inl rfl) (pe_lst pa_nil))
      (pss_cons (ps_for PassesOwn.never rfl (pi_enumS (by rfl) T.enumerate (pa_cons (pv 0) pa_nil)) (pgT (n := 2) (by rfl) (pgs_cons (pg_name (i := 3) sc_first_wrong.nd rfl (.inl rfl)) (pgs_cons (pg_name (i := 4) sc_first_wrong.nd rfl (.inl rfl)) pgs_nil)))
        (pss_cons (ps_if (PW.pt (pw_or (pt_not (pt_val (pe_callL (i := 1) (E := E0) F0 (hr.mono (by decide)) rfl (.inl rfl) k0 b0 .nil pass0 (pa_cons (pv 4) pa_nil)))) (pw_or1 (pt_cmpR inT (pe_ix ixt (pv 4) pe_int (fun _ _ => rfl)) (pv 2) (by rfl)))))
          (pss_one (ps_ret (pv 3)))
          pss_nil)
        (pss_one (ps_expr (pe_bm PySem.F.plainAttrs_list PySem.F.slot_list_append PySem.F.type_list_append mt_append (pv 2) (pa_cons (pe_ix ixt (pv 4) pe_int (fun _ _ => rfl)) pa_nil))))))
      (pss_one (ps_ret pe_non)))), ?_⟩
    refine ⟨by show 0 ≤ sizeLine; decide, fun D hD => ?_⟩
    obtain ⟨o, ho, at_l⟩ : ∃ o, (o = .lst xs ∨ o = .tup xs) ∧ H l = some o := ha.elim (fun h => ⟨_, .inl rfl, h⟩) fun h => ⟨_, .inr rfl, h⟩
    refine ⟨_, rfl, l, xs, o, rfl, ho, (Same.new hD) _ _ at_l, fun J wk => for_it wk (fun i σ H' => Same H H' ∧ ∃ ns : List Str, ns.length = i ∧ H' D = some (.lst (ns.map V.str)) ∧ wrongAt part (itemsD d) [] 0 = wrongAt part ((itemsD d).drop i) ns i ∧ ∃ v3 v4 : Option V, σ = [some (.ref l), some (.ref f0), some (.ref D), v3, v4])
      ⟨Same.new hD, [], rfl, upd_same, rfl, none, none, rfl⟩ (fun i σ H' _ z => z.1 _ _ at_l) ?_ ?_⟩
    · rintro i x σ H1 H2 hi ⟨s1, ns, ln, h1, ew, v3, v4, rfl⟩ ⟨T', x', y', rfl, hT, rfl, e1, e2⟩
      have e2 : xs[i]? = some y' := e2
      have e1 : some (V.int (i : Nat)) = some x' := e1
      obtain rfl := Option.some.inj e1
      obtain ⟨di, ei, dt⟩ := dx.get e2
      have s2 : Same H1 (upd H1 T' (.tup [.int (i : Nat), y'])) := Same.new hT
      have d2 : (upd H1 T' (.tup [.int (i : Nat), y'])) T' = some (.tup [.int (i : Nat), y']) := upd_same
      generalize upd H1 T' (.tup [.int (i : Nat), y']) = H2 at s2 d2 ⊢
      refine ⟨T', _, rfl, d2, rfl, _, _, rfl, _, _, rfl, rfl, ?_⟩
      have s12 := s1.trans s2
      have dt2 := dt.fr (Fm.of s12)
      have more : (itemsD d).drop i = di :: (itemsD d).drop (i + 1) := by
        obtain ⟨lt, e⟩ := List.getElem?_eq_some_iff.mp ei
        rw [List.drop_eq_getElem_cons lt, e]
      rw [more] at ew
      have z1 := sz di (List.mem_of_getElem? ei)
      dsimp only
      refine PureT.sqn (x := !part di || inV (.str (nmOf di)) (ns.map V.str)) (PureT.orc (PureT.no ?call) ?isin) (fun tt H3 s3 => ?ret) (fun ff H3 s3 => ?go)
      case call =>
        exact fun Q q => ⟨rfl, _, rfl, y', di, rfl, dt2, z1, fun H3 s3 => ⟨_, rfl, q _ s3⟩⟩
      case isin =>
        intro ok H3 s3
        obtain ⟨s, rest, rfl⟩ := named di (no_ff ok)
        obtain ⟨a2, xs2, rfl, dx2, ha2, _, _⟩ := (dt2.fr (Fm.of s3)).tupOf rfl
        cases dx2 with
        | cons q1 q2 =>
          cases q1
          exact fun Q q => ⟨_, rfl, a2, _, 0, _, rfl, rfl, ha2, atI0, _, rfl, D, _, rfl, .inl (s3 _ _ (s2 _ _ h1)), rfl, flat_strs ns, _, rfl, q _ (Same.refl _)⟩
      case ret =>
        have q := q H3 (s12.trans s3)
        rw [ew, wrongAt, if_pos tt] at q
        exact ⟨_, rfl, q⟩
      case go =>
        obtain ⟨s, rest, rfl⟩ := named di (no_ff (Bool.or_eq_false_iff.mp ff).1)
        obtain ⟨a2, xs2, rfl, dx2, ha2, _, _⟩ := (dt2.fr (Fm.of s3)).tupOf rfl
        have h3 := s3 _ _ (s2 _ _ h1)
        cases dx2 with
        | cons q1 q2 =>
          cases q1
          refine ⟨_, rfl, .inl ⟨rfl, _, SqL.of h3⟩, _, rfl, a2, _, 0, _, rfl, rfl, ha2, atI0, D, _, _, rfl, rfl, h3, ?_, ?_⟩
          · rw [List.length_map, ln]
            exact Nat.lt_of_lt_of_le (by omega : i < 1000) (by decide)
          · refine ⟨fun b o e => ?_, ns ++ [s], by rw [List.length_append, ln]; rfl, ?_, ?_, _, _, rfl⟩
            · rw [upd_ne (ne_of_none e hD)]
              exact s3 _ _ (s12 _ _ e)
            · rw [upd_same, List.map_append]
              rfl
            · rw [ew, wrongAt, if_neg (by rw [ff]; decide)]
              rfl
    · rintro σ H1 ⟨s1, ns, ln, h1, ew, v3, v4, rfl⟩
      have q := q H1 s1
      rw [ew, hl, List.drop_of_length_le (Nat.le_refl _)] at q
      exact q
end
/-! ### registers, modes -/
section
variable {P : Program} {w : World} {K : PySem.W.Frag} {mg : Str → Option Value} {base : Heap} {aR CG : Addr}
def EX1 (C : Addr) (f : Str) (v : V) (E : XK) (H : Hp) : Prop := ∀ H' dx, Same H H' → H' dx = none → E (.ref C) (some dx) (upd H' dx (.xd [(f, v)]))
theorem EX1.same {C : Addr} {f : Str} {v : V} {E : XK} {H H1 : Hp} (x : EX1 C f v E H) (s : Same H H1) : EX1 C f v E H1 := fun H' dx s' n => x H' dx (s.trans s') n
theorem EX1.now {C : Addr} {f : Str} {v : V} {E : XK} {H : Hp} (x : EX1 C f v E H) : ∀ dx, H dx = none → E (.ref C) (some dx) (upd H dx (.xd [(f, v)])) := fun dx n => x H dx (Same.refl _) n
def partsD (part : PyData → Bool) (hi : Int) (d : PyData) : Bool := listD d 1 hi && (wrongAt part (itemsD d) [] 0).isNone
def partsN (part : PyData → Bool) (hi : Int) (d : PyData) : V := if listD d 1 hi = true then atV (wrongAt part (itemsD d) [] 0) else .non
def spChkParts (part : PyData → Bool) (hi : Int) (CG : Addr) : Sp := fun vs H Q E => ∃ v d, vs = [v] ∧ Dt Z0 H v d ∧ Sz 2 d ∧ (partsD part hi d = true → ∀ H', Same H H' → Q .non H') ∧ (partsD part hi d = false → EX1 CG "number" (partsN part hi d) E H)
abbrev s_check_registers : Stmt := top 28
abbrev N_check_registers : List Str := ["registers", "wrong"]
theorem sc_check_registers : FnScope N_check_registers ["registers"] (defScope s_check_registers) := ⟨rfl, rfl, rfl, by decide +kernel, rfl, by decide +kernel, by decide +kernel⟩
theorem atV_none {o : Option Nat} : (!decide (atV o = .non)) = !o.isNone := by
  cases o with
  | none => rfl
  | some i => exact congrArg _ (decide_eq_false (fun z => by cases z))
theorem ok_check_registers {f0 : Addr} (h : Has K mg "check_registers" s_check_registers ["registers"]) (g0 : mg "is_register" = some (.ref f0)) (O_is_listing : Ok P w K mg base 1 "is_listing" ["value", "least", "most"] spListD) (O_first_wrong : Ok P w K mg base 5 "first_wrong" ["parts", "is_part"] (spFirstD f0 regD))
    (XG : XRz P w K mg base "InvalidRegisters" CG 1 (sp1n "number" CG)) : OkX P w K mg base 6 "check_registers" ["registers"] (spChkParts regD 3 CG) := by
  obtain ⟨f, fd, g, b, F⟩ := h
  refine ⟨f, fd, g, F.kp, b, F.okX sc_check_registers (fun vs H Q E h => ?_) (fun cdv A outer s H vs Q E hr h => ?_)⟩
  · obtain ⟨v, d, rfl, _⟩ := h
    rfl
  · obtain ⟨v, d, rfl, hd, sz, q, qe⟩ := h
    refine ⟨_, (pss_cons (ps_if (pt_not (pt_val (pe_cO O_is_listing (hr.mono (by decide)) pass0 rfl (pa_cons (pv 0) (pa_cons pe_int (pa_cons pe_int pa_nil))))))
        (pss_one (ps_raiseN XG (hr.mono (by decide)) rfl (takes_of rfl rfl rfl rfl) rfl (pa_cons pe_non pa_nil)))
        pss_nil)
      (pss_cons (ps_set (i := 1) sc_check_registers.nd rfl (.inl rfl) (pe_cO O_first_wrong (hr.mono (by decide)) pass0 rfl (pa_cons (pv 0) (pa_cons (pe_glob (v := .ref f0) rfl g0 rfl) pa_nil))))
      (pss_one (ps_if (pt_cmpR op_notN (pv 1) pe_non (nomark _))
        (pss_one (ps_raiseN XG (hr.mono (by decide)) rfl (takes_of rfl rfl rfl rfl) rfl (pa_cons (pv 1) pa_nil)))
        pss_nil)))), ?_⟩
    refine PureT.sqn (x := !listD d 1 3) (PureT.no fun Q q => ⟨_, rfl, v, d, _, _, rfl, hd, fun H1 s1 => ⟨_, rfl, q _ s1⟩⟩) (fun tt H1 s1 => ?_) (fun ff H1 s1 => ?_)
    · have no := no_tt tt
      refine ⟨rfl, by show 1 ≤ 1000; decide, flies1 ?_⟩
      have x := qe (by unfold partsD; rw [no]; rfl)
      unfold partsN at x
      rw [no, if_neg (by decide)] at x
      exact (x.same s1).now
    · have yes := no_ff ff
      have sq : isSeq d = true := (Bool.and_eq_true_iff.mp yes).1
      refine ⟨_, rfl, v, d, rfl, hd.fr (Fm.of s1), sq, sz.1, sz.2.2, fun H2 s2 => ?_⟩
      refine ⟨_, rfl, rfl, _, rfl, ?_⟩
      rw [atV_none]
      have s12 := s1.trans s2
      cases e : (wrongAt regD (itemsD d) [] 0).isNone with
      | true => exact iteN (by decide) (q (by unfold partsD; rw [yes, e]; rfl) _ s12)
      | false =>
        refine iteP rfl ⟨_, rfl, rfl, by show 1 ≤ 1000; decide, flies1 ?_⟩
        have x := qe (by unfold partsD; rw [yes, e]; rfl)
        unfold partsN at x
        rw [if_pos yes] at x
        exact (x.same s12).now
abbrev s_check_modes : Stmt := top 29
abbrev N_check_modes : List Str := ["modes", "wrong"]
theorem sc_check_modes : FnScope N_check_modes ["modes"] (defScope s_check_modes) := ⟨rfl, rfl, rfl, by decide +kernel, rfl, by decide +kernel, by decide +kernel⟩
theorem ok_check_modes {f0 : Addr} (h : Has K mg "check_modes" s_check_modes ["modes"]) (g0 : mg "is_mode" = some (.ref f0)) (O_is_listing : Ok P w K mg base 1 "is_listing" ["value", "least", "most"] spListD) (O_first_wrong : Ok P w K mg base 5 "first_wrong" ["parts", "is_part"] (spFirstD f0 modeD))
    (XG : XRz P w K mg base "InvalidModes" CG 1 (sp1n "number" CG)) : OkX P w K mg base 6 "check_modes" ["modes"] (spChkParts modeD 4 CG) := by
  obtain ⟨f, fd, g, b, F⟩ := h
  refine ⟨f, fd, g, F.kp, b, F.okX sc_check_modes (fun vs H Q E h => ?_) (fun cdv A outer s H vs Q E hr h => ?_)⟩
  · obtain ⟨v, d, rfl, _⟩ := h
    rfl
  · obtain ⟨v, d, rfl, hd, sz, q, qe⟩ := h
    refine ⟨_, (pss_cons (ps_if (pt_not (pt_val (pe_cO O_is_listing (hr.mono (by decide)) pass0 rfl (pa_cons (pv 0) (pa_cons pe_int (pa_cons pe_int pa_nil))))))
        (pss_one (ps_raiseN XG (hr.mono (by decide)) rfl (takes_of rfl rfl rfl rfl) rfl (pa_cons pe_non pa_nil)))
        pss_nil)
      (pss_cons (ps_set (i := 1) sc_check_modes.nd rfl (.inl rfl) (pe_cO O_first_wrong (hr.mono (by decide)) pass0 rfl (pa_cons (pv 0) (pa_cons (pe_glob (v := .ref f0) rfl g0 rfl) pa_nil))))
      (pss_one (ps_if (pt_cmpR op_notN (pv 1) pe_non (nomark _))
        (pss_one (ps_raiseN XG (hr.mono (by decide)) rfl (takes_of rfl rfl rfl rfl) rfl (pa_cons (pv 1) pa_nil)))
        pss_nil)))), ?_⟩
    refine PureT.sqn (x := !listD d 1 4) (PureT.no fun Q q => ⟨_, rfl, v, d, _, _, rfl, hd, fun H1 s1 => ⟨_, rfl, q _ s1⟩⟩) (fun tt H1 s1 => ?_) (fun ff H1 s1 => ?_)
    · have no := no_tt tt
      refine ⟨rfl, by show 1 ≤ 1000; decide, flies1 ?_⟩
      have x := qe (by unfold partsD; rw [no]; rfl)
      unfold partsN at x
      rw [no, if_neg (by decide)] at x
      exact (x.same s1).now
    · have yes := no_ff ff
      have sq : isSeq d = true := (Bool.and_eq_true_iff.mp yes).1
      refine ⟨_, rfl, v, d, rfl, hd.fr (Fm.of s1), sq, sz.1, sz.2.2, fun H2 s2 => ?_⟩
      refine ⟨_, rfl, rfl, _, rfl, ?_⟩
      rw [atV_none]
      have s12 := s1.trans s2
      cases e : (wrongAt modeD (itemsD d) [] 0).isNone with
      | true => exact iteN (by decide) (q (by unfold partsD; rw [yes, e]; rfl) _ s12)
      | false =>
        refine iteP rfl ⟨_, rfl, rfl, by show 1 ≤ 1000; decide, flies1 ?_⟩
        have x := qe (by unfold partsD; rw [yes, e]; rfl)
        unfold partsN at x
        rw [if_pos yes] at x
        exact (x.same s12).now
end
/-! ### rows -/
section
variable {P : Program} {w : World} {K : PySem.W.Frag} {mg : Str → Option Value} {base : Heap} {aR CI : Addr}
def EX2 (C : Addr) (f : Str) (v : V) (g : Str) (u : V) (E : XK) (H : Hp) : Prop := ∀ H' dx, Same H H' → H' dx = none → E (.ref C) (some dx) (upd H' dx (.xd [(g, u), (f, v)]))
theorem EX2.same {C : Addr} {f g : Str} {v u : V} {E : XK} {H H1 : Hp} (x : EX2 C f v g u E H) (s : Same H H1) : EX2 C f v g u E H1 := fun H' dx s' n => x H' dx (s.trans s') n
theorem EX2.now {C : Addr} {f g : Str} {v u : V} {E : XK} {H : Hp} (x : EX2 C f v g u E H) : ∀ dx, H dx = none → E (.ref C) (some dx) (upd H dx (.xd [(g, u), (f, v)])) := fun dx n => x H dx (Same.refl _) n
def keyD (d : PyData) : PyData := .tuple [itD d 0, itD d 1]
def keyIn (k : PyData) (ks : List PyData) : Bool := ks.any fun z => PyData.eqv z k
def wrongRow (size : Int) (many : Nat) (zs : List Str) : List PyData → List PyData → Nat → Option Nat
  | [], ks, i => if keyIn (.tuple [.none, .none]) ks = true then none else some i
  | d :: ds, ks, i => if (!rowD d size many zs || keyIn (keyD d) ks) = true then some i else wrongRow size many zs ds (ks ++ [keyD d]) (i + 1)
/-- a key's part -/
def NI (d : PyData) : Prop := d = .none ∨ ∃ i, d = .int i
theorem optD_NI {d : PyData} {lo hi : Int} (h : optD d (betw d lo hi) = true) : NI d := by
  cases d <;> first | exact .inl rfl | exact .inr ⟨_, rfl⟩ | cases h
theorem rowD_NI {d : PyData} {size : Int} {many : Nat} {zs : List Str} (h : rowD d size many zs = true) : isTup d = true ∧ (itemsD d).length = 4 ∧ NI (itD d 0) ∧ NI (itD d 1) := by
  unfold rowD at h
  simp only [Bool.and_eq_true] at h
  obtain ⟨h1, h2, ⟨h3, h4⟩, _⟩ := h
  exact ⟨h1, of_decide_eq_true h2, optD_NI h3, optD_NI h4⟩
theorem NI.dt {d : PyData} (n : NI d) {Z Z' : Addr → Prop} {H H' : Hp} {v : V} (h : Dt Z H v d) : Dt Z' H' v d := by
  rcases n with rfl | ⟨i, rfl⟩
  · cases h
    exact .non
  · cases h
    exact .int i
theorem NI.shp {d : PyData} (n : NI d) : Shp 0 d := by
  rcases n with rfl | ⟨i, rfl⟩
  · exact shp_none
  · exact shp_int
theorem DtAll.snoc {Z : Addr → Prop} {H : Hp} {x : V} {e : PyData} (h : Dt Z H x e) : ∀ {xs : List V} {ds : List PyData}, DtAll Z H xs ds → DtAll Z H (xs ++ [x]) (ds ++ [e])
  | [], _, .nil => .cons h .nil
  | _ :: _, _, .cons a t => .cons a (DtAll.snoc h t)
def spChkRows (CI : Addr) : Sp := fun vs H Q E => ∃ md v d size many nm zs, vs = [md, v, .int size, .int ((many : Nat) : Int), .ref nm] ∧ Dt Z0 H v d ∧ isSeq d = true ∧ (itemsD d).length ≤ 1000 ∧ (∀ x ∈ itemsD d, Sz 2 x) ∧ H nm = some (.lst (zs.map V.str)) ∧
  (wrongRow size many zs (itemsD d) [] 0 = none → ∀ H', Same H H' → Q .non H') ∧ ∀ i, wrongRow size many zs (itemsD d) [] 0 = some i → EX2 CI "mode" md "number" (.int (i : Nat)) E H
abbrev s_check_rows : Stmt := top 30
abbrev N_check_rows : List Str := ["mode", "rows", "size", "many", "names", "keys", "at", "row"]
theorem sc_check_rows : FnScope N_check_rows ["mode", "rows", "size", "many", "names"] (defScope s_check_rows) := ⟨rfl, rfl, rfl, by decide +kernel, rfl, by decide +kernel, by decide +kernel⟩
theorem ok_check_rows (h : Has K mg "check_rows" s_check_rows ["mode", "rows", "size", "many", "names"]) (PT : PTx K mg aR) (O_is_row : Ok P w K mg base 4 "is_row" ["value", "size", "many", "names"] spRowD) (XI : XRz P w K mg base "InvalidRow" CI 2 (sp2n "mode" "number" CI)) :
    OkX P w K mg base 5 "check_rows" ["mode", "rows", "size", "many", "names"] (spChkRows CI) := by
  obtain ⟨f, fd, g, b, F⟩ := h
  have T := PT.T
  refine ⟨f, fd, g, F.kp, b, F.okX sc_check_rows (fun vs H Q E h => ?_) (fun cdv A outer s H vs Q E hr h => ?_)⟩
  · obtain ⟨md, v, d, size, many, nm, zs, rfl, _⟩ := h
    rfl
  · obtain ⟨md, v, d, size, many, nm, zs, rfl, hd, sq, few, sz, hn, q, qe⟩ := h
    obtain ⟨l, xs, rfl, dx, ha, _⟩ := hd.seq sq
    have hl := dx.len
    have hu : (cxOf (L2.CX P w) P w K mg base N_check_rows "check_rows" (defScope s_check_rows) f cdv A outer s H E).A.units + 65 < cLine := by
      have h1 := (hr.mono (show 1 ≤ 4 by decide)).in1.units
      exact Nat.lt_of_le_of_lt (Nat.le_of_eq (Nat.add_assoc _ 1 64).symm) h1
    refine ⟨_, (pss_cons (ps_set (i := 5) sc_check_rows.nd rfl (.inl rfl) (pe_lst pa_nil))
      (pss_cons (ps_for (passes_of rfl) rfl (pi_enumS (by rfl) T.enumerate (pa_cons (pv 1) pa_nil)) (pgT (n := 2) (by rfl) (pgs_cons (pg_name (i := 6) sc_check_rows.nd rfl (.inl rfl)) (pgs_cons (pg_name (i := 7) sc_check_rows.nd rfl (.inl rfl)) pgs_nil)))
        (pss_cons (ps_if (PW.pt (pw_or (pt_not (pt_val (pe_cO O_is_row (hr.mono (by decide)) pass0 rfl (pa_cons (pv 7) (pa_cons (pv 2) (pa_cons (pv 3) (pa_cons (pv 4) pa_nil))))))) (pw_or1 (pt_cmpR (op_inD hu) (pe_slice slt (pv 7) po_none (po_some pe_int)) (pv 5) (by rfl)))))
          (pss_one (ps_raiseN XI (hr.mono (by decide)) rfl (takes_of rfl rfl rfl rfl) rfl (pa_cons (pv 0) (pa_cons (pv 6) pa_nil))))
          pss_nil)
        (pss_one (ps_expr (pe_bm PySem.F.plainAttrs_list PySem.F.slot_list_append PySem.F.type_list_append mt_append (pv 5) (pa_cons (pe_slice slt (pv 7) po_none (po_some pe_int)) pa_nil))))))
      (pss_one (ps_if (pt_cmpR (op_notInD hu) (pe_tup (pa_cons pe_non (pa_cons pe_non pa_nil))) (pv 5) (by rfl))
        (pss_one (ps_raiseN XI (hr.mono (by decide)) rfl (takes_of rfl rfl rfl rfl) rfl (pa_cons (pv 0) (pa_cons (pe_callB lenT (by rfl) T.len bb_len (pa_cons (pv 1) pa_nil)) pa_nil))))
        pss_nil)))), ?_⟩
    refine ⟨by show 0 ≤ sizeLine; decide, fun D hD => ?_⟩
    obtain ⟨o, ho, at_l⟩ : ∃ o, (o = .lst xs ∨ o = .tup xs) ∧ H l = some o := ha.elim (fun h => ⟨_, .inl rfl, h⟩) fun h => ⟨_, .inr rfl, h⟩
    refine ⟨_, rfl, l, xs, o, rfl, ho, (Same.new hD) _ _ at_l, fun J wk => for_it wk (fun i σ H' => Same H H' ∧ ∃ (ks : List V) (kd : List PyData), ks.length = i ∧ H' D = some (.lst ks) ∧ DtAll (Zp D) H' ks kd ∧ (∀ k ∈ kd, Shp 1 k) ∧ wrongRow size many zs (itemsD d) [] 0 = wrongRow size many zs ((itemsD d).drop i) kd i ∧ ∃ v6 v7 : Option V, σ = [some md, some (.ref l), some (.int size), some (.int ((many : Nat) : Int)), some (.ref nm), some (.ref D), v6, v7])
      ⟨Same.new hD, [], [], rfl, upd_same, .nil, (fun k hk => by cases hk), rfl, none, none, rfl⟩ (fun i σ H' _ z => z.1 _ _ at_l) ?_ ?_⟩
    · rintro i x σ H1 H2 hi ⟨s1, ks, kd, ln, h1, dk, shp, ew, v6, v7, rfl⟩ ⟨T', x', y', rfl, hT, rfl, e1, e2⟩
      have e2 : xs[i]? = some y' := e2
      have e1 : some (V.int (i : Nat)) = some x' := e1
      obtain rfl := Option.some.inj e1
      obtain ⟨di, ei, dt⟩ := dx.get e2
      have s2 : Same H1 (upd H1 T' (.tup [.int (i : Nat), y'])) := Same.new hT
      have d2 : (upd H1 T' (.tup [.int (i : Nat), y'])) T' = some (.tup [.int (i : Nat), y']) := upd_same
      generalize upd H1 T' (.tup [.int (i : Nat), y']) = H2 at s2 d2 ⊢
      refine ⟨T', _, rfl, d2, rfl, _, _, rfl, _, _, rfl, rfl, ?_⟩
      have s12 := s1.trans s2
      have dt2 := dt.fr (Fm.of s12)
      have more : (itemsD d).drop i = di :: (itemsD d).drop (i + 1) := by
        obtain ⟨lt, e⟩ := List.getElem?_eq_some_iff.mp ei
        rw [List.drop_eq_getElem_cons lt, e]
      rw [more] at ew
      have z1 := sz di (List.mem_of_getElem? ei)
      dsimp only
      refine PureT.sqn (x := !rowD di size many zs || keyIn (keyD di) kd) (PureT.orc (PureT.no ?call) ?isin) (fun tt H3 s3 => ?ret) (fun ff H3 s3 => ?go)
      case call =>
        exact fun Q q => ⟨_, rfl, _, rfl, _, rfl, _, rfl, y', di, size, many, nm, zs, rfl, dt2, z1, s12 _ _ hn, fun H3 s3 => ⟨_, rfl, q _ s3⟩⟩
      case isin =>
        intro ok H3 s3
        obtain ⟨tu, l4, n0, n1⟩ := rowD_NI (no_ff ok)
        obtain ⟨a2, xs2, rfl, dx2, ha2, _, _⟩ := (dt2.fr (Fm.of s3)).tupOf tu
        obtain ⟨x0, x1, x2, x3, d0, d1, d2', d3, rfl, eds, h0, h1', h2, h3⟩ := four_dt dx2 l4
        have e0 : itD di 0 = d0 := by unfold itD; rw [eds]; rfl
        have e1 : itD di 1 = d1 := by unfold itD; rw [eds]; rfl
        rw [e0] at n0
        rw [e1] at n1
        have ek : keyD di = .tuple [d0, d1] := by unfold keyD; rw [e0, e1]
        intro Q q
        refine ⟨_, rfl, 2, rfl, a2, _, rfl, ha2, (fun h => absurd (show HT.sIx 4 4 (some 2) = 4 from h.2) (by decide)), fun p hp => ?_⟩
        have s4 : Same H3 (upd H3 p (.tup [x0, x1])) := Same.new hp
        have d4 : (upd H3 p (.tup [x0, x1])) p = some (.tup [x0, x1]) := upd_same
        show tVar 5 _ (upd H3 p (.tup [x0, x1])) _
        generalize upd H3 p (.tup [x0, x1]) = H4 at s4 d4 ⊢
        have s24 := (s2.trans s3).trans s4
        have dk4 : DtAll (Zp D) H4 ks kd := dk.fr (Fm.of s24)
        refine ⟨_, rfl, .tuple [d0, d1], kd, .tup (SqT.of d4) (.cons (n0.dt (Z' := Z0) (H' := H4) h0).dp (.cons (n1.dt (Z' := Z0) (H' := H4) h1').dp .nil)), .lst (SqL.of (s24 _ _ h1)) dk4.dp', (shp_tup (n := 0) ?_).ok, (shp_list shp).ok, _, rfl, ?_⟩
        · intro z hz
          simp only [List.mem_cons, List.not_mem_nil, or_false] at hz
          rcases hz with rfl | rfl
          · exact n0.shp
          · exact n1.shp
        · rw [← ek]
          exact q _ s4
      case ret =>
        have x := qe i (by rw [ew, wrongRow, if_pos tt])
        exact ⟨_, rfl, _, rfl, rfl, by show 2 ≤ 1000; decide, flies2 (x.same (s12.trans s3)).now⟩
      case go =>
        obtain ⟨tu, l4, n0, n1⟩ := rowD_NI (no_ff (Bool.or_eq_false_iff.mp ff).1)
        obtain ⟨a2, xs2, rfl, dx2, ha2, _, _⟩ := (dt2.fr (Fm.of s3)).tupOf tu
        obtain ⟨x0, x1, x2, x3, d0, d1, d2', d3, rfl, eds, h0, h1', h2, h3⟩ := four_dt dx2 l4
        have e0 : itD di 0 = d0 := by unfold itD; rw [eds]; rfl
        have e1 : itD di 1 = d1 := by unfold itD; rw [eds]; rfl
        rw [e0] at n0
        rw [e1] at n1
        have ek : keyD di = .tuple [d0, d1] := by unfold keyD; rw [e0, e1]
        have hD3 := s3 _ _ (s2 _ _ h1)
        refine ⟨_, rfl, .inl ⟨rfl, _, SqL.of hD3⟩, _, rfl, 2, rfl, a2, _, rfl, ha2, (fun h => absurd (show HT.sIx 4 4 (some 2) = 4 from h.2) (by decide)), fun p hp => ?_⟩
        have s4 : Same H3 (upd H3 p (.tup [x0, x1])) := Same.new hp
        have d4 : (upd H3 p (.tup [x0, x1])) p = some (.tup [x0, x1]) := upd_same
        have s4 : Same H3 (upd H3 p (.tup (cutV [x0, x1, x2, x3] none (some 2)))) := s4
        have d4 : (upd H3 p (.tup (cutV [x0, x1, x2, x3] none (some 2)))) p = some (.tup [x0, x1]) := d4
        generalize upd H3 p (.tup (cutV [x0, x1, x2, x3] none (some 2))) = H4 at s4 d4 ⊢
        have s24 := (s2.trans s3).trans s4
        have hD4 := s24 _ _ h1
        have pD : p ≠ D := (ne_of_none hD3 hp).symm
        refine ⟨D, _, _, rfl, rfl, hD4, by rw [ln]; exact Nat.lt_of_lt_of_le (by omega : i < 1000) (by decide), ?_⟩
        have fr : Fm (Zp D) H4 (upd H4 D (.lst (ks ++ [.ref p]))) := fun b o e nb => by rw [upd_ne nb]; exact e
        refine ⟨fun b o e => ?_, ks ++ [.ref p], kd ++ [keyD di], by rw [List.length_append, ln]; rfl, upd_same, ?_, ?_, ?_, _, _, rfl⟩
        · rw [upd_ne (ne_of_none e hD)]
          exact s24 _ _ (s1 _ _ e)
        · rw [ek]
          exact DtAll.snoc (.tup (fr _ _ d4 pD) pD (.cons (n0.dt h0) (.cons (n1.dt h1') .nil))) ((dk.fr (Fm.of s24)).fr fr)
        · intro k hk
          rcases List.mem_append.mp hk with hk | hk
          · exact shp k hk
          · rw [List.mem_singleton.mp hk, ek]
            refine shp_tup (n := 0) fun z hz => ?_
            simp only [List.mem_cons, List.not_mem_nil, or_false] at hz
            rcases hz with rfl | rfl
            · exact n0.shp
            · exact n1.shp
        · rw [ew, wrongRow, if_neg (by rw [ff]; decide)]
    · rintro σ H1 ⟨s1, ks, kd, ln, h1, dk, shp, ew, v6, v7, rfl⟩
      rw [hl, List.drop_of_length_le (Nat.le_refl _), wrongRow] at ew
      refine ⟨by show 2 ≤ sizeLine; decide, fun p hp => ?_⟩
      have s2 : Same H1 (upd H1 p (.tup [.non, .non])) := Same.new hp
      have d2 : (upd H1 p (.tup [.non, .non])) p = some (.tup [.non, .non]) := upd_same
      generalize upd H1 p (.tup [.non, .non]) = H2 at s2 d2 ⊢
      have s12 := s1.trans s2
      refine ⟨_, rfl, .tuple [.none, .none], kd, .tup (SqT.of d2) (.cons .non (.cons .non .nil)), .lst (SqL.of (s2 _ _ h1)) (dk.fr (Fm.of s2)).dp', by decide +kernel, (shp_list shp).ok, _, rfl, ?_⟩
      show if (!keyIn (.tuple [.none, .none]) kd) = true then _ else _
      cases e : keyIn (.tuple [.none, .none]) kd with
      | true =>
        rw [e, if_pos rfl] at ew
        exact iteN (by decide) (q ew _ s12)
      | false =>
        rw [e, if_neg (by decide)] at ew
        have x := qe _ ew
        refine iteP rfl ⟨_, rfl, _, rfl, l, xs, rfl, ha.elim (fun h => .inl (s12 _ _ h)) (fun h => .inr (s12 _ _ h)), rfl, by show 2 ≤ 1000; decide, flies2 ?_⟩
        rw [hl]
        exact (x.same s12).now
end
/-! ### ends -/
section
variable {P : Program} {w : World} {K : PySem.W.Frag} {mg : Str → Option Value} {base : Heap} {aR CE : Addr}
def iOf (d : PyData) : Int := match d with | .int i => i | _ => 0
/-- from the i-th on, each more than the one before -/
def incAt (ds : List PyData) (i : Nat) : Bool := (List.range (ds.length - 1 - i)).all fun j => decide (iOf (ds.getD (i + j) .none) < iOf (ds.getD (i + j + 1) .none))
def endsD (d : PyData) (n : Int) : Bool := isSeq d && ((itemsD d).all (fun x => remD x n) && incAt (itemsD d) 0)
theorem rem_int {d : PyData} {n : Int} (h : remD d n = true) : d = .int (iOf d) := by
  cases d <;> first | rfl | cases h
def spChkEnds (CE : Addr) : Sp := fun vs H Q E => ∃ v d n, vs = [v, .int n] ∧ Dt Z0 H v d ∧ (itemsD d).length ≤ 1000 ∧ (endsD d n = true → ∀ H', Same H H' → Q .non H') ∧ (endsD d n = false → EX1 CE "value" v E H)
theorem ixs {X : Cx} : IxR X (fun x y H Q => rIxl x y H Q ∨ rIxt x y H Q) := ixl.or ixt
theorem ix_any {H : Hp} {a : Addr} {xs : List V} {i : Int} {v : V} {Q : VK} (h : H a = some (.lst xs) ∨ H a = some (.tup xs)) (g : atI xs i = some v) (q : Q v H) : rIxl (.ref a) (.int i) H Q ∨ rIxt (.ref a) (.int i) H Q :=
  h.imp (fun h => ⟨a, xs, _, _, rfl, rfl, h, g, q⟩) fun h => ⟨a, xs, _, _, rfl, rfl, h, g, q⟩
theorem incAt_step {ds : List PyData} {i : Nat} (h : i < ds.length - 1) : incAt ds i = (decide (iOf (ds.getD i .none) < iOf (ds.getD (i + 1) .none)) && incAt ds (i + 1)) := by
  unfold incAt
  rw [show ds.length - 1 - i = (ds.length - 1 - (i + 1)) + 1 by omega, List.range_succ_eq_map, List.all_cons, List.all_map]
  congr 1
  refine congrArg _ (funext fun j => ?_)
  show decide _ = decide _
  rw [show i + (j + 1) = i + 1 + j by omega]
abbrev s_check_ends : Stmt := top 31
abbrev N_check_ends : List Str := ["ends", "size", "end", "at"]
theorem sc_check_ends : FnScope N_check_ends ["ends", "size"] (defScope s_check_ends) := ⟨rfl, rfl, rfl, by decide +kernel, rfl, by decide +kernel, by decide +kernel⟩
theorem ok_check_ends (h : Has K mg "check_ends" s_check_ends ["ends", "size"]) (PT : PTx K mg aR) (O_is_remainder : Ok P w K mg base 3 "is_remainder" ["value", "size"] spRemD) (XE : XRz P w K mg base "InvalidEnds" CE 1 (sp1n "value" CE)) :
    OkX P w K mg base 4 "check_ends" ["ends", "size"] (spChkEnds CE) := by
  obtain ⟨f, fd, g, b, F⟩ := h
  have T := PT.T
  refine ⟨f, fd, g, F.kp, b, F.okX sc_check_ends (fun vs H Q E h => ?_) (fun cdv A outer s H vs Q E hr h => ?_)⟩
  · obtain ⟨v, d, n, rfl, _⟩ := h
    rfl
  · obtain ⟨v, d, n, rfl, hd, few, q, qe⟩ := h
    refine ⟨_, (pss_cons (ps_if (PW.pt (pw_or (pt_not (pt_val (pe_callB call_isiT (by rfl) T.isinstance bb_isinstance (pa_cons (pv 0) (pa_cons (pe_tup (pa_cons (pe_bltn (v := .ty "list") (by rfl) T.list bb_list rfl) (pa_cons (pe_bltn (v := .ty "tuple") (by rfl) T.tuple bb_tuple rfl) pa_nil))) pa_nil))))) (pw_or1 (pt_not (pt_val (pe_callB (allT rfl) (by rfl) T.all bb_all (pa_cons (pe_lc (own := [("end", 2)]) (g := (gName 2)) (tt := tYes) rfl sc_check_ends.nd (pi_seq (pv 0)) (blkOk_by (N := N_check_ends) (sc := defScope s_check_ends) (by decide +kernel)) (fun _ _ _ _ _ => (pg_name (i := 2) sc_check_ends.nd rfl (by first | exact Or.inl rfl | exact Or.inr rfl))) (fun _ _ _ _ _ => pts_nil) (fun _ _ _ _ _ => (pe_cO O_is_remainder (hr.mono (by decide)) pass0 rfl (pa_cons (pv 2) (pa_cons (pv 1) pa_nil))))) pa_nil)))))))
        (pss_one (ps_raiseN XE (hr.mono (by decide)) rfl (takes_of rfl rfl rfl rfl) rfl (pa_cons (pv 0) pa_nil)))
        pss_nil)
      (pss_one (ps_for (passes_of rfl) rfl (pi_range2 (by rfl) T.range (pa_cons pe_int (pa_cons (pe_callB lenT (by rfl) T.len bb_len (pa_cons (pv 0) pa_nil)) pa_nil))) (pg_name (i := 3) sc_check_ends.nd rfl (.inl rfl))
        (pss_one (ps_if (pt_cmpR op_ge (pe_ix ixs (pv 0) (pe_op op_sub (pv 3) pe_int) (fun _ _ => rfl)) (pe_ix ixs (pv 0) (pv 3) (fun _ _ => rfl)) (nomark _))
          (pss_one (ps_raiseN XE (hr.mono (by decide)) rfl (takes_of rfl rfl rfl rfl) rfl (pa_cons (pv 0) pa_nil)))
          pss_nil))))), ?_⟩
    refine PureT.sqn (x := !isSeq d || !(itemsD d).all (fun x => remD x n)) (PureT.orc (PureT.no ?sq) ?al) (fun tt H1 s1 => ?no) (fun ff H1 s1 => ?go)
    case sq =>
      intro Q q
      refine ⟨_, rfl, (by show 2 ≤ sizeLine; decide), fun t ht => ?_⟩
      have s1 : Same H (upd H t (.tup [.ty "list", .ty "tuple"])) := Same.new ht
      have d1 := hd.fr (Fm.of s1)
      exact ⟨_, _, _, _, _, _, rfl, upd_same, pairedLT, d1.ty, d1.kSeq, _, rfl, q _ s1⟩
    case al =>
      intro sq H1 s1
      have d1 := hd.fr (Fm.of s1)
      obtain ⟨a, xs, rfl, dx, ha, _⟩ := d1.seq (no_ff sq)
      have hl := dx.len
      obtain ⟨o, ho, at_a⟩ : ∃ o, (o = .lst xs ∨ o = .tup xs) ∧ H1 a = some o := ha.elim (fun h => ⟨_, .inl rfl, h⟩) fun h => ⟨_, .inr rfl, h⟩
      refine PureT.no fun Q q => ⟨_, rfl, a, xs, o, rfl, ho, at_a, fun J wk D hD => ?_⟩
      refine lc_vals wk Z0 (fun _ => True) ((itemsD d).map fun d => V.bl (remD d n)) (by simp [hl]) hD id True.intro (fun _ _ _ _ => True.intro) (by rw [hl]; exact Nat.lt_of_le_of_lt few (by decide)) (fun H f => f _ _ at_a id) ?_ ?_
      · intro i x k H4 H5 Qk ek f _ _ y z
        obtain ⟨rfl, ex⟩ := y
        rw [List.getElem?_map] at ek
        obtain ⟨di, e1, rfl⟩ := Option.map_eq_some_iff.mp ek
        obtain ⟨d', e2, dt⟩ := dx.get ex
        rw [e1] at e2
        cases e2
        exact ⟨rfl, _, rfl, _, rfl, x, di, n, rfl, dt.fr f, z _ Fm.refl True.intro⟩
      · intro H4 f _ hD4
        refine ⟨D, (itemsD d).map fun x => remD x n, rfl, by rw [hD4, List.map_map]; rfl, ?_⟩
        refine ⟨_, rfl, ?_⟩
        rw [List.all_map]
        exact q H4 f.same
    case no =>
      refine ⟨_, rfl, rfl, by show 1 ≤ 1000; decide, flies1 ?_⟩
      have x := qe (by
        unfold endsD
        rcases Bool.or_eq_true_iff.mp tt with z | z
        · rw [no_tt z]; rfl
        · rw [no_tt z, Bool.false_and, Bool.and_false])
      exact (x.same s1).now
    case go =>
      obtain ⟨z1, z2⟩ := Bool.or_eq_false_iff.mp ff
      have sq := no_ff z1
      have al := no_ff z2
      have ed : endsD d n = incAt (itemsD d) 0 := by unfold endsD; rw [sq, al]; rfl
      rw [ed] at q qe
      have d1 := hd.fr (Fm.of s1)
      obtain ⟨a, xs, rfl, dx, ha, _⟩ := d1.seq sq
      have hl := dx.len
      have at_i : ∀ i, i < (itemsD d).length → xs[i]? = some (.int (iOf ((itemsD d).getD i .none))) := fun i hi => by
        have e : (itemsD d)[i]? = some ((itemsD d).getD i .none) := by rw [List.getD_eq_getElem?_getD, List.getElem?_eq_getElem hi]; rfl
        have r := rem_int (List.all_eq_true.mp al _ (List.mem_of_getElem? e))
        have hx : i < xs.length := by omega
        obtain ⟨d', e2, dt⟩ := dx.get (List.getElem?_eq_getElem hx)
        rw [e] at e2
        cases e2
        rw [r] at dt
        rw [List.getElem?_eq_getElem hx]
        generalize xs[i] = y at dt
        cases dt
        rfl
      refine ⟨_, rfl, a, xs, rfl, ha, 1, _, rfl, ⟨by decide, by decide, by omega, by omega⟩, for_range (n := ((xs.length : Int) - 1).toNat) (fun i σ H' => Same H1 H' ∧ (incAt (itemsD d) 0 = incAt (itemsD d) i) ∧ ∃ v2 v3 : Option V, σ = [some (.ref a), some (.int n), v2, v3]) ⟨Same.refl _, rfl, _, _, rfl⟩ ?_ ?_⟩
      · rintro i σ H2 hi ⟨s2, ei, v2, v3, rfl⟩
        have hi : i < (itemsD d).length - 1 := by omega
        rw [incAt_step hi] at ei
        have ha2 := ha.imp (s2 _ _) (s2 _ _)
        have g0 : atI xs ((1 + (i : Nat) : Int) - 1) = some (.int (iOf ((itemsD d).getD i .none))) := by
          rw [show (1 + (i : Nat) : Int) - 1 = ((i : Nat) : Int) by omega]
          exact atI_nat (at_i i (by omega))
        have g1 : atI xs (1 + (i : Nat) : Int) = some (.int (iOf ((itemsD d).getD (i + 1) .none))) := by
          rw [show (1 + (i : Nat) : Int) = ((i + 1 : Nat) : Int) by omega]
          exact atI_nat (at_i (i + 1) (by omega))
        refine ⟨_, rfl, _, rfl, _, _, rfl, rfl, ix_any ha2 g0 ⟨_, rfl, _, rfl, ix_any ha2 g1 ⟨_, _, rfl, rfl, _, rfl, ?_⟩⟩⟩
        by_cases c : iOf ((itemsD d).getD (i + 1) .none) ≤ iOf ((itemsD d).getD i .none)
        · refine iteP (decide_eq_true c) ⟨_, rfl, rfl, by show 1 ≤ 1000; decide, flies1 ?_⟩
          have x := qe (by rw [ei, decide_eq_false (show ¬ iOf ((itemsD d).getD i .none) < iOf ((itemsD d).getD (i + 1) .none) by omega)]; rfl)
          exact (x.same (s1.trans s2)).now
        · refine iteN (by rw [decide_eq_false c]; decide) ⟨s2, ?_, _, _, rfl⟩
          rw [ei, decide_eq_true (show iOf ((itemsD d).getD i .none) < iOf ((itemsD d).getD (i + 1) .none) by omega), Bool.true_and]
      · rintro σ H2 ⟨s2, ei, v2, v3, rfl⟩
        refine q ?_ _ (s1.trans s2)
        rw [ei]
        unfold incAt
        rw [show (itemsD d).length - 1 - ((xs.length : Int) - 1).toNat = 0 by omega]
        rfl
end
/-! ### the whole of a program's parts -/
section
variable {P : Program} {w : World} {K : PySem.W.Frag} {mg : Str → Option Value} {base : Heap} {aR CB CG CM CI CE CR : Addr}
theorem Sz.less : ∀ {n : Nat} {d : PyData}, Sz (n + 1) d → Sz n d
  | 0, _, h => ⟨h.1, h.2.1⟩
  | _ + 1, _, h => ⟨h.1, h.2.1, fun x hx => Sz.less (h.2.2 x hx)⟩
theorem Sz.mono {n m : Nat} {d : PyData} (h : Sz n d) (l : m ≤ n) : Sz m d := by
  induction n with
  | zero => rw [Nat.le_zero.mp l]; exact h
  | succ n ih =>
    rcases Nat.lt_or_ge m (n + 1) with z | z
    · exact ih h.less (by omega)
    · rw [Nat.le_antisymm l z]; exact h
theorem Sz.item {n : Nat} {d : PyData} (h : Sz (n + 1) d) (i : Nat) : Sz n (itD d i) := by
  unfold itD
  rw [List.getD_eq_getElem?_getD]
  cases e : (itemsD d)[i]? with
  | some x => exact h.2.2 x (List.mem_of_getElem? e)
  | none =>
    have z : ∀ n, Sz n .none := fun n => by
      induction n with
      | zero => exact ⟨by decide, fun s h => by cases h⟩
      | succ n ih => exact ⟨by decide, fun s h => (by cases h), fun x hx => by cases hx⟩
    exact z n
inductive PErr where
  | base | regs (n : V) | modes (n : V) | row (md : V) (i : Nat) | ends | result
def rowsErr (size : Int) (many : Nat) (zs : List Str) : List PyData → Option PErr
  | [] => none
  | d :: ds => match wrongRow size many zs (itemsD (itD d 2)) [] 0 with
    | some i => some (.row (.str (nmOf d)) i)
    | none => rowsErr size many zs ds
def sizeD (d : PyData) : Int := if iOf d < 0 then -iOf d else iOf d
def progErr (d0 d1 d2 d3 d4 : PyData) : Option PErr :=
  if baseD d0 = false then some .base else if partsD regD 3 d1 = false then some (.regs (partsN regD 3 d1)) else if partsD modeD 4 d2 = false then some (.modes (partsN modeD 4 d2)) else
  match rowsErr (sizeD d0) (itemsD d1).length ((itemsD d2).map nmOf) (itemsD d2) with
  | some e => some e
  | none => if endsD d3 (sizeD d0) = false then some .ends else if factD d4 ((itemsD d1).length + 1) = false then some .result else none
/-- what is raised of it -/
def PErr.flies (CB CG CM CI CE CR : Addr) (v0 v3 v4 : V) (E : XK) (H : Hp) : PErr → Prop
  | .base => EX1 CB "value" v0 E H
  | .regs n => EX1 CG "number" n E H
  | .modes n => EX1 CM "number" n E H
  | .row md i => EX2 CI "mode" md "number" (.int (i : Nat)) E H
  | .ends => EX1 CE "value" v3 E H
  | .result => EX1 CR "value" v4 E H
def spChkProg (CB CG CM CI CE CR : Addr) : Sp := fun vs H Q E => ∃ v0 v1 v2 v3 v4 d0 d1 d2 d3 d4, vs = [v0, v1, v2, v3, v4] ∧ Dt Z0 H v0 d0 ∧ Dt Z0 H v1 d1 ∧ Dt Z0 H v2 d2 ∧ Dt Z0 H v3 d3 ∧ Dt Z0 H v4 d4 ∧ Sz 2 d1 ∧ Sz 5 d2 ∧ (itemsD d3).length ≤ 1000 ∧ (itemsD d4).length ≤ 1000 ∧
  (progErr d0 d1 d2 d3 d4 = none → ∀ H', Same H H' → Q .non H') ∧ ∀ e, progErr d0 d1 d2 d3 d4 = some e → PErr.flies CB CG CM CI CE CR v0 v3 v4 E H e
theorem wrongAt_none {part : PyData → Bool} : ∀ {ds : List PyData} {ns : List Str} {i : Nat}, wrongAt part ds ns i = none → ∀ d ∈ ds, part d = true
  | [], _, _, _, _, h => by cases h
  | d :: ds, ns, i, e, x, h => by
    rw [wrongAt] at e
    split at e
    · cases e
    · rename_i c
      have c := Bool.or_eq_false_iff.mp (Bool.eq_false_iff.mpr c)
      rcases List.mem_cons.mp h with rfl | h
      · exact no_ff c.1
      · exact wrongAt_none e x h
theorem partsD_all {part : PyData → Bool} {hi : Int} {d : PyData} (h : partsD part hi d = true) : isSeq d = true ∧ ((itemsD d).length : Int) ≤ hi ∧ ∀ x ∈ itemsD d, part x = true := by
  unfold partsD listD at h
  simp only [Bool.and_eq_true] at h
  obtain ⟨⟨h1, h2, h3⟩, h4⟩ := h
  exact ⟨h1, of_decide_eq_true h3, wrongAt_none (Option.isNone_iff_eq_none.mp h4)⟩
theorem modeD_parts {d : PyData} (h : modeD d = true) : isTup d = true ∧ (itemsD d).length = 3 ∧ (∃ s, itD d 0 = .str s ∧ nmOf d = s) ∧ isSeq (itD d 2) = true := by
  unfold modeD at h
  simp only [Bool.and_eq_true] at h
  obtain ⟨h1, h2, h3, h4, h5⟩ := h
  refine ⟨h1, of_decide_eq_true h2, ?_, h5⟩
  cases d <;> first | cases h1 | skip
  rename_i ds
  have l : ds.length = 3 := of_decide_eq_true h2
  match ds, l with
  | [a, b, c], _ =>
    cases a <;> first | cases h3 | exact ⟨_, rfl, rfl⟩
abbrev s_check_program : Stmt := top 32
abbrev N_check_program : List Str := ["base", "registers", "modes", "ends", "result", "size", "names", "mode", "name", "_", "rows"]
theorem sc_check_program : FnScope N_check_program ["base", "registers", "modes", "ends", "result"] (defScope s_check_program) := ⟨rfl, rfl, rfl, by decide +kernel, rfl, by decide +kernel, by decide +kernel⟩
theorem ok_check_program (h : Has K mg "check_program" s_check_program ["base", "registers", "modes", "ends", "result"]) (PT : PTx K mg aR) (O_is_base : Ok P w K mg base 3 "is_base" ["value"] spBaseD)
    (O_check_registers : OkX P w K mg base 6 "check_registers" ["registers"] (spChkParts regD 3 CG)) (O_check_modes : OkX P w K mg base 6 "check_modes" ["modes"] (spChkParts modeD 4 CM)) (O_check_rows : OkX P w K mg base 5 "check_rows" ["mode", "rows", "size", "many", "names"] (spChkRows CI))
    (O_check_ends : OkX P w K mg base 4 "check_ends" ["ends", "size"] (spChkEnds CE)) (O_is_factors : Ok P w K mg base 3 "is_factors" ["value", "many"] spFactD) (XB : XRz P w K mg base "InvalidBase" CB 1 (sp1n "value" CB)) (XR : XRz P w K mg base "InvalidResult" CR 1 (sp1n "value" CR)) :
    OkX P w K mg base 7 "check_program" ["base", "registers", "modes", "ends", "result"] (spChkProg CB CG CM CI CE CR) := by
  obtain ⟨f, fd, g, b, F⟩ := h
  have T := PT.T
  refine ⟨f, fd, g, F.kp, b, F.okX sc_check_program (fun vs H Q E h => ?_) (fun cdv A outer s H vs Q E hr h => ?_)⟩
  · obtain ⟨v0, v1, v2, v3, v4, d0, d1, d2, d3, d4, rfl, _⟩ := h
    rfl
  · obtain ⟨v0, v1, v2, v3, v4, d0, d1, d2, d3, d4, rfl, h0, h1, h2, h3, h4, z1, z2, z3, z4, q, qe⟩ := h
    have pE : Passes (L2.CX P w) (cxOf (L2.CX P w) P w K mg base N_check_program "check_program" (defScope s_check_program) f cdv A outer s H E) E := passes_call (takes_of rfl rfl rfl rfl) (fun _ _ _ _ z => z)
    refine ⟨_, (pss_cons (ps_if (pt_not (pt_val (pe_cO O_is_base (hr.mono (by decide)) pass0 rfl (pa_cons (pv 0) pa_nil))))
        (pss_one (ps_raiseN XB (hr.mono (by decide)) rfl (takes_of rfl rfl rfl rfl) rfl (pa_cons (pv 0) pa_nil)))
        pss_nil)
      (pss_cons (ps_set (i := 5) sc_check_program.nd rfl (.inl rfl) (pe_callB call_abs (by rfl) T.abs bb_abs (pa_cons (pv 0) pa_nil)))
      (pss_cons (ps_expr (pe_cX O_check_registers (hr.mono (by decide)) pE rfl (pa_cons (pv 1) pa_nil)))
      (pss_cons (ps_expr (pe_cX O_check_modes (hr.mono (by decide)) pE rfl (pa_cons (pv 2) pa_nil)))
      (pss_cons (ps_setLc (i := 6) (own := [("mode", 7)]) (g := (gName 7)) (tt := tYes) rfl sc_check_program.nd rfl rfl (sw_true rfl rfl rfl (by decide +kernel)) (pi_seq (pv 2)) (blkOk_by (N := N_check_program) (sc := defScope s_check_program) (by decide +kernel)) (fun _ _ _ _ _ => (pg_name (i := 7) sc_check_program.nd rfl (by first | exact Or.inl rfl | exact Or.inr rfl))) (fun _ _ _ _ _ => pts_nil) (fun _ _ _ _ _ => (pe_ix ixt (pv 7) pe_int (fun _ _ => rfl))))
      (pss_cons (ps_for (passes_of rfl) rfl (pi_seq (pv 2)) (pgT (n := 3) (by rfl) (pgs_cons (pg_name (i := 8) sc_check_program.nd rfl (.inl rfl)) (pgs_cons (pg_name (i := 9) sc_check_program.nd rfl (.inl rfl)) (pgs_cons (pg_name (i := 10) sc_check_program.nd rfl (.inl rfl)) pgs_nil))))
        (pss_one (ps_expr (pe_cX O_check_rows (hr.mono (by decide)) pE rfl (pa_cons (pv 8) (pa_cons (pv 10) (pa_cons (pv 5) (pa_cons (pe_callB lenT (by rfl) T.len bb_len (pa_cons (pv 1) pa_nil)) (pa_cons (pv 6) pa_nil)))))))))
      (pss_cons (ps_expr (pe_cX O_check_ends (hr.mono (by decide)) pE rfl (pa_cons (pv 3) (pa_cons (pv 5) pa_nil))))
      (pss_one (ps_if (pt_not (pt_val (pe_cO O_is_factors (hr.mono (by decide)) pass0 rfl (pa_cons (pv 4) (pa_cons (pe_op op_add (pe_callB lenT (by rfl) T.len bb_len (pa_cons (pv 1) pa_nil)) pe_int) pa_nil)))))
        (pss_one (ps_raiseN XR (hr.mono (by decide)) rfl (takes_of rfl rfl rfl rfl) rfl (pa_cons (pv 4) pa_nil)))
        pss_nil))))))))), ?_⟩
    unfold progErr at q qe
    refine PureT.sqn (x := !baseD d0) (PureT.no fun Q q => ⟨_, rfl, v0, d0, rfl, h0, _, rfl, q _ (Same.refl _)⟩) (fun tt H1 s1 => ?_) (fun ff H1 s1 => ?_)
    · have x := qe .base (by rw [if_pos (no_tt tt)])
      exact ⟨_, rfl, rfl, by show 1 ≤ 1000; decide, flies1 (EX1.same x s1).now⟩
    · have bs := no_ff ff
      rw [if_neg (by rw [bs]; decide)] at q qe
      obtain ⟨bi, rfl⟩ : ∃ bi, d0 = .int bi := by
        cases d0 <;> first | exact ⟨_, rfl⟩ | cases bs
      cases h0
      refine ⟨_, rfl, bi, rfl, ?_⟩
      cases e1 : partsD regD 3 d1 with
      | false =>
        have x := qe (.regs (partsN regD 3 d1)) (by rw [if_pos e1])
        exact ⟨_, rfl, v1, d1, rfl, h1.fr (Fm.of s1), z1, (fun h => by rw [e1] at h; cases h), fun _ => EX1.same x s1⟩
      | true =>
      rw [if_neg (by rw [e1]; decide)] at q qe
      refine ⟨_, rfl, v1, d1, rfl, h1.fr (Fm.of s1), z1, (fun _ H2 s2 => ?_), fun h => by rw [e1] at h; cases h⟩
      have s12 := s1.trans s2
      cases e2 : partsD modeD 4 d2 with
      | false =>
        have x := qe (.modes (partsN modeD 4 d2)) (by rw [if_pos e2])
        exact ⟨_, rfl, v2, d2, rfl, h2.fr (Fm.of s12), z2.mono (by decide), (fun h => by rw [e2] at h; cases h), fun _ => EX1.same x s12⟩
      | true =>
      rw [if_neg (by rw [e2]; decide)] at q qe
      refine ⟨_, rfl, v2, d2, rfl, h2.fr (Fm.of s12), z2.mono (by decide), (fun _ H3 s3 => ?_), fun h => by rw [e2] at h; cases h⟩
      have s13 := s12.trans s3
      obtain ⟨sq2, m4, all2⟩ := partsD_all e2
      obtain ⟨sq1, _, _⟩ := partsD_all e1
      obtain ⟨l2, xs2, rfl, dx2, ha2, _⟩ := (h2.fr (Fm.of s13)).seq sq2
      have hl2 := dx2.len
      obtain ⟨o2, ho2, at2⟩ : ∃ o, (o = .lst xs2 ∨ o = .tup xs2) ∧ H3 l2 = some o := ha2.elim (fun h => ⟨_, .inl rfl, h⟩) fun h => ⟨_, .inr rfl, h⟩
      refine ⟨_, rfl, l2, xs2, o2, rfl, ho2, at2, fun J wk D hD => ?_⟩
      refine lc_vals wk Z0 (fun _ => True) (((itemsD d2).map nmOf).map V.str) (by simp [hl2]) hD id True.intro (fun _ _ _ _ => True.intro) (by rw [hl2]; exact Nat.lt_of_le_of_lt z2.1 (by decide)) (fun H f => f _ _ at2 id) ?_ ?_
      · intro i x k H4 H5 Qk ek f _ _ y z
        obtain ⟨rfl, ex⟩ := y
        rw [List.map_map, List.getElem?_map] at ek
        obtain ⟨di, e3, rfl⟩ := Option.map_eq_some_iff.mp ek
        obtain ⟨d', e4, dt⟩ := dx2.get ex
        rw [e3] at e4
        cases e4
        obtain ⟨t1, t2, ⟨nm, t3, t4⟩, t5⟩ := modeD_parts (all2 di (List.mem_of_getElem? e3))
        obtain ⟨a, ys, rfl, dy, ha, _, _⟩ := (dt.fr f).tupOf t1
        obtain ⟨y0, y1, y2, g0, g1, g2, rfl, eds, k0, k1, k2⟩ := three_dt dy t2
        have eg : g0 = .str nm := by rw [← t3]; unfold itD; rw [eds]; rfl
        subst eg
        cases k0
        refine ⟨rfl, _, rfl, a, _, 0, _, rfl, rfl, ha, atI0, ?_⟩
        rw [show (V.str ∘ nmOf) di = V.str nm from congrArg V.str t4] at z
        exact z _ Fm.refl True.intro
      · intro H4 f _ hD4
        have s14 := s13.trans f.same
        obtain ⟨l1, xs1, rfl, dx1, ha1, _⟩ := (h1.fr (Fm.of s14)).seq sq1
        have hl1 := dx1.len
        have at4 := f _ _ at2 id
        have sz0 : sizeD (.int bi) = (if bi < 0 then -bi else bi) := rfl
        refine ⟨_, rfl, l2, xs2, o2, rfl, ho2, at4, fun J wk => for_it wk (fun i σ H' => Same H4 H' ∧ rowsErr (sizeD (.int bi)) (itemsD d1).length ((itemsD d2).map nmOf) (itemsD d2) = rowsErr (sizeD (.int bi)) (itemsD d1).length ((itemsD d2).map nmOf) ((itemsD d2).drop i) ∧
          ∃ w7 w8 w9 w10 : Option V, σ = [some (.int bi), some (.ref l1), some (.ref l2), some v3, some v4, some (.int (if bi < 0 then -bi else bi)), some (.ref D), w7, w8, w9, w10]) ⟨Same.refl _, rfl, none, none, none, none, rfl⟩ (fun i σ H' _ z => z.1 _ _ at4) ?_ ?_⟩
        · rintro i x σ H5 H6 hi ⟨s5, er, w7, w8, w9, w10, rfl⟩ ⟨rfl, ex⟩
          obtain ⟨di, ei, dt⟩ := (dx2.fr (f.trans (Fm.of s5))).get ex
          obtain ⟨t1, t2, ⟨nm, t3, t4⟩, t5⟩ := modeD_parts (all2 di (List.mem_of_getElem? ei))
          obtain ⟨a, ys, rfl, dy, ha, _, _⟩ := dt.tupOf t1
          obtain ⟨y0, y1, y2, g0, g1, g2, rfl, eds, k0, k1, k2⟩ := three_dt dy t2
          have eg : g0 = .str nm := by rw [← t3]; unfold itD; rw [eds]; rfl
          have eg2 : itD di 2 = g2 := by unfold itD; rw [eds]; rfl
          subst eg
          cases k0
          have zi : Sz 4 di := z2.2.2 di (List.mem_of_getElem? ei)
          have zr : Sz 3 g2 := eg2 ▸ zi.item 2
          have more : (itemsD d2).drop i = di :: (itemsD d2).drop (i + 1) := by
            obtain ⟨lt, e⟩ := List.getElem?_eq_some_iff.mp ei
            rw [List.drop_eq_getElem_cons lt, e]
          rw [more, rowsErr, eg2, t4] at er
          refine ⟨a, _, rfl, ha, rfl, _, _, rfl, _, _, rfl, _, _, rfl, rfl, ?_⟩
          refine ⟨_, rfl, _, rfl, _, rfl, _, rfl, l1, xs1, rfl, ha1.imp (s5 _ _) (s5 _ _), _, rfl, .str nm, y2, g2, (if bi < 0 then -bi else bi), (itemsD d1).length, D, (itemsD d2).map nmOf, (by rw [hl1]; rfl), k2, by rw [← eg2]; exact t5, zr.1, zr.2.2, s5 _ _ hD4, fun ok H7 s7 => ?_, fun j ej => ?_⟩
          · refine ⟨s5.trans s7, ?_, _, _, _, _, rfl⟩
            rw [er, sz0, ok]
          · have x := qe (.row (.str nm) j) (by rw [er, sz0, ej])
            exact EX2.same x (s14.trans s5)
        · rintro σ H5 ⟨s5, er, w7, w8, w9, w10, rfl⟩
          rw [hl2, List.drop_of_length_le (Nat.le_refl _), rowsErr] at er
          rw [er] at q qe
          have s15 := s14.trans s5
          dsimp only at q qe
          cases e3 : endsD d3 (sizeD (.int bi)) with
          | false =>
            have x := qe .ends (by rw [if_pos e3])
            exact ⟨_, rfl, _, rfl, v3, d3, _, rfl, h3.fr (Fm.of s15), z3, (fun h => by rw [← sz0, e3] at h; cases h), fun _ => EX1.same x s15⟩
          | true =>
            rw [if_neg (by rw [e3]; decide)] at q qe
            refine ⟨_, rfl, _, rfl, v3, d3, _, rfl, h3.fr (Fm.of s15), z3, (fun _ H6 s6 => ?_), fun h => by rw [← sz0, e3] at h; cases h⟩
            have s16 := s15.trans s6
            dsimp only
            refine PureT.ifs (x := !factD d4 ((itemsD d1).length + 1)) (PureT.no fun Q q => ⟨_, rfl, _, rfl, l1, xs1, rfl, ha1.imp ((s5.trans s6) _ _) ((s5.trans s6) _ _), _, _, rfl, rfl, v4, d4, _, rfl, h4.fr (Fm.of s16), z4, fun H7 s7 => ⟨_, rfl, by rw [hl1]; exact q _ s7⟩⟩) (fun tt H7 s7 => ?_) (fun ff H7 s7 => ?_)
            · have x := qe .result (by rw [if_pos (no_tt tt)])
              exact ⟨_, rfl, rfl, by show 1 ≤ 1000; decide, flies1 (EX1.same x (s16.trans s7)).now⟩
            · exact q (by rw [if_neg (by rw [no_ff ff]; decide)]) _ (s16.trans s7)
end
/-! ### tables -/
section
variable {P : Program} {w : World} {K : PySem.W.Frag} {mg : Str → Option Value} {base : Heap} {aR : Addr}
def leafD : PyData → Leaf
  | .int i => .num i
  | .str s => .text s
  | _ => .none
def keyL (d : PyData) : List Leaf := [leafD (itD d 0), leafD (itD d 1)]
def valD (d : PyData) : PyData := .tuple [itD d 2, itD d 3]
/-- a row that can be told -/
def RowS (d : PyData) : Prop := isTup d = true ∧ (itemsD d).length = 4 ∧ NI (itD d 0) ∧ NI (itD d 1)
def entOk (Z : Addr → Prop) (H : Hp) (r : PyData) (x : List Leaf × Addr × V) : Prop := x.1 = keyL r ∧ Dt Z H x.2.2 (valD r)
/-- the table of the rows rs stands at D -/
def TabR (P : Program) (w : World) (H : Hp) (D : Addr) (rs : List PyData) : Prop := ∃ kbs : Ents, Tab P w H D kbs ∧ Paired (entOk Z0 H) rs kbs
theorem paired_snoc {α β : Type} {F : α → β → Prop} {x : α} {y : β} (z : F x y) : ∀ {l : List α} {m : List β}, Paired F l m → Paired F (l ++ [x]) (m ++ [y])
  | _, _, .nil => .cons z .nil
  | _, _, .cons h t => .cons h (paired_snoc z t)
theorem paired_len {α β : Type} {F : α → β → Prop} : ∀ {l : List α} {m : List β}, Paired F l m → l.length = m.length
  | _, _, .nil => rfl
  | _, _, .cons _ t => congrArg (· + 1) (paired_len t)
theorem paired_keys {Z : Addr → Prop} {H : Hp} : ∀ {rs : List PyData} {kbs : Ents}, Paired (entOk Z H) rs kbs → kbs.map (·.1) = rs.map keyL
  | _, _, .nil => rfl
  | _, _, .cons h t => by rw [List.map_cons, List.map_cons, h.1, paired_keys t]
theorem TabR.same {H H' : Hp} {D : Addr} {rs : List PyData} (t : TabR P w H D rs) (s : Same H H') : TabR P w H' D rs := by
  obtain ⟨kbs, a, b⟩ := t
  exact ⟨kbs, a.same s, L2.Paired.mapP b fun p q z => ⟨z.1, z.2.fr (Fm.of s)⟩⟩
theorem NI.lV {d : PyData} (n : NI d) {Z : Addr → Prop} {H : Hp} {v : V} (h : Dt Z H v d) : v = lV (leafD d) := by
  rcases n with rfl | ⟨i, rfl⟩ <;> (cases h; rfl)
def spTable (P : Program) (w : World) : Sp := fun vs H Q _ => ∃ v d, vs = [v] ∧ Dt Z0 H v d ∧ isSeq d = true ∧ (itemsD d).length ≤ 1000 ∧ (∀ x ∈ itemsD d, RowS x) ∧ ((itemsD d).map keyL).Nodup ∧ ∀ H' D, Same H H' → H D = none → TabR P w H' D (itemsD d) → Q (.ref D) H'
abbrev s_table_of : Stmt := top 37
abbrev N_table_of : List Str := ["rows", "sign", "remainder", "updates", "then"]
theorem sc_table_of : FnScope N_table_of ["rows"] (defScope s_table_of) := ⟨rfl, rfl, rfl, by decide +kernel, rfl, by decide +kernel, by decide +kernel⟩
theorem ok_table_of (h : Has K mg "table_of" s_table_of ["rows"]) : Ok P w K mg base 1 "table_of" ["rows"] (spTable P w) := by
  obtain ⟨f, fd, g, b, F⟩ := h
  refine ⟨f, fd, g, F.kp, b, F.ok sc_table_of (fun vs H Q E h => ?_) (fun cdv A outer s H vs Q E hr h => ?_)⟩
  · obtain ⟨v, d, rfl, _⟩ := h
    rfl
  · obtain ⟨v, d, rfl, hd, sq, few, rows, nod, q⟩ := h
    have un : (cxOf CX0 P w K mg base N_table_of "table_of" (defScope s_table_of) f cdv A outer s H E).nox.A.units < cLine := Nat.lt_of_le_of_lt (Nat.le_add_right _ _) hr.units
    refine ⟨_, pss_one (ps_ret (pe_dcT (own := [("sign", 1), ("remainder", 2), ("updates", 3), ("then", 4)]) (g := gTupT 4 (gCons (gName 1) (gCons (gName 2) (gCons (gName 3) (gCons (gName 4) gNil))))) un rfl sc_table_of.nd (pi_seq (pv 0)) (blkOk_by (N := N_table_of) (sc := defScope s_table_of) (by decide +kernel))
      (fun _ _ _ _ _ => pgT (n := 4) (by rfl) (pgs_cons (pg_name (i := 1) sc_table_of.nd rfl (by first | exact Or.inl rfl | exact Or.inr rfl)) (pgs_cons (pg_name (i := 2) sc_table_of.nd rfl (by first | exact Or.inl rfl | exact Or.inr rfl)) (pgs_cons (pg_name (i := 3) sc_table_of.nd rfl (by first | exact Or.inl rfl | exact Or.inr rfl)) (pgs_cons (pg_name (i := 4) sc_table_of.nd rfl (by first | exact Or.inl rfl | exact Or.inr rfl)) pgs_nil)))))
      (fun _ _ _ _ _ => pe_tup (pa_cons (pv 1) (pa_cons (pv 2) pa_nil))) (fun _ _ _ _ _ => pe_tup (pa_cons (pv 3) (pa_cons (pv 4) pa_nil))))), ?_⟩
    obtain ⟨l, xs, rfl, dx, ha, _⟩ := hd.seq sq
    have hl := dx.len
    obtain ⟨o, ho, at_l⟩ : ∃ o, (o = .lst xs ∨ o = .tup xs) ∧ H l = some o := ha.elim (fun h => ⟨_, .inl rfl, h⟩) fun h => ⟨_, .inr rfl, h⟩
    refine ⟨_, rfl, l, xs, o, rfl, ho, at_l, fun J wk D hD => ?_⟩
    refine dc_it wk (fun i H' => Fm (Zp D) H H' ∧ ∃ kbs : Ents, Tab P w H' D kbs ∧ Paired (entOk (Zu Z0 D) H') ((itemsD d).take i) kbs) ⟨fun b o e n => by rw [upd_ne n]; exact e, [], ⟨upd_same, fun x hx => by cases hx⟩, .nil⟩ (fun i H' z => z.1 _ _ at_l (ne_of_none at_l hD)) ?_ ?_
    · rintro i x H1 H2 hi ⟨f1, kbs, tb, pr⟩ ⟨rfl, ex⟩
      have s1 : Same H H2 := fun b o e => f1 b o e (ne_of_none e hD)
      obtain ⟨di, ei, dt⟩ := dx.get ex
      have li : i < (itemsD d).length := (List.getElem?_eq_some_iff.mp ei).1
      obtain ⟨tu, l4, n0, n1⟩ := rows di (List.mem_of_getElem? ei)
      obtain ⟨a, ys, rfl, dy, hay, _, _⟩ := dt.tupOf tu
      obtain ⟨x0, x1, x2, x3, d0, d1, d2, d3, rfl, eds, h0, h1, h2, h3⟩ := four_dt dy l4
      have e0 : itD di 0 = d0 := by unfold itD; rw [eds]; rfl
      have e1 : itD di 1 = d1 := by unfold itD; rw [eds]; rfl
      have e2 : itD di 2 = d2 := by unfold itD; rw [eds]; rfl
      have e3 : itD di 3 = d3 := by unfold itD; rw [eds]; rfl
      rw [e0] at n0
      rw [e1] at n1
      have kl : keyL di = [leafD d0, leafD d1] := by unfold keyL; rw [e0, e1]
      have vl : valD di = .tuple [d2, d3] := by unfold valD; rw [e2, e3]
      refine ⟨a, _, rfl, s1 _ _ hay, rfl, _, _, rfl, _, _, rfl, _, _, rfl, _, _, rfl, rfl, rfl, ?_⟩
      refine ⟨_, rfl, _, rfl, by show 2 ≤ sizeLine; decide, fun kt nk => ?_⟩
      have s2 : Same H2 (upd H2 kt (.tup [x0, x1])) := Same.new nk
      have k2 : (upd H2 kt (.tup [x0, x1])) kt = some (.tup [x0, x1]) := upd_same
      show tCons _ _ _ (upd H2 kt (.tup [x0, x1])) _
      generalize upd H2 kt (.tup [x0, x1]) = H3 at s2 k2 ⊢
      refine ⟨_, rfl, _, rfl, by show 2 ≤ sizeLine; decide, fun vt nv => ?_⟩
      have s3 : Same H3 (upd H3 vt (.tup [x2, x3])) := Same.new nv
      have v3 : (upd H3 vt (.tup [x2, x3])) vt = some (.tup [x2, x3]) := upd_same
      generalize upd H3 vt (.tup [x2, x3]) = H4 at s3 v3 ⊢
      have s24 := s2.trans s3
      have tb4 := tb.same s24
      have dD : H4 D = some (dObj P w D kbs) := tb4.1
      have fr : Fm (Zu Z0 D) H4 (upd H4 D (dObj P w D (kbs ++ [([leafD d0, leafD d1], kt, .ref vt)]))) := Fm.at_zu
      have apart : ∀ {b : Addr} {ws : List V}, H4 b = some (.tup ws) → b ≠ D := fun {b ws} e m => by
        rw [m, dD] at e
        cases e
      refine ⟨_, ⟨kbs, [leafD d0, leafD d1], kt, rfl, ?_, tb4, ?_, ?_, rfl⟩, fun b o e nb => ?_, kbs ++ [([leafD d0, leafD d1], kt, .ref vt)], ⟨upd_same, fun x hx => ?_⟩, ?_⟩
      · show H4 kt = some (.tup [lV (leafD d0), lV (leafD d1)])
        rw [s3 _ _ k2, n0.lV h0, n1.lV h1]
      · rw [paired_keys pr, ← kl]
        have sp : itemsD d = (itemsD d).take i ++ di :: (itemsD d).drop (i + 1) := by
          obtain ⟨lt, e⟩ := List.getElem?_eq_some_iff.mp ei
          rw [← e, ← List.drop_eq_getElem_cons lt, List.take_append_drop]
        rw [sp, List.map_append, List.nodup_append] at nod
        exact fun m => nod.2.2 _ m _ List.mem_cons_self rfl
      · rw [← paired_len pr, List.length_take]
        exact Nat.lt_of_le_of_lt (by omega : min i (itemsD d).length ≤ 1000) (by decide)
      · rw [upd_ne nb]
        exact s24 _ _ (f1 _ _ e nb)
      · rcases List.mem_append.mp hx with hx | hx
        · have e := tb4.2 x hx
          rw [upd_ne (apart e)]
          exact e
        · rw [List.mem_singleton.mp hx]
          have e : H4 kt = some (.tup [lV (leafD d0), lV (leafD d1)]) := by rw [s3 _ _ k2, n0.lV h0, n1.lV h1]
          show upd H4 D _ kt = _
          rw [upd_ne (apart e)]
          exact e
      · rw [List.take_succ, ei]
        have g2 := ((h2.fr (Fm.of (s1.trans s24))))
        have g3 := ((h3.fr (Fm.of (s1.trans s24))))
        have vv : Dt (Zu Z0 D) H4 (.ref vt) (valD di) := by
          rw [vl]
          exact .tup v3 (zu_ne id (apart v3)) (.cons ((h2.off hD).fr (Fm.zu (Fm.of (s1.trans s24)))) (.cons ((h3.off hD).fr (Fm.zu (Fm.of (s1.trans s24)))) .nil))
        exact paired_snoc ⟨kl.symm, vv.fr fr⟩ (L2.Paired.mapP pr fun p q z => ⟨z.1, (z.2.fr (Fm.zu (Fm.of s24))).fr fr⟩)
    · rintro H1 ⟨f1, kbs, tb, pr⟩
      have s1 : Same H H1 := fun b o e => f1 b o e (ne_of_none e hD)
      rw [hl, List.take_length] at pr
      exact q H1 D s1 hD ⟨kbs, tb, L2.Paired.mapP pr fun p q z => ⟨z.1, z.2.un⟩⟩
end
/-! ### programs -/
section
variable {P : Program} {w : World} {K : PySem.W.Frag} {mg : Str → Option Value} {base : Heap} {aR CB CG CM CI CE CR CP : Addr}
theorem inV_strs {s : Str} : ∀ {ns : List Str}, inV (.str s) (ns.map V.str) = false → s ∉ ns
  | [], _ => fun h => by cases h
  | n :: ns, e => by
    intro h
    unfold inV at e
    rw [List.map_cons, List.any_cons] at e
    obtain ⟨e1, e2⟩ := Bool.or_eq_false_iff.mp e
    rcases List.mem_cons.mp h with rfl | h
    · exact absurd e1 (by unfold eqV; simp)
    · exact inV_strs (s := s) (ns := ns) (by unfold inV; exact e2) h
theorem wrongAt_nodup {part : PyData → Bool} : ∀ {ds : List PyData} {ns : List Str} {i : Nat}, wrongAt part ds ns i = none → ns.Nodup → (ns ++ ds.map nmOf).Nodup
  | [], ns, _, _, n => by simpa using n
  | d :: ds, ns, i, e, n => by
    rw [wrongAt] at e
    split at e
    · cases e
    · rename_i c
      have c := (Bool.or_eq_false_iff.mp (Bool.eq_false_iff.mpr c)).2
      have z := wrongAt_nodup e (List.nodup_append.mpr ⟨n, by simp, fun a ha b hb => by
        rw [List.mem_singleton.mp hb]
        exact fun m => inV_strs c (m ▸ ha)⟩)
      simpa using z
theorem keyIn_false {k : PyData} {ks : List PyData} (h : keyIn k ks = false) (s : k.canLay0 = true) : k ∉ ks := fun m => by
  have z := List.any_eq_false.mp h k m
  exact z (PySem.SeqAt.eqv_refl _ s)
theorem leafD_inj {d e : PyData} (a : NI d) (b : NI e) (h : leafD d = leafD e) : d = e := by
  rcases a with rfl | ⟨i, rfl⟩ <;> rcases b with rfl | ⟨j, rfl⟩ <;> first | rfl | (cases h; done) | (cases h; rfl)
theorem wrongRow_rows {size : Int} {many : Nat} {zs : List Str} : ∀ {ds ks : List PyData} {i : Nat}, wrongRow size many zs ds ks i = none → (∀ x ∈ ds, rowD x size many zs = true) ∧ (ks.Nodup → (ks ++ ds.map keyD).Nodup)
  | [], ks, _, _ => ⟨fun x h => (by cases h), fun n => by simpa using n⟩
  | d :: ds, ks, i, e => by
    rw [wrongRow] at e
    split at e
    · cases e
    · rename_i c
      obtain ⟨c1, c2⟩ := Bool.or_eq_false_iff.mp (Bool.eq_false_iff.mpr c)
      obtain ⟨r1, r2⟩ := wrongRow_rows e
      obtain ⟨_, _, n0, n1⟩ := rowD_NI (no_ff c1)
      have lay : (keyD d).canLay0 = true := (shp_tup (n := 0) (ds := [itD d 0, itD d 1]) fun z hz => by
        simp only [List.mem_cons, List.not_mem_nil, or_false] at hz
        rcases hz with rfl | rfl
        · exact n0.shp
        · exact n1.shp).1
      refine ⟨fun x h => ?_, fun n => ?_⟩
      · rcases List.mem_cons.mp h with rfl | h
        · exact no_ff c1
        · exact r1 x h
      · have z := r2 (List.nodup_append.mpr ⟨n, by simp, fun a ha b hb => by
          rw [List.mem_singleton.mp hb]
          exact fun m => keyIn_false c2 lay (m ▸ ha)⟩)
        simpa using z
theorem keyL_nodup : ∀ {ds : List PyData}, (∀ x ∈ ds, RowS x) → (ds.map keyD).Nodup → (ds.map keyL).Nodup
  | [], _, _ => by simp
  | d :: ds, r, n => by
    rw [List.map_cons, List.nodup_cons] at n ⊢
    refine ⟨fun m => n.1 ?_, keyL_nodup (fun x h => r x (List.mem_cons_of_mem _ h)) n.2⟩
    obtain ⟨e, he, k⟩ := List.mem_map.mp m
    refine List.mem_map.mpr ⟨e, he, ?_⟩
    obtain ⟨_, _, a0, a1⟩ := r d List.mem_cons_self
    obtain ⟨_, _, b0, b1⟩ := r e (List.mem_cons_of_mem _ he)
    unfold keyL at k
    injection k with k1 k
    injection k with k2 _
    unfold keyD
    rw [leafD_inj b0 a0 k1, leafD_inj b1 a1 k2]
theorem rowsErr_none {size : Int} {many : Nat} {zs : List Str} : ∀ {ds : List PyData}, rowsErr size many zs ds = none → ∀ d ∈ ds, wrongRow size many zs (itemsD (itD d 2)) [] 0 = none
  | [], _, d, h => by cases h
  | x :: xs, e, d, h => by
    rw [rowsErr] at e
    cases c : wrongRow size many zs (itemsD (itD x 2)) [] 0 with
    | some i => rw [c] at e; cases e
    | none =>
      rw [c] at e
      rcases List.mem_cons.mp h with rfl | h
      · exact c
      · exact rowsErr_none e d h
/-- what is known of parts that are a program's -/
structure PartsOk (d0 d1 d2 d3 d4 : PyData) : Prop where
  base : baseD d0 = true
  regs : partsD regD 3 d1 = true
  modes : partsD modeD 4 d2 = true
  rows : rowsErr (sizeD d0) (itemsD d1).length ((itemsD d2).map nmOf) (itemsD d2) = none
  ends : endsD d3 (sizeD d0) = true
  result : factD d4 ((itemsD d1).length + 1) = true
theorem partsOk_iff {d0 d1 d2 d3 d4 : PyData} : progErr d0 d1 d2 d3 d4 = none ↔ PartsOk d0 d1 d2 d3 d4 := by
  unfold progErr
  constructor
  · intro h
    split at h
    · cases h
    · split at h
      · cases h
      · split at h
        · cases h
        · split at h
          · cases h
          · split at h
            · cases h
            · split at h
              · cases h
              · rename_i h0 h1 h2 _ h3 h4 h5
                simp only [Bool.not_eq_false] at h0 h1 h2 h4 h5
                exact ⟨h0, h1, h2, h3, h4, h5⟩
  · rintro ⟨h0, h1, h2, h3, h4, h5⟩
    rw [h0, h1, h2, h3, h4, h5]
    rfl
theorem PartsOk.names {d0 d1 d2 d3 d4 : PyData} (h : PartsOk d0 d1 d2 d3 d4) : ((itemsD d2).map nmOf).Nodup := by
  have m := h.modes
  unfold partsD at m
  have z := wrongAt_nodup (Option.isNone_iff_eq_none.mp (Bool.and_eq_true_iff.mp m).2) List.nodup_nil
  simpa using z
theorem PartsOk.row {d0 d1 d2 d3 d4 : PyData} (h : PartsOk d0 d1 d2 d3 d4) {md : PyData} (m : md ∈ itemsD d2) : (∀ x ∈ itemsD (itD md 2), RowS x) ∧ ((itemsD (itD md 2)).map keyL).Nodup := by
  obtain ⟨r1, r2⟩ := wrongRow_rows (rowsErr_none h.rows md m)
  have rs : ∀ x ∈ itemsD (itD md 2), RowS x := fun x hx => rowD_NI (r1 x hx)
  exact ⟨rs, keyL_nodup rs (by simpa using r2 List.nodup_nil)⟩
end
/-! ### Program.__init__ -/
section
mutual
theorem Dt.offC {Z : Addr → Prop} {D : Addr} {H : Hp} (n : ∀ xs, H D ≠ some (.lst xs) ∧ H D ≠ some (.tup xs)) {v : V} {d : PyData} (h : Dt Z H v d) : Dt (Zu Z D) H v d :=
  match h with
  | .non => .non
  | .bl b => .bl b
  | .int i => .int i
  | .str x => .str x
  | .lst e m t => .lst e (zu_ne m fun z => (n _).1 (z ▸ e)) (DtAll.offC n t)
  | .tup e m t => .tup e (zu_ne m fun z => (n _).2 (z ▸ e)) (DtAll.offC n t)
theorem DtAll.offC {Z : Addr → Prop} {D : Addr} {H : Hp} (n : ∀ xs, H D ≠ some (.lst xs) ∧ H D ≠ some (.tup xs)) {vs : List V} {ds : List PyData} (h : DtAll Z H vs ds) : DtAll (Zu Z D) H vs ds :=
  match h with
  | .nil => .nil
  | .cons a b => .cons (Dt.offC n a) (DtAll.offC n b)
end
/-- an object that is no data, no table's own -/
def Odd (o : HO) : Prop := (∀ xs, o ≠ .lst xs) ∧ (∀ xs, o ≠ .tup xs) ∧ ∀ φ, o ≠ .ext φ
theorem odd_ins {C dx : Addr} {fs : List (Str × V)} : Odd (.ins C dx fs) := ⟨fun _ z => (by cases z), fun _ z => (by cases z), fun _ z => (by cases z)⟩
theorem odd_dK {kvs : List (L2.Key × V)} : Odd (.dK kvs) := ⟨fun _ z => (by cases z), fun _ z => (by cases z), fun _ z => (by cases z)⟩
theorem Dt.keepO {p : Addr} {H H' : Hp} {o : HO} {v : V} {d : PyData} (h : Dt Z0 H v d) (e : H p = some o) (od : Odd o) (k : Keep p H H') : Dt Z0 H' v d :=
  ((h.offC (D := p) fun xs => ⟨fun z => od.1 xs (Option.some.inj (e.symm.trans z)), fun z => od.2.1 xs (Option.some.inj (e.symm.trans z))⟩).fr (fun b o g n => k b o g fun m => n (.inr m))).un
variable {P : Program} {w : World} {K : PySem.W.Frag} {mg : Str → Option Value} {base : Heap} {aR CB CG CM CI CE CR CP : Addr}
theorem TabR.keepO {p : Addr} {H H' : Hp} {o : HO} {D : Addr} {rs : List PyData} (t : TabR P w H D rs) (e : H p = some o) (od : Odd o) (k : Keep p H H') : TabR P w H' D rs := by
  obtain ⟨kbs, ⟨a, b⟩, c⟩ := t
  have ne : ∀ {x : Addr} {u : HO}, H x = some u → o ≠ u → x ≠ p := fun {x u} g n m => by
    rw [m, e] at g
    exact n (Option.some.inj g)
  exact ⟨kbs, ⟨k _ _ a (ne a (od.2.2 _)), fun x hx => k _ _ (b x hx) (ne (b x hx) (od.2.1 _))⟩, L2.Paired.mapP c fun r x z => ⟨z.1, z.2.keepO e od k⟩⟩
/-- a mode as a program keeps it -/
def normM (md : PyData) : PyData := .tuple [itD md 0, itD md 1, .tuple (itemsD (itD md 2))]
def ProgF (b : Int) (vr vm ve va : V) (vt : Addr) : List (Str × V) := [("_base", .int b), ("_registers", vr), ("_modes", vm), ("_ends", ve), ("_result", va), ("_tables", .ref vt)]
def TabsAt (P : Program) (w : World) (H : Hp) (vt : Addr) (ms : List PyData) : Prop := ∃ kvs : List (L2.Key × V), H vt = some (.dK kvs) ∧ Paired (fun md (kv : L2.Key × V) => kv.1 = .inr (nmOf md) ∧ ∃ D, kv.2 = .ref D ∧ TabR P w H D (itemsD (itD md 2))) ms kvs
/-- the program of such parts stands at p -/
def ProgAt (P : Program) (w : World) (CP : Addr) (H : Hp) (p : Addr) (b : Int) (d1 d2 d3 d4 : PyData) : Prop := ∃ dx vr vm ve va vt, H p = some (.ins CP dx (ProgF b vr vm ve va vt)) ∧ Dt Z0 H vr (.tuple (itemsD d1)) ∧ Dt Z0 H vm (.tuple ((itemsD d2).map normM)) ∧ Dt Z0 H ve (.tuple (itemsD d3)) ∧ Dt Z0 H va d4 ∧ TabsAt P w H vt (itemsD d2)
theorem tupS {X : Cx} : CallR X (.type "tuple") (fun xs H Q => ∃ (Z : Addr → Prop) (v : V) (d : PyData), xs = [v] ∧ Dt Z H v d ∧ isSeq d = true ∧ (∀ l', H l' = none → ¬ Z l') ∧ ∀ u H', Same H H' → Dt Z H' u (.tuple (itemsD d)) → Q u H') := by
  intro pins s σ H xs us Q I r w
  obtain ⟨Z, v, d, rfl, hd, sq, fz, q⟩ := w
  obtain ⟨l, ys, rfl, dy, ha, nz⟩ := hd.seq sq
  exact tupT pins s σ H _ us Q I r ⟨l, ys, rfl, ha.imp (fun h => ⟨h, fun l' n => q _ _ (Same.new n) (.tup upd_same (fz l' n) (dy.fr (Fm.of (Same.new n))))⟩) fun h => ⟨h, q _ H (Same.refl _) (.tup h nz dy)⟩⟩
def spPInit (P : Program) (w : World) (CP CB CG CM CI CE CR : Addr) : Sp := fun vs H Q E => ∃ p dx v0 v1 v2 v3 v4 d0 d1 d2 d3 d4, vs = [.ref p, v0, v1, v2, v3, v4] ∧ H p = some (.ins CP dx []) ∧ Dt Z0 H v0 d0 ∧ Dt Z0 H v1 d1 ∧ Dt Z0 H v2 d2 ∧ Dt Z0 H v3 d3 ∧ Dt Z0 H v4 d4 ∧ Sz 2 d1 ∧ Sz 5 d2 ∧ (itemsD d3).length ≤ 1000 ∧ (itemsD d4).length ≤ 1000 ∧
  (PartsOk d0 d1 d2 d3 d4 → ∀ H', Keep p H H' → ProgAt P w CP H' p (iOf d0) d1 d2 d3 d4 → Q .non H') ∧ ∀ e, progErr d0 d1 d2 d3 d4 = some e → PErr.flies CB CG CM CI CE CR v0 v3 v4 E H e
abbrev s_Program___init__ : Stmt := inClass (top 40) 0
abbrev N_Program___init__ : List Str := ["self", "base", "registers", "modes", "ends", "result", "name", "rule", "rows", "_"]
theorem sc_Program___init__ : FnScope N_Program___init__ ["self", "base", "registers", "modes", "ends", "result"] (defScope s_Program___init__) := ⟨rfl, rfl, rfl, by decide +kernel, rfl, by decide +kernel, by decide +kernel⟩
/-- what is asked of the class -/
structure PCls (K : PySem.W.Frag) (mg : Str → Option Value) (CP : Addr) : Prop where
  cl : Cls K CP
  at_ : mg "Program" = some (.ref CP)
  n1 : NoAttr K CP "_base"
  n2 : NoAttr K CP "_registers"
  n3 : NoAttr K CP "_modes"
  n4 : NoAttr K CP "_ends"
  n5 : NoAttr K CP "_result"
  n6 : NoAttr K CP "_tables"
theorem ok_Program_init {fI : Addr} {fd : FuncData} (F : Fun K "__init__" "Program.__init__" s_Program___init__ fI fd) (C : PCls K mg CP) (PT : PTx K mg aR) (O_check_program : OkX P w K mg base 7 "check_program" ["base", "registers", "modes", "ends", "result"] (spChkProg CB CG CM CI CE CR))
    (O_table_of : Ok P w K mg base 1 "table_of" ["rows"] (spTable P w)) : FnOk P w K mg base (L2.CX P w) 8 fI fd ["self", "base", "registers", "modes", "ends", "result"] (spPInit P w CP CB CG CM CI CE CR) := by
  have T := PT.T
  refine F.okX sc_Program___init__ (fun vs H Q E h => ?_) (fun cdv A outer s H vs Q E hr h => ?_)
  · obtain ⟨p, dx, v0, v1, v2, v3, v4, d0, d1, d2, d3, d4, rfl, _⟩ := h
    rfl
  · obtain ⟨p, dx, v0, v1, v2, v3, v4, d0, d1, d2, d3, d4, rfl, ep, h0, h1, h2, h3, h4, z1, z2, z3, z4, q, qe⟩ := h
    refine ⟨_, (pss_cons (ps_expr (pe_cX O_check_program (hr.mono (by decide)) (passes_call (takes_of rfl rfl rfl rfl) (fun _ _ _ _ z => z)) rfl (pa_cons (pv 1) (pa_cons (pv 2) (pa_cons (pv 3) (pa_cons (pv 4) (pa_cons (pv 5) pa_nil)))))))
      (pss_cons (ps_fld (pv 0) (pv 1) rfl)
      (pss_cons (ps_fld (pv 0) (pe_callTy tupS (by rfl) T.tuple bb_tuple (pa_cons (pv 2) pa_nil)) rfl)
      (pss_cons (ps_fld (pv 0) (pe_callTy tupS (by rfl) T.tuple bb_tuple (pa_cons (by exact pe_lc (own := [("name", 6), ("rule", 7), ("rows", 8)]) (g := gTupT 3 (gCons (gName 6) (gCons (gName 7) (gCons (gName 8) gNil)))) (tt := tYes) rfl sc_Program___init__.nd (pi_seq (pv 3)) (blkOk_by (N := N_Program___init__) (sc := defScope s_Program___init__) (by rfl)) (fun _ _ _ _ _ => (pgT (n := 3) (by rfl) (pgs_cons (pg_name (i := 6) sc_Program___init__.nd rfl (by first | exact Or.inl rfl | exact Or.inr rfl)) (pgs_cons (pg_name (i := 7) sc_Program___init__.nd rfl (by first | exact Or.inl rfl | exact Or.inr rfl)) (pgs_cons (pg_name (i := 8) sc_Program___init__.nd rfl (by first | exact Or.inl rfl | exact Or.inr rfl)) pgs_nil))))) (fun _ _ _ _ _ => pts_nil) (fun _ _ _ _ _ => (pe_tup (pa_cons (pv 6) (pa_cons (pv 7) (pa_cons (pe_callTy tupS (by rfl) T.tuple bb_tuple (pa_cons (pv 8) pa_nil)) pa_nil)))))) pa_nil)) rfl)
      (pss_cons (ps_fld (pv 0) (pe_callTy tupS (by rfl) T.tuple bb_tuple (pa_cons (pv 4) pa_nil)) rfl)
      (pss_cons (ps_fld (pv 0) (pv 5) rfl)
      (pss_one (ps_fld (pv 0) (pe_dc (own := [("name", 6), ("_", 9), ("rows", 8)]) (g := gTupT 3 (gCons (gName 6) (gCons (gName 9) (gCons (gName 8) gNil)))) (tt := tYes) rfl sc_Program___init__.nd (pi_seq (pv 3)) (blkOk_by (N := N_Program___init__) (sc := defScope s_Program___init__) (by rfl)) (fun _ _ _ _ _ => (pgT (n := 3) (by rfl) (pgs_cons (pg_name (i := 6) sc_Program___init__.nd rfl (by first | exact Or.inl rfl | exact Or.inr rfl)) (pgs_cons (pg_name (i := 9) sc_Program___init__.nd rfl (by first | exact Or.inl rfl | exact Or.inr rfl)) (pgs_cons (pg_name (i := 8) sc_Program___init__.nd rfl (by first | exact Or.inl rfl | exact Or.inr rfl)) pgs_nil))))) (fun _ _ _ _ _ => pts_nil) (fun _ _ _ _ _ => (pv 6)) (fun _ _ _ _ _ => (pe_cO O_table_of (hr.mono (by decide)) pass0 rfl (pa_cons (pv 8) pa_nil)))) rfl)))))))), ?_⟩
    refine ⟨_, rfl, _, rfl, _, rfl, _, rfl, _, rfl, v0, v1, v2, v3, v4, d0, d1, d2, d3, d4, rfl, h0, h1, h2, h3, h4, z1, z2, z3, z4, fun ok H1 s1 => ?_, qe⟩
    have PO := partsOk_iff.mp ok
    have q := q PO
    obtain ⟨b, rfl⟩ : ∃ b, d0 = .int b := by
      have := PO.base
      cases d0 <;> first | exact ⟨_, rfl⟩ | cases this
    cases h0
    have ep1 := s1 _ _ ep
    have off : ∀ {v : V} {d : PyData}, Dt Z0 H v d → Dt (Zu Z0 p) H1 v d := fun h => (h.fr (Fm.of s1)).offC fun xs => ⟨fun z => (by rw [ep1] at z; cases z), fun z => (by rw [ep1] at z; cases z)⟩
    have g1 := off h1
    have g2 := off h2
    have g3 := off h3
    have g4 := off h4
    have k1 : Keep p H H1 := fun c o e _ => s1 _ _ e
    -- the base
    refine ⟨_, rfl, _, rfl, p, CP, dx, [], rfl, ep1, C.cl, C.n1, by show 0 < 1000; decide, ?_⟩
    have f2 : Fm (Zu Z0 p) H1 (upd H1 p (.ins CP dx [("_base", .int b)])) := Fm.at_zu
    have ep2 : (upd H1 p (.ins CP dx [("_base", .int b)])) p = some (.ins CP dx [("_base", .int b)]) := upd_same
    have k2 : Keep p H (upd H1 p (.ins CP dx [("_base", .int b)])) := fun c o e n => by rw [upd_ne n]; exact k1 c o e n
    show tSeq _ _ _ _ (upd H1 p (.ins CP dx [("_base", .int b)]))
    generalize upd H1 p (.ins CP dx [("_base", .int b)]) = H2 at f2 ep2 k2 ⊢
    -- the registers
    obtain ⟨sq1, _, _⟩ := partsD_all PO.regs
    have fz : ∀ {G : Hp} {fs : List (Str × V)}, G p = some (.ins CP dx fs) → ∀ l', G l' = none → ¬ Zu Z0 p l' := fun e l' n m => m.elim id fun m => by rw [m, e] at n; cases n
    refine ⟨_, rfl, Zu Z0 p, v1, d1, rfl, g1.fr f2, sq1, fz ep2, fun vr H3 s3 dr => ?_⟩
    have ep3 := s3 _ _ ep2
    refine ⟨_, rfl, p, CP, dx, _, rfl, ep3, C.cl, C.n2, by show 1 < 1000; decide, ?_⟩
    have f4 : Fm (Zu Z0 p) H3 (upd H3 p (.ins CP dx [("_base", .int b), ("_registers", vr)])) := Fm.at_zu
    have ep4 : (upd H3 p (.ins CP dx [("_base", .int b), ("_registers", vr)])) p = some (.ins CP dx [("_base", .int b), ("_registers", vr)]) := upd_same
    have k4 : Keep p H (upd H3 p (.ins CP dx [("_base", .int b), ("_registers", vr)])) := fun c o e n => by rw [upd_ne n]; exact s3 _ _ (k2 c o e n)
    show tSeq _ _ _ _ (upd H3 p (.ins CP dx [("_base", .int b), ("_registers", vr)]))
    generalize upd H3 p (.ins CP dx [("_base", .int b), ("_registers", vr)]) = H4 at f4 ep4 k4 ⊢
    have f14 : Fm (Zu Z0 p) H1 H4 := (f2.trans (Fm.of s3)).trans f4
    have dr4 := dr.fr f4
    -- the modes
    obtain ⟨sq2, m4, all2⟩ := partsD_all PO.modes
    obtain ⟨l2, xs2, rfl, dx2, ha2, nz2⟩ := (g2.fr f14).seq sq2
    have hl2 := dx2.len
    obtain ⟨o2, ho2, at2⟩ : ∃ o, (o = .lst xs2 ∨ o = .tup xs2) ∧ H4 l2 = some o := ha2.elim (fun h => ⟨_, .inl rfl, h⟩) fun h => ⟨_, .inr rfl, h⟩
    refine ⟨_, rfl, l2, xs2, o2, rfl, ho2, at2, fun J wk D hD => ?_⟩
    refine lc_dat wk (Zu Z0 p) (fun G => G p = some (.ins CP dx [("_base", .int b), ("_registers", vr)])) ((itemsD d2).map normM) (by simp [hl2]) hD (fz ep4 D hD) ep4 (fun G l e n => by rw [upd_ne (fun m => n (.inr m.symm))]; exact e) (by rw [hl2]; exact Nat.lt_of_le_of_lt z2.1 (by decide)) (fun G f => f _ _ at2 nz2) ?_ ?_
    · intro i x dm G0 G Qk ed f iG ne y z
      obtain ⟨rfl, ex⟩ := y
      rw [List.getElem?_map] at ed
      obtain ⟨di, e3, rfl⟩ := Option.map_eq_some_iff.mp ed
      obtain ⟨d', e4, dt⟩ := ((DtAll.off' hD dx2).fr (Fm.zu f)).get ex
      rw [e3] at e4
      cases e4
      obtain ⟨t1, t2, ⟨nm, t3, t4⟩, t5⟩ := modeD_parts (all2 di (List.mem_of_getElem? e3))
      obtain ⟨a, ys, rfl, dy, ha, nza, _⟩ := dt.tupOf t1
      obtain ⟨y0, y1, y2, c0, c1, c2, rfl, eds, w0, w1, w2⟩ := three_dt dy t2
      have q0 : itD di 0 = c0 := by unfold itD; rw [eds]; rfl
      have q1 : itD di 1 = c1 := by unfold itD; rw [eds]; rfl
      have q2 : itD di 2 = c2 := by unfold itD; rw [eds]; rfl
      refine ⟨a, _, rfl, ha, rfl, _, _, rfl, _, _, rfl, _, _, rfl, rfl, rfl, ?_⟩
      have fD : ∀ {G' : Hp}, Same G G' → ∀ l', G' l' = none → ¬ Zu (Zu Z0 p) D l' := fun {G'} s l' n => by
        have nG : G l' = none := by
          cases e : G l' with
          | none => rfl
          | some o => rw [s _ _ e] at n; cases n
        exact zu_ne (fz iG l' nG) (ne l' nG)
      refine ⟨_, rfl, _, rfl, _, rfl, Zu (Zu Z0 p) D, y2, c2, rfl, w2, q2 ▸ t5, fD (Same.refl _), fun u G2 s2 du => ?_⟩
      refine ⟨by show 3 ≤ sizeLine; decide, fun t nt => ?_⟩
      have s3 : Same G2 (upd G2 t (.tup [y0, y1, u])) := Same.new nt
      have s23 := Fm.of (Z := Zu (Zu Z0 p) D) (s2.trans s3)
      refine z _ _ (Fm.of (s2.trans s3)) (s3 _ _ (s2 _ _ iG)) ?_
      unfold normM
      rw [q0, q1, q2]
      exact .tup upd_same (fD s2 t nt) (.cons (w0.fr s23) (.cons (w1.fr s23) (.cons (du.fr (Fm.of s3)) .nil)))
    · intro G5 xs5 f5 iG eD dD
      have kD : ¬ Zu Z0 p D := fz ep4 D hD
      refine ⟨Zu Z0 p, .ref D, .list ((itemsD d2).map normM), rfl, .lst eD kD (dD.mono' fun _ m => .inl m), rfl, fz iG, fun vm H6 s6 dm => ?_⟩
      have ep6 := s6 _ _ iG
      have f46 : Fm (Zu Z0 p) H4 H6 := f5.trans (Fm.of s6)
      have k6 : Keep p H H6 := fun c o e n => f46 c o (k4 c o e n) (fun m => m.elim id n)
      refine ⟨_, rfl, p, CP, dx, _, rfl, ep6, C.cl, C.n3, by show 2 < 1000; decide, ?_⟩
      have ep7 : (upd H6 p (.ins CP dx [("_base", .int b), ("_registers", vr), ("_modes", vm)])) p = some (.ins CP dx [("_base", .int b), ("_registers", vr), ("_modes", vm)]) := upd_same
      have f7 : Fm (Zu Z0 p) H6 (upd H6 p (.ins CP dx [("_base", .int b), ("_registers", vr), ("_modes", vm)])) := Fm.at_zu
      have k7 : Keep p H (upd H6 p (.ins CP dx [("_base", .int b), ("_registers", vr), ("_modes", vm)])) := fun c o e n => by rw [upd_ne n]; exact k6 c o e n
      show tSeq _ _ _ _ (upd H6 p (.ins CP dx [("_base", .int b), ("_registers", vr), ("_modes", vm)]))
      generalize upd H6 p (.ins CP dx [("_base", .int b), ("_registers", vr), ("_modes", vm)]) = H7 at ep7 f7 k7 ⊢
      have f47 := f46.trans f7
      have f17 : Fm (Zu Z0 p) H1 H7 := f14.trans f47
      have dm7 := dm.fr f7
      have sq3 : isSeq d3 = true := by
        have := PO.ends
        unfold endsD at this
        exact (Bool.and_eq_true_iff.mp this).1
      -- the ends, the result
      refine ⟨_, rfl, Zu Z0 p, v3, d3, rfl, g3.fr f17, sq3, fz ep7, fun ve H8 s8 de => ?_⟩
      have ep8 := s8 _ _ ep7
      refine ⟨_, rfl, p, CP, dx, _, rfl, ep8, C.cl, C.n4, by show 3 < 1000; decide, ?_⟩
      refine ⟨_, rfl, _, rfl, p, CP, dx, _, rfl, upd_same, C.cl, C.n5, by show 4 < 1000; decide, ?_⟩
      rw [upd_upd, show putF "_result" v4 (putF "_ends" ve [("_base", .int b), ("_registers", vr), ("_modes", vm)]) = ([("_base", .int b), ("_registers", vr), ("_modes", vm), ("_ends", ve), ("_result", v4)] : List (Str × V)) from rfl]
      have ep9 : (upd H8 p (.ins CP dx [("_base", .int b), ("_registers", vr), ("_modes", vm), ("_ends", ve), ("_result", v4)])) p = some (.ins CP dx [("_base", .int b), ("_registers", vr), ("_modes", vm), ("_ends", ve), ("_result", v4)]) := upd_same
      have f9 : Fm (Zu Z0 p) H8 (upd H8 p (.ins CP dx [("_base", .int b), ("_registers", vr), ("_modes", vm), ("_ends", ve), ("_result", v4)])) := Fm.at_zu
      have k9 : Keep p H (upd H8 p (.ins CP dx [("_base", .int b), ("_registers", vr), ("_modes", vm), ("_ends", ve), ("_result", v4)])) := fun c o e n => by rw [upd_ne n]; exact s8 _ _ (k7 c o e n)
      have k89 : Fm (Zu Z0 p) H7 (upd H8 p (.ins CP dx [("_base", .int b), ("_registers", vr), ("_modes", vm), ("_ends", ve), ("_result", v4)])) := (Fm.of s8).trans f9
      generalize upd H8 p (.ins CP dx [("_base", .int b), ("_registers", vr), ("_modes", vm), ("_ends", ve), ("_result", v4)]) = H9 at ep9 f9 k9 k89 ⊢
      have f49 := f47.trans k89
      have at9 := f49 _ _ at2 nz2
      have dx9 := DtAll.fr' f49 dx2
      refine ⟨_, rfl, l2, xs2, o2, rfl, ho2, at9, fun J2 wk2 D2 hD2 => ?_⟩
      have pD2 : p ≠ D2 := ne_of_none ep9 hD2
      refine dcK_it wk2 (fun i G => Keep D2 H9 G ∧ ∃ kvs : List (L2.Key × V), G D2 = some (.dK kvs) ∧ Paired (fun md (kv : L2.Key × V) => kv.1 = .inr (nmOf md) ∧ ∃ T, kv.2 = .ref T ∧ TabR P w G T (itemsD (itD md 2))) ((itemsD d2).take i) kvs) ⟨fun c o e n => by rw [upd_ne n]; exact e, [], upd_same, .nil⟩ (fun i G z => z.1 _ _ at9 (ne_of_none at9 hD2)) ?_ ?_
      · rintro i x G0 G hi ⟨kG, kvs, eD2, pr⟩ ⟨rfl, ex⟩
        have f9G : Fm (Zu (Zu Z0 p) D2) H9 G := fun c o e n => kG c o e fun m => n (.inr m)
        obtain ⟨di, ei, dt⟩ := ((DtAll.off' hD2 dx9).fr f9G).get ex
        obtain ⟨t1, t2, ⟨nm, t3, t4⟩, t5⟩ := modeD_parts (all2 di (List.mem_of_getElem? ei))
        obtain ⟨a, ys, rfl, dy, ha, nza, _⟩ := dt.tupOf t1
        obtain ⟨y0, y1, y2, c0, c1, c2, rfl, eds, w0, w1, w2⟩ := three_dt dy t2
        have q0 : itD di 0 = c0 := by unfold itD; rw [eds]; rfl
        have q2 : itD di 2 = c2 := by unfold itD; rw [eds]; rfl
        rw [q0] at t3
        subst t3
        cases w0
        obtain ⟨rs, nod⟩ := PO.row (List.mem_of_getElem? ei)
        rw [q2] at rs nod t5
        have zr : Sz 3 c2 := q2 ▸ (z2.2.2 di (List.mem_of_getElem? ei)).item 2
        refine ⟨a, _, rfl, ha, rfl, _, _, rfl, _, _, rfl, _, _, rfl, rfl, rfl, ?_⟩
        unfold tYes
        refine iteT ?_
        refine ⟨_, rfl, _, rfl, y2, c2, rfl, w2.un.un, t5, zr.1, rs, nod, fun G' T sG nT tr => ⟨kvs, (Sum.inr nm : L2.Key), rfl, sG _ _ eD2, ?_, ?_⟩⟩
        · rw [← paired_len pr, List.length_take]
          exact Nat.lt_of_le_of_lt (Nat.le_trans (Nat.min_le_right _ _) z2.1) (by decide)
        · have keys : kvs.map (·.1) = ((itemsD d2).take i).map fun md => (Sum.inr (nmOf md) : L2.Key) := by
            clear sG eD2 tr kG ex hi
            generalize (itemsD d2).take i = ms at pr
            induction pr with
            | nil => rfl
            | cons h _ ih => rw [List.map_cons, List.map_cons, h.1, ih]
          have sp : itemsD d2 = (itemsD d2).take i ++ di :: (itemsD d2).drop (i + 1) := by
            obtain ⟨lt, e⟩ := List.getElem?_eq_some_iff.mp ei
            rw [← e, ← List.drop_eq_getElem_cons lt, List.take_append_drop]
          have nn := PO.names
          rw [sp, List.map_append, List.nodup_append] at nn
          rw [putK_new (by
            rw [keys]
            intro m
            obtain ⟨md, hm, e⟩ := List.mem_map.mp m
            injection e with e
            exact nn.2.2 _ (List.mem_map.mpr ⟨md, hm, e⟩) _ List.mem_cons_self t4.symm)]
          have eD2' := sG _ _ eD2
          have kk : ∀ {o : HO}, Keep D2 G' (upd G' D2 o) := fun {o} c u e n => by rw [upd_ne n]; exact e
          refine ⟨fun c o e n => by rw [upd_ne n]; exact sG _ _ (kG c o e n), _, upd_same, ?_⟩
          rw [List.take_succ, ei]
          exact paired_snoc ⟨by rw [t4], T, rfl, by rw [q2]; exact tr.keepO eD2' odd_dK kk⟩ (L2.Paired.mapP pr fun md kv z => ⟨z.1, by
            obtain ⟨T', e, t⟩ := z.2
            exact ⟨T', e, (t.same sG).keepO eD2' odd_dK kk⟩⟩)
      · rintro G ⟨kG, kvs, eD2, pr⟩
        rw [hl2, List.take_length] at pr
        have epG := kG _ _ ep9 pD2
        refine ⟨_, rfl, p, CP, dx, _, rfl, epG, C.cl, C.n6, by show 5 < 1000; decide, ?_⟩
        have kp : ∀ {o : HO}, Keep p G (upd G p o) := fun {o} c u e n => by rw [upd_ne n]; exact e
        have f9G : Fm (Zu (Zu Z0 p) D2) H9 G := fun c o e n => kG c o e fun m => n (.inr m)
        have up : ∀ {v : V} {d : PyData}, Dt (Zu Z0 p) H9 v d → Dt Z0 (upd G p (.ins CP dx (ProgF b vr vm ve v4 D2))) v d := fun {v d} h => (((h.off hD2).fr f9G).un.un).keepO epG odd_ins kp
        refine q _ (fun c o e n => ?_) ⟨dx, vr, vm, ve, v4, D2, upd_same, up ((dr4.fr f49)), up (dm7.fr k89), up (de.fr f9), up (g4.fr (f17.trans k89)), kvs, kp _ _ eD2 (Ne.symm pD2), L2.Paired.mapP pr fun md kv z => ⟨z.1, by
          obtain ⟨T', e, t⟩ := z.2
          exact ⟨T', e, t.keepO epG odd_ins kp⟩⟩⟩
        rw [upd_ne n]
        exact kG c o (k9 c o e n) (ne_of_none (k9 c o e n) hD2)
end
/-! ### what a program tells of itself -/
section
variable {P : Program} {w : World} {K : PySem.W.Frag} {mg : Str → Option Value} {base : Heap} {aR CP CU : Addr}
/-- a program stands at p, its parts being a program's -/
def ProgOk (P : Program) (w : World) (CP : Addr) (H : Hp) (p : Addr) (b : Int) (d1 d2 d3 d4 : PyData) : Prop := ProgAt P w CP H p b d1 d2 d3 d4 ∧ PartsOk (.int b) d1 d2 d3 d4 ∧ Sz 2 d1 ∧ Sz 5 d2
abbrev s_Program_base : Stmt := inClass (top 40) 1
theorem sc_Program_base : FnScope ["self"] ["self"] (defScope s_Program_base) := ⟨rfl, rfl, rfl, by decide +kernel, rfl, by decide +kernel, by decide +kernel⟩
abbrev s_Program_size : Stmt := inClass (top 40) 2
theorem sc_Program_size : FnScope ["self"] ["self"] (defScope s_Program_size) := ⟨rfl, rfl, rfl, by decide +kernel, rfl, by decide +kernel, by decide +kernel⟩
abbrev s_Program_ends : Stmt := inClass (top 40) 3
theorem sc_Program_ends : FnScope ["self"] ["self"] (defScope s_Program_ends) := ⟨rfl, rfl, rfl, by decide +kernel, rfl, by decide +kernel, by decide +kernel⟩
abbrev s_Program_result : Stmt := inClass (top 40) 4
theorem sc_Program_result : FnScope ["self"] ["self"] (defScope s_Program_result) := ⟨rfl, rfl, rfl, by decide +kernel, rfl, by decide +kernel, by decide +kernel⟩
abbrev s_Program_registers : Stmt := inClass (top 40) 5
theorem sc_Program_registers : FnScope ["self"] ["self"] (defScope s_Program_registers) := ⟨rfl, rfl, rfl, by decide +kernel, rfl, by decide +kernel, by decide +kernel⟩
def spPBase (P : Program) (w : World) (CP : Addr) : Sp := fun vs H Q _ => ∃ p b d1 d2 d3 d4, vs = [.ref p] ∧ ProgAt P w CP H p b d1 d2 d3 d4 ∧ Q (.int b) H
def spPSize (P : Program) (w : World) (CP : Addr) : Sp := fun vs H Q _ => ∃ p b d1 d2 d3 d4, vs = [.ref p] ∧ ProgAt P w CP H p b d1 d2 d3 d4 ∧ Q (.int (if b < 0 then -b else b)) H
def spPEnds (P : Program) (w : World) (CP : Addr) : Sp := fun vs H Q _ => ∃ p b d1 d2 d3 d4, vs = [.ref p] ∧ ProgAt P w CP H p b d1 d2 d3 d4 ∧ ∀ v, Dt Z0 H v (.tuple (itemsD d3)) → Q v H
def spPResult (P : Program) (w : World) (CP : Addr) : Sp := fun vs H Q _ => ∃ p b d1 d2 d3 d4, vs = [.ref p] ∧ ProgAt P w CP H p b d1 d2 d3 d4 ∧ ∀ v, Dt Z0 H v d4 → Q v H
theorem ok_Program_base (h : PFun K CP "base" "Program.base" s_Program_base) (C : PCls K mg CP) : OwnP P w K mg base CP 1 "base" (spPBase P w CP) := by
  obtain ⟨pa, g, fd, hp, F, b⟩ := h
  refine ⟨pa, g, fd, hp, b, F.okX sc_Program_base (fun vs H Q E h => ?_) (fun cdv A outer s H vs Q E hr h => ?_)⟩
  · obtain ⟨p, b1, d1, d2, d3, d4, rfl, _⟩ := h
    rfl
  · obtain ⟨p, b1, d1, d2, d3, d4, rfl, ⟨dx, vr, vm, ve, va, vt, e, a1, a2, a3, a4, a5⟩, q⟩ := h
    exact ⟨_, pss_one (ps_ret (pe_fld (pv 0) rfl)), _, rfl, p, CP, dx, _, _, rfl, e, C.cl, C.n1, rfl, q⟩
theorem ok_Program_size (h : PFun K CP "size" "Program.size" s_Program_size) (C : PCls K mg CP) (PT : PTx K mg aR) : OwnP P w K mg base CP 1 "size" (spPSize P w CP) := by
  obtain ⟨pa, g, fd, hp, F, b⟩ := h
  have T := PT.T
  refine ⟨pa, g, fd, hp, b, F.okX sc_Program_size (fun vs H Q E h => ?_) (fun cdv A outer s H vs Q E hr h => ?_)⟩
  · obtain ⟨p, b1, d1, d2, d3, d4, rfl, _⟩ := h
    rfl
  · obtain ⟨p, b1, d1, d2, d3, d4, rfl, ⟨dx, vr, vm, ve, va, vt, e, a1, a2, a3, a4, a5⟩, q⟩ := h
    exact ⟨_, pss_one (ps_ret (pe_callB call_abs (by rfl) T.abs bb_abs (pa_cons (pe_fld (pv 0) rfl) pa_nil))), _, rfl, p, CP, dx, _, _, rfl, e, C.cl, C.n1, rfl, _, rfl, q⟩
theorem ok_Program_ends (h : PFun K CP "ends" "Program.ends" s_Program_ends) (C : PCls K mg CP) : OwnP P w K mg base CP 1 "ends" (spPEnds P w CP) := by
  obtain ⟨pa, g, fd, hp, F, b⟩ := h
  refine ⟨pa, g, fd, hp, b, F.okX sc_Program_ends (fun vs H Q E h => ?_) (fun cdv A outer s H vs Q E hr h => ?_)⟩
  · obtain ⟨p, b1, d1, d2, d3, d4, rfl, _⟩ := h
    rfl
  · obtain ⟨p, b1, d1, d2, d3, d4, rfl, ⟨dx, vr, vm, ve, va, vt, e, a1, a2, a3, a4, a5⟩, q⟩ := h
    exact ⟨_, pss_one (ps_ret (pe_fld (pv 0) rfl)), _, rfl, p, CP, dx, _, _, rfl, e, C.cl, C.n4, rfl, q _ a3⟩
theorem ok_Program_result (h : PFun K CP "result" "Program.result" s_Program_result) (C : PCls K mg CP) : OwnP P w K mg base CP 1 "result" (spPResult P w CP) := by
  obtain ⟨pa, g, fd, hp, F, b⟩ := h
  refine ⟨pa, g, fd, hp, b, F.okX sc_Program_result (fun vs H Q E h => ?_) (fun cdv A outer s H vs Q E hr h => ?_)⟩
  · obtain ⟨p, b1, d1, d2, d3, d4, rfl, _⟩ := h
    rfl
  · obtain ⟨p, b1, d1, d2, d3, d4, rfl, ⟨dx, vr, vm, ve, va, vt, e, a1, a2, a3, a4, a5⟩, q⟩ := h
    exact ⟨_, pss_one (ps_ret (pe_fld (pv 0) rfl)), _, rfl, p, CP, dx, _, _, rfl, e, C.cl, C.n5, rfl, q _ a4⟩
/-- list of a tracked sequence: a new list of its items -/
theorem listS {X : Cx} : CallR X (.type "list") (fun xs H Q => ∃ (v : V) (d : PyData), xs = [v] ∧ Dt Z0 H v d ∧ isSeq d = true ∧ ∀ u H', Same H H' → H u = none → Dt Z0 H' (.ref u) (.list (itemsD d)) → Q (.ref u) H') := by
  intro pins s σ H xs us Q I r z
  obtain ⟨v, d, rfl, hd, sq, q⟩ := z
  obtain ⟨l, ys, rfl, dy, ha, nz⟩ := hd.seq sq
  exact listT pins s σ H _ us Q I r ⟨l, ys, rfl, ha, fun l' n => q _ _ (Same.new n) n (.lst upd_same id (dy.fr (Fm.of (Same.new n))))⟩
def spPRegs (P : Program) (w : World) (CP : Addr) : Sp := fun vs H Q _ => ∃ p b d1 d2 d3 d4, vs = [.ref p] ∧ ProgAt P w CP H p b d1 d2 d3 d4 ∧ ∀ u H', Same H H' → H u = none → Dt Z0 H' (.ref u) (.list (itemsD d1)) → Q (.ref u) H'
theorem ok_Program_registers {f : Addr} {fd : FuncData} (F : Fun K "registers" "Program.registers" s_Program_registers f fd) (C : PCls K mg CP) (PT : PTx K mg aR) : FnOk P w K mg base (L2.CX P w) 1 f fd ["self"] (spPRegs P w CP) := by
  have T := PT.T
  refine F.okX sc_Program_registers (fun vs H Q E h => ?_) (fun cdv A outer s H vs Q E hr h => ?_)
  · obtain ⟨p, b1, d1, d2, d3, d4, rfl, _⟩ := h
    rfl
  · obtain ⟨p, b1, d1, d2, d3, d4, rfl, ⟨dx, vr, vm, ve, va, vt, e, a1, a2, a3, a4, a5⟩, q⟩ := h
    exact ⟨_, pss_one (ps_ret (pe_callTy listS (by rfl) T.list bb_list (pa_cons (pe_fld (pv 0) rfl) pa_nil))), _, rfl, p, CP, dx, _, _, rfl, e, C.cl, C.n2, rfl, vr, _, rfl, a1, rfl, q⟩
abbrev s_Program__mode : Stmt := inClass (top 40) 9
abbrev N_Program__mode : List Str := ["self", "mode", "told"]
theorem sc_Program__mode : FnScope N_Program__mode ["self", "mode"] (defScope s_Program__mode) := ⟨rfl, rfl, rfl, by decide +kernel, rfl, by decide +kernel, by decide +kernel⟩
def modeOf (ms : List PyData) (s : Str) : Option PyData := ms.find? fun md => decide (nmOf md = s)
def spPMode (P : Program) (w : World) (CP CU : Addr) : Sp := fun vs H Q E => ∃ p v dv b d1 d2 d3 d4, vs = [.ref p, v] ∧ Dt Z0 H v dv ∧ ProgOk P w CP H p b d1 d2 d3 d4 ∧ (∀ s md, dv = .str s → modeOf (itemsD d2) s = some md → ∀ u, Dt Z0 H u (normM md) → Q u H) ∧
  ((∀ s, dv = .str s → modeOf (itemsD d2) s = none) → EX1 CU "value" v E H)
theorem ok_Program__mode {f : Addr} {fd : FuncData} (F : Fun K "_mode" "Program._mode" s_Program__mode f fd) (C : PCls K mg CP) (PT : PTx K mg aR) (XU : XRz P w K mg base "UnknownName" CU 1 (sp1n "value" CU)) : FnOk P w K mg base (L2.CX P w) 3 f fd ["self", "mode"] (spPMode P w CP CU) := by
  have T := PT.T
  refine F.okX sc_Program__mode (fun vs H Q E h => ?_) (fun cdv A outer s H vs Q E hr h => ?_)
  · obtain ⟨p, v, dv, b1, d1, d2, d3, d4, rfl, _⟩ := h
    rfl
  · obtain ⟨p, v, dv, b1, d1, d2, d3, d4, rfl, hv, ⟨⟨dx, vr, vm, ve, va, vt, e, a1, a2, a3, a4, a5⟩, PO, z1, z2⟩, q, qe⟩ := h
    refine ⟨_, (pss_cons (ps_if (pt_val (pe_callB call_isi (by rfl) T.isinstance bb_isinstance (pa_cons (pv 1) (pa_cons (pe_bltn (v := .ty "str") (by rfl) T.str bb_str rfl) pa_nil))))
        (pss_one (ps_for (passes_of rfl) rfl (pi_seq (pe_fld (pv 0) rfl)) (pg_name (i := 2) sc_Program__mode.nd rfl (.inl rfl))
          (pss_one (ps_if (pt_cmpR op_eq (pe_ix ixt (pv 2) pe_int (fun _ _ => rfl)) (pv 1) (nomark _))
            (pss_one (ps_ret (pv 2)))
            pss_nil))))
        pss_nil)
      (pss_one (ps_raiseN XU (hr.mono (by decide)) rfl (takes_of rfl rfl rfl rfl) rfl (pa_cons (pv 1) pa_nil)))), ?_⟩
    refine ⟨_, rfl, _, _, _, _, _, rfl, .ty _, hv.ty, hv.kStr, _, rfl, ?_⟩
    cases hv with
    | str x =>
      refine iteT ?_
      obtain ⟨sq2, m4, all2⟩ := partsD_all PO.modes
      cases a2 with
      | tup em nm dm =>
        refine ⟨_, rfl, p, CP, dx, _, _, rfl, e, C.cl, C.n3, rfl, _, _, _, rfl, .inr rfl, em, fun J wk => for_it wk (fun i σ H' => H' = H ∧ modeOf (itemsD d2) x = modeOf ((itemsD d2).drop i) x ∧ ∃ w2 : Option V, σ = [some (.ref p), some (.str x), w2]) ⟨rfl, rfl, none, rfl⟩ (fun i σ H' _ z => by rw [z.1]; exact em) ?_ ?_⟩
        · rintro i y σ H1 H2 hi ⟨rfl, eq1, w2, rfl⟩ ⟨rfl, ex⟩
          obtain ⟨di, ei, dt⟩ := dm.get ex
          have ei : ((itemsD d2).map normM)[i]? = some di := ei
          rw [List.getElem?_map] at ei
          obtain ⟨md, e3, rfl⟩ := Option.map_eq_some_iff.mp ei
          obtain ⟨t1, t2, ⟨nm1, t3, t4⟩, t5⟩ := modeD_parts (all2 md (List.mem_of_getElem? e3))
          obtain ⟨a, ys, rfl, dy, ha, nza, _⟩ := dt.tupOf rfl
          obtain ⟨y0, y1, y2, c0, c1, c2, rfl, eds, w0, w1, w2'⟩ := three_dt dy rfl
          have eds : [itD md 0, itD md 1, PyData.tuple (itemsD (itD md 2))] = [c0, c1, c2] := eds
          injection eds with q0 eds
          rw [t3] at q0
          subst q0
          cases w0
          have more : (itemsD d2).drop i = md :: (itemsD d2).drop (i + 1) := by
            obtain ⟨lt, e⟩ := List.getElem?_eq_some_iff.mp e3
            rw [List.drop_eq_getElem_cons lt, e]
          rw [more] at eq1
          have st : modeOf (md :: (itemsD d2).drop (i + 1)) x = if nm1 = x then some md else modeOf ((itemsD d2).drop (i + 1)) x := by
            unfold modeOf
            rw [List.find?_cons, t4]
            by_cases c : nm1 = x
            · rw [decide_eq_true c, if_pos c]
            · rw [decide_eq_false c, if_neg c]
          rw [st] at eq1
          refine ⟨_, rfl, a, _, 0, _, rfl, rfl, ha, atI0, _, rfl, rfl, _, rfl, ?_⟩
          by_cases c : nm1 = x
          · rw [if_pos c] at eq1
            exact iteP (decide_eq_true (by rw [c])) ⟨_, rfl, q x md rfl eq1 _ dt⟩
          · rw [if_neg c] at eq1
            exact iteN (sne c) ⟨rfl, eq1, _, rfl⟩
        · rintro σ H1 ⟨rfl, eq1, w2, rfl⟩
          have ln := dm.len
          rw [ln, List.length_map, List.drop_of_length_le (Nat.le_refl _)] at eq1
          refine ⟨_, rfl, rfl, by show 1 ≤ 1000; decide, flies1 (EX1.now (qe fun s z => ?_))⟩
          cases z
          exact eq1
    | _ => exact iteF ⟨_, rfl, rfl, by show 1 ≤ 1000; decide, flies1 (EX1.now (qe fun s z => by cases z))⟩
end
/-! ### rule_of, rows_of, modes -/
section
variable {P : Program} {w : World} {K : PySem.W.Frag} {mg : Str → Option Value} {base : Heap} {aR CP CU : Addr}
abbrev s_Program_modes : Stmt := inClass (top 40) 6
abbrev N_Program_modes : List Str := ["self", "name", "_"]
theorem sc_Program_modes : FnScope N_Program_modes ["self"] (defScope s_Program_modes) := ⟨rfl, rfl, rfl, by decide +kernel, rfl, by decide +kernel, by decide +kernel⟩
abbrev s_Program_rule_of : Stmt := inClass (top 40) 7
theorem sc_Program_rule_of : FnScope ["self", "mode"] ["self", "mode"] (defScope s_Program_rule_of) := ⟨rfl, rfl, rfl, by decide +kernel, rfl, by decide +kernel, by decide +kernel⟩
abbrev s_Program_rows_of : Stmt := inClass (top 40) 8
theorem sc_Program_rows_of : FnScope ["self", "mode"] ["self", "mode"] (defScope s_Program_rows_of) := ⟨rfl, rfl, rfl, by decide +kernel, rfl, by decide +kernel, by decide +kernel⟩
def spPRuleOf (P : Program) (w : World) (CP CU : Addr) : Sp := fun vs H Q E => ∃ p v dv b d1 d2 d3 d4, vs = [.ref p, v] ∧ Dt Z0 H v dv ∧ ProgOk P w CP H p b d1 d2 d3 d4 ∧ (∀ s md, dv = .str s → modeOf (itemsD d2) s = some md → ∀ u, Dt Z0 H u (itD md 1) → Q u H) ∧
  ((∀ s, dv = .str s → modeOf (itemsD d2) s = none) → EX1 CU "value" v E H)
def spPRowsOf (P : Program) (w : World) (CP CU : Addr) : Sp := fun vs H Q E => ∃ p v dv b d1 d2 d3 d4, vs = [.ref p, v] ∧ Dt Z0 H v dv ∧ ProgOk P w CP H p b d1 d2 d3 d4 ∧ (∀ s md, dv = .str s → modeOf (itemsD d2) s = some md → ∀ u H', Same H H' → H u = none → Dt Z0 H' (.ref u) (.list (itemsD (itD md 2))) → Q (.ref u) H') ∧
  ((∀ s, dv = .str s → modeOf (itemsD d2) s = none) → EX1 CU "value" v E H)
theorem Dt.three {H : Hp} {u : V} {a b c : PyData} (h : Dt Z0 H u (.tuple [a, b, c])) : ∃ p x y z, u = .ref p ∧ H p = some (.tup [x, y, z]) ∧ Dt Z0 H x a ∧ Dt Z0 H y b ∧ Dt Z0 H z c := by
  obtain ⟨p, xs, rfl, dx, hp, _, _⟩ := h.tupOf rfl
  obtain ⟨x, y, z, d, e, f, rfl, eds, h1, h2, h3⟩ := three_dt dx rfl
  cases eds
  exact ⟨p, x, y, z, rfl, hp, h1, h2, h3⟩
theorem atI2 {α : Type} {x y z : α} {xs : List α} : atI (x :: y :: z :: xs) 2 = some z := atI_nat (j := 2) rfl
theorem ok_Program_rule_of {f : Addr} {fd : FuncData} (F : Fun K "rule_of" "Program.rule_of" s_Program_rule_of f fd) (C : PCls K mg CP) (mM : OwnMeth P w K mg base CP 3 "_mode" ["self", "mode"] (spPMode P w CP CU)) : FnOk P w K mg base (L2.CX P w) 4 f fd ["self", "mode"] (spPRuleOf P w CP CU) := by
  refine F.okX sc_Program_rule_of (fun vs H Q E h => ?_) (fun cdv A outer s H vs Q E hr h => ?_)
  · obtain ⟨p, v, dv, b1, d1, d2, d3, d4, rfl, _⟩ := h
    rfl
  · obtain ⟨p, v, dv, b1, d1, d2, d3, d4, rfl, hv, PO, q, qe⟩ := h
    obtain ⟨dx, vr, vm, ve, va, vt, e, _⟩ := id PO.1
    refine ⟨_, pss_one (ps_ret (pe_ix ixt (pe_methO (pv 0) C.cl mM (hr.mono (by decide)) (passes_call (takes_of rfl rfl rfl rfl) (fun _ _ _ _ z => z)) (pa_cons (pv 1) pa_nil)) pe_int (fun _ _ => rfl))), ?_⟩
    refine ⟨_, rfl, p, dx, _, rfl, e, rfl, _, rfl, p, v, dv, b1, d1, d2, d3, d4, rfl, hv, PO, fun s md es em u hu => ?_, qe⟩
    obtain ⟨a, x, y, z, rfl, ha, g0, g1, g2⟩ := hu.three
    exact ⟨a, _, 1, _, rfl, rfl, ha, atI1, q s md es em _ g1⟩
theorem ok_Program_rows_of {f : Addr} {fd : FuncData} (F : Fun K "rows_of" "Program.rows_of" s_Program_rows_of f fd) (C : PCls K mg CP) (PT : PTx K mg aR) (mM : OwnMeth P w K mg base CP 3 "_mode" ["self", "mode"] (spPMode P w CP CU)) : FnOk P w K mg base (L2.CX P w) 4 f fd ["self", "mode"] (spPRowsOf P w CP CU) := by
  have T := PT.T
  refine F.okX sc_Program_rows_of (fun vs H Q E h => ?_) (fun cdv A outer s H vs Q E hr h => ?_)
  · obtain ⟨p, v, dv, b1, d1, d2, d3, d4, rfl, _⟩ := h
    rfl
  · obtain ⟨p, v, dv, b1, d1, d2, d3, d4, rfl, hv, PO, q, qe⟩ := h
    obtain ⟨dx, vr, vm, ve, va, vt, e, _⟩ := id PO.1
    refine ⟨_, pss_one (ps_ret (pe_callTy listS (by rfl) T.list bb_list (pa_cons (pe_ix ixt (pe_methO (pv 0) C.cl mM (hr.mono (by decide)) (passes_call (takes_of rfl rfl rfl rfl) (fun _ _ _ _ z => z)) (pa_cons (pv 1) pa_nil)) pe_int (fun _ _ => rfl)) pa_nil))), ?_⟩
    refine ⟨_, rfl, p, dx, _, rfl, e, rfl, _, rfl, p, v, dv, b1, d1, d2, d3, d4, rfl, hv, PO, fun s md es em u hu => ?_, qe⟩
    obtain ⟨a, x, y, z, rfl, ha, g0, g1, g2⟩ := hu.three
    exact ⟨a, _, 2, _, rfl, rfl, ha, atI2, z, _, rfl, g2, rfl, q s md es em⟩
def spPModes (P : Program) (w : World) (CP : Addr) : Sp := fun vs H Q _ => ∃ p b d1 d2 d3 d4, vs = [.ref p] ∧ ProgOk P w CP H p b d1 d2 d3 d4 ∧ ∀ u H', Same H H' → H u = none → H' u = some (.lst (((itemsD d2).map nmOf).map V.str)) → Q (.ref u) H'
theorem ok_Program_modes {f : Addr} {fd : FuncData} (F : Fun K "modes" "Program.modes" s_Program_modes f fd) (C : PCls K mg CP) : FnOk P w K mg base (L2.CX P w) 1 f fd ["self"] (spPModes P w CP) := by
  refine F.okX sc_Program_modes (fun vs H Q E h => ?_) (fun cdv A outer s H vs Q E hr h => ?_)
  · obtain ⟨p, b1, d1, d2, d3, d4, rfl, _⟩ := h
    rfl
  · obtain ⟨p, b1, d1, d2, d3, d4, rfl, ⟨⟨dx, vr, vm, ve, va, vt, e, a1, a2, a3, a4, a5⟩, PO, z1, z2⟩, q⟩ := h
    refine ⟨_, pss_one (ps_ret (pe_lc (own := [("name", 1), ("_", 2)]) (g := gTupT 3 (gCons (gName 1) (gCons (gName 2) (gCons (gName 2) gNil)))) (tt := tYes) rfl sc_Program_modes.nd (pi_seq (pe_fld (pv 0) rfl)) (blkOk_by (N := N_Program_modes) (sc := defScope s_Program_modes) (by decide +kernel)) (fun _ _ _ _ _ => (pgT (n := 3) (by rfl) (pgs_cons (pg_name (i := 1) sc_Program_modes.nd rfl (by first | exact Or.inl rfl | exact Or.inr rfl)) (pgs_cons (pg_name (i := 2) sc_Program_modes.nd rfl (by first | exact Or.inl rfl | exact Or.inr rfl)) (pgs_cons (pg_name (i := 2) sc_Program_modes.nd rfl (by first | exact Or.inl rfl | exact Or.inr rfl)) pgs_nil))))) (fun _ _ _ _ _ => pts_nil) (fun _ _ _ _ _ => (pv 1)))), ?_⟩
    obtain ⟨sq2, m4, all2⟩ := partsD_all PO.modes
    cases a2 with
    | tup em nm dm =>
      rename_i xs
      have ln : xs.length = (itemsD d2).length := by
        have := dm.len
        rw [List.length_map] at this
        exact this
      refine ⟨_, rfl, p, CP, dx, _, _, rfl, e, C.cl, C.n3, rfl, _, _, _, rfl, .inr rfl, em, fun J wk D hD => ?_⟩
      refine lc_vals wk Z0 (fun _ => True) (((itemsD d2).map nmOf).map V.str) (by simp [ln]) hD id True.intro (fun _ _ _ _ => True.intro) (by rw [ln]; exact Nat.lt_of_le_of_lt z2.1 (by decide)) (fun H f => f _ _ em id) ?_ ?_
      · intro i y k H4 H5 Qk ek f _ _ yy z
        obtain ⟨rfl, ex⟩ := yy
        obtain ⟨di, ei, dt⟩ := dm.get ex
        rw [List.getElem?_map] at ei
        obtain ⟨md, e3, rfl⟩ := Option.map_eq_some_iff.mp ei
        obtain ⟨t1, t2, ⟨nm1, t3, t4⟩, t5⟩ := modeD_parts (all2 md (List.mem_of_getElem? e3))
        obtain ⟨a, x, y', z', rfl, ha, g0, g1, g2⟩ := (dt.fr f).three
        rw [t3] at g0
        cases g0
        rw [List.map_map, List.getElem?_map, e3] at ek
        have ek : some (V.str (nmOf md)) = some k := ek
        cases ek
        refine ⟨a, _, rfl, ha, rfl, _, _, rfl, _, _, rfl, _, _, rfl, rfl, rfl, ?_⟩
        rw [t4] at z
        exact ⟨_, rfl, z _ Fm.refl True.intro⟩
      · intro H4 f _ hD4
        exact q D H4 f.same hD hD4
end
/-! ### a program's row -/
section
theorem ixDK {X : Cx} (un : X.A.units + 64 < cLine) : IxR X (fun x y H Q => ∃ a kvs z v, x = .ref a ∧ y = .str z ∧ H a = some (.dK kvs) ∧ valV kvs (Sum.inr z : L2.Key) = some v ∧ Q v H) := by
  intro value slice pins s σ H x y v u Q I rx ry h hs
  obtain ⟨a, kvs, z, r, rfl, rfl, e, ev, q⟩ := h
  cases rx
  have g : DGet H a (.str z) (some r) := by
    have := DGet.k (k := (Sum.inr z : L2.Key)) e
    rw [ev] at this
    exact this
  exact PyProof.Rows.tail_any (dict_typeIs I g) PySem.F.slot_dict_getitem.lookup (d_getItem (by omega) I g ry fun w' s' I' r' => ⟨r, H, I', r', q⟩) hs
def rowAt (rs : List PyData) (k : List Leaf) : Option PyData := rs.find? fun r => decide (keyL r = k)
def rowFor (rs : List PyData) (i j : Int) : Option PyData := (rowAt rs [.num i, .num j]).or ((rowAt rs [.none, .num j]).or ((rowAt rs [.num i, .none]).or (rowAt rs [.none, .none])))
theorem val_row {H : Hp} {Z : Addr → Prop} {k : List Leaf} : ∀ {rs : List PyData} {kbs : Ents}, Paired (entOk Z H) rs kbs → match rowAt rs k with
    | some r => ∃ v, valT kbs k = some v ∧ Dt Z H v (valD r)
    | none => valT kbs k = none
  | _, _, .nil => rfl
  | r :: rs, x :: kbs, .cons h t => by
    have ih := val_row (k := k) t
    unfold rowAt valT at ih ⊢
    rw [List.find?_cons, List.find?_cons, h.1]
    by_cases c : keyL r = k
    · rw [decide_eq_true c]
      exact ⟨_, rfl, h.2⟩
    · rw [decide_eq_false c]
      exact ih
theorem wrongRow_none {size : Int} {many : Nat} {zs : List Str} : ∀ {ds ks : List PyData} {i : Nat}, wrongRow size many zs ds ks i = none → keyIn (.tuple [.none, .none]) (ks ++ ds.map keyD) = true
  | [], ks, _, e => by
    rw [wrongRow] at e
    split at e
    · simpa using ‹keyIn _ ks = true›
    · cases e
  | d :: ds, ks, i, e => by
    rw [wrongRow] at e
    split at e
    · cases e
    · have z := wrongRow_none e
      simpa using z
theorem eqv_non {d : PyData} (n : NI d) (h : PyData.eqv d .none = true) : leafD d = .none := by
  rcases n with rfl | ⟨i, rfl⟩
  · rfl
  · simp [PyData.eqv] at h
theorem row_last {size : Int} {many : Nat} {zs : List Str} {ds : List PyData} (e : wrongRow size many zs ds [] 0 = none) : ∃ r, rowAt ds [.none, .none] = some r := by
  have z := wrongRow_none e
  rw [List.nil_append] at z
  obtain ⟨k, hk, ek⟩ := List.any_eq_true.mp z
  obtain ⟨d, hd, rfl⟩ := List.mem_map.mp hk
  obtain ⟨_, _, n0, n1⟩ := rowD_NI ((wrongRow_rows e).1 d hd)
  have both : PyData.eqv (itD d 0) .none = true ∧ PyData.eqv (itD d 1) .none = true := by
    unfold keyD at ek
    simpa [PyData.eqv, PyData.eqvAll] using ek
  cases c : rowAt ds [.none, .none] with
  | some r => exact ⟨r, rfl⟩
  | none =>
    refine absurd (List.find?_eq_none.mp c d hd) ?_
    rw [Classical.not_not]
    refine decide_eq_true ?_
    unfold keyL
    rw [eqv_non n0 both.1, eqv_non n1 both.2]
end
/-! ### Program.__getitem__ -/
section
variable {P : Program} {w : World} {K : PySem.W.Frag} {mg : Str → Option Value} {base : Heap} {aR CP CU CS CN : Addr}
abbrev s_Program___getitem__ : Stmt := inClass (top 40) 10
abbrev N_Program___getitem__ : List Str := ["self", "at", "mode", "sign", "remainder", "name", "table", "key"]
theorem sc_Program___getitem__ : FnScope N_Program___getitem__ ["self", "at"] (defScope s_Program___getitem__) := ⟨rfl, rfl, rfl, by decide +kernel, rfl, by decide +kernel, by decide +kernel⟩
def spPGet (P : Program) (w : World) (CP CU CS CN : Addr) : Sp := fun vs H Q E => ∃ p t v0 v1 v2 e0 e1 e2 b d1 d2 d3 d4, vs = [.ref p, .ref t] ∧ H t = some (.tup [v0, v1, v2]) ∧ Dt Z0 H v0 e0 ∧ Dt Z0 H v1 e1 ∧ Dt Z0 H v2 e2 ∧ ProgOk P w CP H p b d1 d2 d3 d4 ∧
  (∀ s md i j row, e0 = .str s → modeOf (itemsD d2) s = some md → e1 = .int i → e2 = .int j → rowFor (itemsD (itD md 2)) i j = some row → ∀ u H', Same H H' → Dt Z0 H' u (valD row) → Q u H') ∧
  ((∀ s, e0 = .str s → modeOf (itemsD d2) s = none) → EX1 CU "value" v0 E H) ∧ (betw e1 (-1) 1 = false → EX1 CS "value" v1 E H) ∧ (remD e2 (if b < 0 then -b else b) = false → EX1 CN "value" v2 E H)
theorem ProgAt.same {H H' : Hp} {p : Addr} {b : Int} {d1 d2 d3 d4 : PyData} (h : ProgAt P w CP H p b d1 d2 d3 d4) (s : Same H H') : ProgAt P w CP H' p b d1 d2 d3 d4 := by
  obtain ⟨dx, vr, vm, ve, va, vt, e, a1, a2, a3, a4, kvs, k1, k2⟩ := h
  exact ⟨dx, vr, vm, ve, va, vt, s _ _ e, a1.fr (Fm.of s), a2.fr (Fm.of s), a3.fr (Fm.of s), a4.fr (Fm.of s), kvs, s _ _ k1, L2.Paired.mapP k2 fun md kv z => ⟨z.1, by
    obtain ⟨D, e, t⟩ := z.2
    exact ⟨D, e, t.same s⟩⟩⟩
theorem tabs_of {H : Hp} {x : Str} {md : PyData} : ∀ {ms : List PyData} {kvs : List (L2.Key × V)}, Paired (fun md (kv : L2.Key × V) => kv.1 = .inr (nmOf md) ∧ ∃ D, kv.2 = .ref D ∧ TabR P w H D (itemsD (itD md 2))) ms kvs → modeOf ms x = some md → ∃ D, valV kvs (Sum.inr x : L2.Key) = some (.ref D) ∧ TabR P w H D (itemsD (itD md 2))
  | _, _, .nil, e => by cases e
  | m :: ms, kv :: kvs, .cons h t, e => by
    unfold modeOf at e
    rw [List.find?_cons] at e
    by_cases c : nmOf m = x
    · rw [decide_eq_true c] at e
      cases e
      obtain ⟨h1, D, h2, h3⟩ := h
      exact ⟨D, by rw [valV_pos (by rw [h1, c]), h2], h3⟩
    · rw [decide_eq_false c] at e
      obtain ⟨D, a, b⟩ := tabs_of t e
      refine ⟨D, ?_, b⟩
      rw [valV_neg (by rw [h.1]; exact fun m => c (by injection m))]
      exact a
theorem ok_Program_getitem {f : Addr} {fd : FuncData} (F : Fun K "__getitem__" "Program.__getitem__" s_Program___getitem__ f fd) (C : PCls K mg CP) (mM : OwnMeth P w K mg base CP 3 "_mode" ["self", "mode"] (spPMode P w CP CU)) (pS : OwnP P w K mg base CP 1 "size" (spPSize P w CP))
    (O_is_between : Ok P w K mg base 2 "is_between" ["value", "low", "high"] spBetw) (O_is_remainder : Ok P w K mg base 3 "is_remainder" ["value", "size"] spRemD) (XS : XRz P w K mg base "InvalidSign" CS 1 (sp1n "value" CS)) (XN : XRz P w K mg base "InvalidNumber" CN 1 (sp1n "value" CN)) :
    FnOk P w K mg base (L2.CX P w) 4 f fd ["self", "at"] (spPGet P w CP CU CS CN) := by
  refine F.okX sc_Program___getitem__ (fun vs H Q E h => ?_) (fun cdv A outer s H vs Q E hr h => ?_)
  · obtain ⟨p, t, v0, v1, v2, e0, e1, e2, b, d1, d2, d3, d4, rfl, _⟩ := h
    rfl
  · obtain ⟨p, t, v0, v1, v2, e0, e1, e2, b, d1, d2, d3, d4, rfl, ht, h0, h1, h2, PO, q, qu, qs, qn⟩ := h
    obtain ⟨dx, vr, vm, ve, va, vt, e, a1, a2, a3, a4, kvs, at_k, pr⟩ := id PO.1
    have pE : Passes (L2.CX P w) (cxOf (L2.CX P w) P w K mg base N_Program___getitem__ "Program.__getitem__" (defScope s_Program___getitem__) f cdv A outer s H E) E := passes_call (takes_of rfl rfl rfl rfl) (fun _ _ _ _ z => z)
    refine ⟨_, (pss_cons (ps_asg (pv 1) (pgT (n := 3) (by rfl) (pgs_cons (pg_name (i := 2) sc_Program___getitem__.nd rfl (.inl rfl)) (pgs_cons (pg_name (i := 3) sc_Program___getitem__.nd rfl (.inl rfl)) (pgs_cons (pg_name (i := 4) sc_Program___getitem__.nd rfl (.inl rfl)) pgs_nil)))))
      (pss_cons (ps_set (i := 5) sc_Program___getitem__.nd rfl (.inl rfl) (pe_ix ixt (pe_methO (pv 0) C.cl mM (hr.mono (by decide)) pE (pa_cons (pv 2) pa_nil)) pe_int (fun _ _ => rfl)))
      (pss_cons (ps_if (pt_not (pt_val (pe_cO O_is_between (hr.mono (by decide)) pass0 rfl (pa_cons (pv 3) (pa_cons (pe_un un_neg pe_int) (pa_cons pe_int pa_nil))))))
        (pss_one (ps_raiseN XS (hr.mono (by decide)) rfl (takes_of rfl rfl rfl rfl) rfl (pa_cons (pv 3) pa_nil)))
        pss_nil)
      (pss_cons (ps_if (pt_not (pt_val (pe_cO O_is_remainder (hr.mono (by decide)) pass0 rfl (pa_cons (pv 4) (pa_cons (pe_propO (pv 0) C.cl pS (hr.mono (by decide)) passL) pa_nil)))))
        (pss_one (ps_raiseN XN (hr.mono (by decide)) rfl (takes_of rfl rfl rfl rfl) rfl (pa_cons (pv 4) pa_nil)))
        pss_nil)
      (pss_cons (ps_set (i := 6) sc_Program___getitem__.nd rfl (.inl rfl) (pe_ix (ixDK hr.units) (pe_fld (pv 0) rfl) (pv 5) (fun _ _ => rfl)))
      (pss_cons (ps_for (passes_of rfl) rfl (pi_seq (pe_tup (pa_cons (pe_tup (pa_cons (pv 3) (pa_cons (pv 4) pa_nil))) (pa_cons (pe_tup (pa_cons pe_non (pa_cons (pv 4) pa_nil))) (pa_cons (pe_tup (pa_cons (pv 3) (pa_cons pe_non pa_nil))) pa_nil))))) (pg_name (i := 7) sc_Program___getitem__.nd rfl (.inl rfl))
        (pss_one (ps_if (pt_cmpR (op_inTab hr.units) (pv 7) (pv 6) (by rfl))
          (pss_one (ps_ret (pe_ix (ixTab hr.units) (pv 6) (pv 7) (fun _ _ => rfl))))
          pss_nil)))
      (pss_one (ps_ret (pe_ix (ixTab hr.units) (pv 6) (pe_tup (pa_cons pe_non (pa_cons pe_non pa_nil))) (fun _ _ => rfl)))))))))), ?_⟩
    refine ⟨_, rfl, t, _, rfl, ht, rfl, _, _, rfl, _, _, rfl, _, _, rfl, rfl, ?_⟩
    refine ⟨_, rfl, p, dx, _, rfl, e, rfl, _, rfl, p, v0, e0, b, d1, d2, d3, d4, rfl, h0, PO, fun s md es em u hu => ?_, qu⟩
    subst es
    obtain ⟨a, x, y, z, rfl, ha, g0, g1, g2⟩ := hu.three
    obtain ⟨sq2, m4, all2⟩ := partsD_all PO.2.1.modes
    have mem : md ∈ itemsD d2 := List.mem_of_find?_eq_some em
    have nme : nmOf md = s := by
      have em2 : (itemsD d2).find? (fun md => decide (nmOf md = s)) = some md := em
      exact of_decide_eq_true (List.find?_some (p := fun md => decide (nmOf md = s)) em2)
    obtain ⟨t1, t2, ⟨nm1, t3, t4⟩, t5⟩ := modeD_parts (all2 md mem)
    rw [t3] at g0
    cases g0
    obtain rfl : nm1 = s := t4.symm.trans nme
    refine ⟨a, _, 0, _, rfl, rfl, ha, atI0, ?_⟩
    dsimp only
    refine PureT.sqn (x := !betw e1 (-1) 1) (PureT.no fun Q q => ⟨_, rfl, _, rfl, v1, e1, _, _, rfl, h1, _, rfl, q _ (Same.refl _)⟩) (fun tt H1 s1 => ?_) (fun ff H1 s1 => ?_)
    · exact ⟨_, rfl, rfl, by show 1 ≤ 1000; decide, flies1 (EX1.same (qs (no_tt tt)) s1).now⟩
    refine PureT.sqn (x := !remD e2 (if b < 0 then -b else b)) (PureT.no fun Q q => ⟨_, rfl, _, rfl, p, dx, _, rfl, s1 _ _ e, p, b, d1, d2, d3, d4, rfl, ?pat, v2, e2, _, rfl, h2.fr (Fm.of s1), _, rfl, q _ (Same.refl _)⟩) (fun tt H2 s2 => ?_) (fun ff2 H2 s2 => ?_)
    case pat => exact PO.1.same s1
    · exact ⟨_, rfl, rfl, by show 1 ≤ 1000; decide, flies1 (EX1.same (qn (no_tt tt)) (s1.trans s2)).now⟩
    have s12 := s1.trans s2
    have bt := no_ff ff
    have rm := no_ff ff2
    obtain ⟨i, rfl⟩ : ∃ i, e1 = .int i := by
      cases e1 <;> first | exact ⟨_, rfl⟩ | cases bt
    obtain ⟨j, rfl⟩ : ∃ j, e2 = .int j := by
      cases e2 <;> first | exact ⟨_, rfl⟩ | cases rm
    cases h0
    cases h1
    cases h2
    obtain ⟨D, ev, tr⟩ := tabs_of pr em
    refine ⟨_, rfl, p, CP, dx, _, _, rfl, s12 _ _ e, C.cl, C.n6, rfl, _, rfl, vt, kvs, nm1, .ref D, rfl, rfl, s12 _ _ at_k, ev, ?_⟩
    refine ⟨_, rfl, _, rfl, by show 2 ≤ sizeLine; decide, fun k1 n1 => ?_⟩
    have s3 : Same H2 (upd H2 k1 (.tup [.int i, .int j])) := Same.new n1
    have y1 : (upd H2 k1 (.tup [.int i, .int j])) k1 = some (.tup [.int i, .int j]) := upd_same
    generalize upd H2 k1 (.tup [.int i, .int j]) = H3 at s3 y1 ⊢
    refine ⟨_, rfl, by show 2 ≤ sizeLine; decide, fun k2 n2 => ?_⟩
    have s4 : Same H3 (upd H3 k2 (.tup [.non, .int j])) := Same.new n2
    have y2 : (upd H3 k2 (.tup [.non, .int j])) k2 = some (.tup [.non, .int j]) := upd_same
    generalize upd H3 k2 (.tup [.non, .int j]) = H4 at s4 y2 ⊢
    refine ⟨_, rfl, by show 2 ≤ sizeLine; decide, fun k3 n3 => ?_⟩
    have s5 : Same H4 (upd H4 k3 (.tup [.int i, .non])) := Same.new n3
    have y3 : (upd H4 k3 (.tup [.int i, .non])) k3 = some (.tup [.int i, .non]) := upd_same
    generalize upd H4 k3 (.tup [.int i, .non]) = H5 at s5 y3 ⊢
    refine ⟨by show 3 ≤ sizeLine; decide, fun k4 n4 => ?_⟩
    have s6 : Same H5 (upd H5 k4 (.tup [.ref k1, .ref k2, .ref k3])) := Same.new n4
    have y4 : (upd H5 k4 (.tup [.ref k1, .ref k2, .ref k3])) k4 = some (.tup [.ref k1, .ref k2, .ref k3]) := upd_same
    generalize upd H5 k4 (.tup [.ref k1, .ref k2, .ref k3]) = H6 at s6 y4 ⊢
    have s26 := ((s3.trans s4).trans s5).trans s6
    have s06 := s12.trans s26
    have x1 := s6 _ _ (s5 _ _ (s4 _ _ y1))
    have x2 := s6 _ _ (s5 _ _ y2)
    have x3 := s6 _ _ y3
    obtain ⟨kbs, tab, pr2⟩ := tr.same s06
    have look : ∀ k, (∃ r, rowAt (itemsD (itD md 2)) k = some r ∧ ∃ v, valT kbs k = some v ∧ Dt Z0 H6 v (valD r)) ∨ (rowAt (itemsD (itD md 2)) k = none ∧ valT kbs k = none) := fun k => by
      have z := val_row (k := k) pr2
      cases c : rowAt (itemsD (itD md 2)) k with
      | some r => rw [c] at z; exact .inl ⟨r, rfl, z⟩
      | none => rw [c] at z; exact .inr ⟨rfl, z⟩
    have q := q nm1 md i j
    refine ⟨k4, _, _, rfl, .inr rfl, y4, fun J wk => for_it wk (fun n σ H' => H' = H6 ∧ rowFor (itemsD (itD md 2)) i j = [rowFor (itemsD (itD md 2)) i j, (rowAt (itemsD (itD md 2)) [.none, .num j]).or ((rowAt (itemsD (itD md 2)) [.num i, .none]).or (rowAt (itemsD (itD md 2)) [.none, .none])), (rowAt (itemsD (itD md 2)) [.num i, .none]).or (rowAt (itemsD (itD md 2)) [.none, .none]), rowAt (itemsD (itD md 2)) [.none, .none]].getD n none ∧
      ∃ w7 : Option V, σ = [some (.ref p), some (.ref t), some (.str nm1), some (.int i), some (.int j), some (.str nm1), some (.ref D), w7]) ⟨rfl, rfl, none, rfl⟩ (fun n σ H' _ z => by rw [z.1]; exact y4) ?_ ?_⟩
    · rintro n x σ H7 H8 hn ⟨rfl, er, w7, rfl⟩ ⟨rfl, ex⟩
      match n, hn with
      | 0, _ =>
        cases ex
        refine ⟨_, rfl, _, rfl, k1, D, [.num i, .num j], kbs, rfl, rfl, x1, tab, _, rfl, ?_⟩
        rcases look [.num i, .num j] with ⟨r, e1, v, e2, dv⟩ | ⟨e1, e2⟩
        · refine iteP (by rw [e2]; rfl) ⟨_, rfl, _, rfl, k1, D, [.num i, .num j], kbs, v, rfl, rfl, x1, tab, e2, ?_⟩
          exact q r rfl em rfl rfl (by unfold rowFor; rw [e1]; rfl) v _ s06 dv
        · exact iteN (by rw [e2]; decide) ⟨rfl, by unfold rowFor; rw [e1]; rfl, _, rfl⟩
      | 1, _ =>
        cases ex
        refine ⟨_, rfl, _, rfl, k2, D, [.none, .num j], kbs, rfl, rfl, x2, tab, _, rfl, ?_⟩
        rcases look [.none, .num j] with ⟨r, e1, v, e2, dv⟩ | ⟨e1, e2⟩
        · refine iteP (by rw [e2]; rfl) ⟨_, rfl, _, rfl, k2, D, [.none, .num j], kbs, v, rfl, rfl, x2, tab, e2, ?_⟩
          exact q r rfl em rfl rfl (by rw [er]; show (rowAt _ _).or _ = _; rw [e1]; rfl) v _ s06 dv
        · exact iteN (by rw [e2]; decide) ⟨rfl, by rw [er]; show (rowAt _ _).or _ = _; rw [e1]; rfl, _, rfl⟩
      | 2, _ =>
        cases ex
        refine ⟨_, rfl, _, rfl, k3, D, [.num i, .none], kbs, rfl, rfl, x3, tab, _, rfl, ?_⟩
        rcases look [.num i, .none] with ⟨r, e1, v, e2, dv⟩ | ⟨e1, e2⟩
        · refine iteP (by rw [e2]; rfl) ⟨_, rfl, _, rfl, k3, D, [.num i, .none], kbs, v, rfl, rfl, x3, tab, e2, ?_⟩
          exact q r rfl em rfl rfl (by rw [er]; show (rowAt _ _).or _ = _; rw [e1]; rfl) v _ s06 dv
        · exact iteN (by rw [e2]; decide) ⟨rfl, by rw [er]; show (rowAt _ _).or _ = _; rw [e1]; rfl, _, rfl⟩
      | n + 3, hn => exact absurd hn (by simp)
    · rintro σ H7 ⟨rfl, er, w7, rfl⟩
      obtain ⟨r, e1⟩ := row_last (rowsErr_none PO.2.1.rows md mem)
      refine ⟨_, rfl, by show 2 ≤ sizeLine; decide, fun k5 n5 => ?_⟩
      have s7 : Same H7 (upd H7 k5 (.tup [.non, .non])) := Same.new n5
      have y5 : (upd H7 k5 (.tup [.non, .non])) k5 = some (.tup [.non, .non]) := upd_same
      rcases look [.none, .none] with ⟨r', e1', v, e2, dv⟩ | ⟨e1', e2⟩
      · refine ⟨k5, D, [.none, .none], kbs, v, rfl, rfl, y5, tab.same s7, e2, ?_⟩
        exact q r' rfl em rfl rfl (by rw [er]; exact e1') v _ (s06.trans s7) (dv.fr (Fm.of s7))
      · rw [e1] at e1'
        cases e1'
end
/-! ### parts changed -/
section
variable {P : Program} {w : World} {K : PySem.W.Frag} {mg : Str → Option Value} {base : Heap} {aR CP CB CG CM CI CE CR CU : Addr}
theorem inV_no {s : Str} : ∀ {ns : List Str}, s ∉ ns → inV (.str s) (ns.map V.str) = false
  | [], _ => rfl
  | n :: ns, h => by
    have ih := inV_no (s := s) (ns := ns) fun m => h (List.mem_cons_of_mem _ m)
    unfold inV at ih ⊢
    rw [List.map_cons, List.any_cons, ih, Bool.or_false]
    have ne : n ≠ s := fun m => h (by rw [m]; exact List.mem_cons_self)
    unfold eqV
    simp [ne]
theorem wrongAt_of {part : PyData → Bool} : ∀ {ds : List PyData} {ns : List Str} {i : Nat}, (∀ d ∈ ds, part d = true) → (ns ++ ds.map nmOf).Nodup → wrongAt part ds ns i = none
  | [], _, _, _, _ => rfl
  | d :: ds, ns, i, h, n => by
    rw [wrongAt, h d List.mem_cons_self]
    have n2 : (ns ++ [nmOf d] ++ ds.map nmOf).Nodup := by simpa using n
    have no : nmOf d ∉ ns := fun m => by
      rw [List.map_cons, List.nodup_append] at n
      exact n.2.2 _ m _ List.mem_cons_self rfl
    rw [inV_no no, if_neg (by decide)]
    exact wrongAt_of (fun x hx => h x (List.mem_cons_of_mem _ hx)) n2
theorem rowsErr_of {size : Int} {many : Nat} {zs : List Str} : ∀ {ds : List PyData}, (∀ d ∈ ds, wrongRow size many zs (itemsD (itD d 2)) [] 0 = none) → rowsErr size many zs ds = none
  | [], _ => rfl
  | d :: ds, h => by
    rw [rowsErr, h d List.mem_cons_self]
    exact rowsErr_of fun x hx => h x (List.mem_cons_of_mem _ hx)
theorem PartsOk.again {d0 d1 d2 d3 d4 d2' : PyData} (h : PartsOk d0 d1 d2 d3 d4) (sq : isSeq d2' = true) (ln : (itemsD d2').length = (itemsD d2).length) (nm : (itemsD d2').map nmOf = (itemsD d2).map nmOf) (md : ∀ m ∈ itemsD d2', modeD m = true)
    (rw_ : ∀ m ∈ itemsD d2', wrongRow (sizeD d0) (itemsD d1).length ((itemsD d2).map nmOf) (itemsD (itD m 2)) [] 0 = none) : PartsOk d0 (.tuple (itemsD d1)) d2' (.tuple (itemsD d3)) d4 := by
  have s1 : isSeq d1 = true := (partsD_all h.regs).1
  have s2 : isSeq d2 = true := (partsD_all h.modes).1
  have s3 : isSeq d3 = true := by
    have := h.ends
    unfold endsD at this
    exact (Bool.and_eq_true_iff.mp this).1
  refine ⟨h.base, ?_, ?_, ?_, ?_, h.result⟩
  · have z := h.regs
    unfold partsD listD at z ⊢
    rw [s1] at z
    exact z
  · have z := h.modes
    have nn := h.names
    unfold partsD listD at z ⊢
    rw [s2] at z
    rw [sq, ln, wrongAt_of md (by rw [nm]; simpa using nn)]
    exact Bool.and_eq_true_iff.mpr ⟨(Bool.and_eq_true_iff.mp z).1, rfl⟩
  · rw [nm]
    exact rowsErr_of rw_
  · have z := h.ends
    unfold endsD at z ⊢
    rw [s3] at z
    exact z
/-- a mode of another rule, or of the same -/
def ruleM (r : PyData) (md : PyData) : PyData := .tuple [itD md 0, r, .tuple (itemsD (itD md 2))]
theorem ruleM_ok {r md : PyData} (h : modeD md = true) (hr : ruleD r = true) : modeD (ruleM r md) = true ∧ nmOf (ruleM r md) = nmOf md ∧ itemsD (itD (ruleM r md) 2) = itemsD (itD md 2) := by
  obtain ⟨t1, t2, ⟨s, t3, t4⟩, t5⟩ := modeD_parts h
  have n0 : nameD (itD md 0) = true := by
    unfold modeD at h
    simp only [Bool.and_eq_true] at h
    exact h.2.2.1
  refine ⟨?_, ?_, rfl⟩
  · show (true && (decide (3 = 3) && (nameD (itD md 0) && (ruleD r && true)))) = true
    rw [n0, hr]
    rfl
  · unfold ruleM
    rw [t3, t4]
    rfl
theorem PartsOk.under {d0 d1 d2 d3 d4 r : PyData} (h : PartsOk d0 d1 d2 d3 d4) (hr : ruleD r = true) : PartsOk d0 (.tuple (itemsD d1)) (.list ((itemsD d2).map (ruleM r))) (.tuple (itemsD d3)) d4 := by
  obtain ⟨s2, m4, all2⟩ := partsD_all h.modes
  have rs := rowsErr_none h.rows
  refine h.again rfl (List.length_map _) ?_ ?_ ?_
  · show ((itemsD d2).map (ruleM r)).map nmOf = _
    rw [List.map_map]
    exact List.map_congr_left fun md hm => (ruleM_ok (all2 md hm) hr).2.1
  · intro m hm
    obtain ⟨md, hm2, rfl⟩ := List.mem_map.mp hm
    exact (ruleM_ok (all2 md hm2) hr).1
  · intro m hm
    obtain ⟨md, hm2, rfl⟩ := List.mem_map.mp hm
    exact rs md hm2
def MkP (P : Program) (w : World) (K : PySem.W.Frag) (mg : Str → Option Value) (base : Heap) (CP CB CG CM CI CE CR : Addr) : Prop :=
  ∃ (f : Addr) (fd : FuncData), Mk K CP f ∧ FnOk P w K mg base (L2.CX P w) 8 f fd ["self", "base", "registers", "modes", "ends", "result"] (spPInit P w CP CB CG CM CI CE CR) ∧ Binds K fd ["self", "base", "registers", "modes", "ends", "result"] []
theorem pe_mkP {X : Cx} {E : XK} {p pos : Pos} {e1 e2 e3 e4 e5 : Expr} {t : TA} (m : MkP X.prog X.w X.K X.mg X.base CP CB CG CM CI CE CR) (at_ : X.mg "Program" = some (.ref CP)) (hr : Room 9 X.A) (hx : Passes (L2.CX X.prog X.w) X E) (hg : Gl X "Program") (ha : PA X [e1, e2, e3, e4, e5] t)
    (he : starEach [e1, e2, e3, e4, e5] X.env = (false, eval e1 X.env) :: starEach [e2, e3, e4, e5] X.env := by rfl) (hpl : (backTo pos (starEach [e2, e3, e4, e5] X.env)).any (·.1) = false := by rfl) :
    PE X (.Call (.Name "Program" p) [e1, e2, e3, e4, e5] [] pos) (tMake CP (spPInit X.prog X.w CP CB CG CM CI CE CR) [] E t) := by
  obtain ⟨f, fd, M, F, b⟩ := m
  exact pe_make M F hr hg at_ b .nil hx ha (by decide) he hpl
abbrev s_Program_under : Stmt := inClass (top 40) 15
abbrev N_Program_under : List Str := ["self", "rule", "modes", "name", "_", "rows"]
theorem sc_Program_under : FnScope N_Program_under ["self", "rule"] (defScope s_Program_under) := ⟨rfl, rfl, rfl, by decide +kernel, rfl, by decide +kernel, by decide +kernel⟩
def spPUnder (P : Program) (w : World) (CP CU : Addr) : Sp := fun vs H Q E => ∃ p r b d1 d2 d3 d4, vs = [.ref p, .str r] ∧ ProgOk P w CP H p b d1 d2 d3 d4 ∧ r.length ≤ 1000 ∧ ruleD (.str r) = true ∧
  ∀ c H', H c = none → Same H H' → ProgOk P w CP H' c b (.tuple (itemsD d1)) (.list ((itemsD d2).map (ruleM (.str r)))) (.tuple (itemsD d3)) d4 → Q (.ref c) H'
theorem Sz.ruleM {md : PyData} {r : Str} (h : Sz 4 md) (l : (itemsD md).length = 3) (lr : r.length ≤ 1000) : Sz 4 (W1.ruleM (.str r) md) := by
  have z0 := h.item 0
  have z2 := h.item 2
  refine ⟨by show 3 ≤ 1000; decide, fun s e => (by cases e), fun x hx => ?_⟩
  have hx : x = itD md 0 ∨ x = .str r ∨ x = .tuple (itemsD (itD md 2)) := by simpa [W1.ruleM, itemsD] using hx
  rcases hx with rfl | rfl | rfl
  · exact z0
  · exact ⟨by show 0 ≤ 1000; decide, fun s e => by injection e with e; rw [← e]; exact lr, fun x hx => by cases hx⟩
  · exact ⟨z2.1, fun s e => (by cases e), z2.2.2⟩
theorem inc_grows {ds : List PyData} (h : incAt ds 0 = true) : ∀ i, i < ds.length → iOf (ds.getD 0 .none) + i ≤ iOf (ds.getD i .none)
  | 0, _ => by simp
  | i + 1, hi => by
    have ih := inc_grows h i (by omega)
    unfold incAt at h
    have z := List.all_eq_true.mp h i (List.mem_range.mpr (by omega))
    have z := of_decide_eq_true z
    rw [Nat.zero_add] at z
    omega
theorem PartsOk.few {d0 d1 d2 d3 d4 : PyData} (h : PartsOk d0 d1 d2 d3 d4) : (itemsD d3).length ≤ 1000 ∧ (itemsD d4).length ≤ 1000 := by
  obtain ⟨_, m3, _⟩ := partsD_all h.regs
  have hb := h.base
  have he := h.ends
  have hf := h.result
  unfold factD at hf
  unfold endsD at he
  simp only [Bool.and_eq_true] at hf he
  refine ⟨?_, ?_⟩
  · rcases Nat.lt_or_ge 1000 (itemsD d3).length with z | z
    · exfalso
      have sz : sizeD d0 ≤ 10 := by
        cases d0 <;> first | cases hb | skip
        rename_i b
        have hb : (betw (.int b) (-10) 10 && decide (2 ≤ b.natAbs)) = true := hb
        have hb := (Bool.and_eq_true_iff.mp hb).1
        have hb : (decide (-10 ≤ b) && decide (b ≤ 10)) = true := hb
        simp only [Bool.and_eq_true, decide_eq_true_eq] at hb
        show (if b < 0 then -b else b) ≤ 10
        split <;> omega
      have at_ : ∀ i, i < (itemsD d3).length → remD ((itemsD d3).getD i .none) (sizeD d0) = true := fun i hi => by
        refine List.all_eq_true.mp he.2.1 _ ?_
        rw [List.getD_eq_getElem?_getD, List.getElem?_eq_getElem hi]
        exact List.getElem_mem hi
      have bd : ∀ {d : PyData}, remD d (sizeD d0) = true → 1 - sizeD d0 ≤ iOf d ∧ iOf d ≤ sizeD d0 - 1 := fun {d} r => by
        cases d <;> first | cases r | skip
        rename_i i
        have r : (decide (1 - sizeD d0 ≤ i) && decide (i ≤ sizeD d0 - 1)) = true := r
        exact ⟨of_decide_eq_true (Bool.and_eq_true_iff.mp r).1, of_decide_eq_true (Bool.and_eq_true_iff.mp r).2⟩
      have g := inc_grows he.2.2 1000 (by omega)
      have a0 := bd (at_ 0 (by omega))
      have a1 := bd (at_ 1000 (by omega))
      omega
    · exact z
  · have l := of_decide_eq_true hf.2.1
    omega
theorem ok_Program_under {f : Addr} {fd : FuncData} (F : Fun K "under" "Program.under" s_Program_under f fd) (C : PCls K mg CP) (PT : PTx K mg aR) (O_is_rule : Ok P w K mg base 1 "is_rule" ["value"] spRuleD) (mk : MkP P w K mg base CP CB CG CM CI CE CR) :
    FnOk P w K mg base (L2.CX P w) 10 f fd ["self", "rule"] (spPUnder P w CP CU) := by
  refine F.okX sc_Program_under (fun vs H Q E h => ?_) (fun cdv A outer s H vs Q E hr h => ?_)
  · obtain ⟨p, r, b1, d1, d2, d3, d4, rfl, _⟩ := h
    rfl
  · obtain ⟨p, r, b1, d1, d2, d3, d4, rfl, PK, lr, rr, q⟩ := h
    obtain ⟨⟨dx, vr, vm, ve, va, vt, e, a1, a2, a3, a4, a5⟩, PO, z1, z2⟩ := id PK
    refine ⟨_, (pss_cons (ps_if (pt_not (pt_val (pe_cO O_is_rule (hr.mono (by decide)) pass0 rfl (pa_cons (pv 1) pa_nil))))
        (pss_one ps_never)
        pss_nil)
      (pss_cons (ps_setLc (i := 2) (own := [("name", 3), ("_", 4), ("rows", 5)]) (g := gTupT 3 (gCons (gName 3) (gCons (gName 4) (gCons (gName 5) gNil)))) (tt := tYes) rfl sc_Program_under.nd rfl rfl (sw_true rfl rfl rfl (by decide +kernel)) (pi_seq (pe_fld (pv 0) rfl)) (blkOk_by (N := N_Program_under) (sc := defScope s_Program_under) (by decide +kernel)) (fun _ _ _ _ _ => (pgT (n := 3) (by rfl) (pgs_cons (pg_name (i := 3) sc_Program_under.nd rfl (by first | exact Or.inl rfl | exact Or.inr rfl)) (pgs_cons (pg_name (i := 4) sc_Program_under.nd rfl (by first | exact Or.inl rfl | exact Or.inr rfl)) (pgs_cons (pg_name (i := 5) sc_Program_under.nd rfl (by first | exact Or.inl rfl | exact Or.inr rfl)) pgs_nil))))) (fun _ _ _ _ _ => pts_nil) (fun _ _ _ _ _ => (pe_tup (pa_cons (pv 3) (pa_cons (pv 1) (pa_cons (pv 5) pa_nil))))))
      (pss_one (ps_ret (pe_mkP mk C.at_ (hr.mono (by decide)) passL rfl (pa_cons (pe_fld (pv 0) rfl) (pa_cons (pe_fld (pv 0) rfl) (pa_cons (pv 2) (pa_cons (pe_fld (pv 0) rfl) (pa_cons (pe_fld (pv 0) rfl) pa_nil)))))))))), ?_⟩
    refine ⟨_, rfl, _, _, rfl, .str r, _, rfl, iteN (by rw [rr]; decide) ?_⟩
    obtain ⟨sq2, m4, all2⟩ := partsD_all PO.modes
    cases a2 with
    | tup em nm dm =>
      rename_i xs
      have ln : xs.length = (itemsD d2).length := by
        have := dm.len
        rw [List.length_map] at this
        exact this
      refine ⟨_, rfl, p, CP, dx, _, _, rfl, e, C.cl, C.n3, rfl, _, _, _, rfl, .inr rfl, em, fun J wk D hD => ?_⟩
      refine lc_dat wk Z0 (fun _ => True) ((itemsD d2).map (ruleM (.str r))) (by simp [ln]) hD id True.intro (fun _ _ _ _ => True.intro) (by rw [ln]; exact Nat.lt_of_le_of_lt z2.1 (by decide)) (fun G f => f _ _ em id) ?_ ?_
      · intro i x dmd G0 G Qk ed f _ ne y z
        obtain ⟨rfl, ex⟩ := y
        rw [List.getElem?_map] at ed
        obtain ⟨md, e3, rfl⟩ := Option.map_eq_some_iff.mp ed
        obtain ⟨d', e4, dt⟩ := ((DtAll.off' hD dm).fr (Fm.zu f)).get ex
        rw [List.getElem?_map, e3] at e4
        cases e4
        obtain ⟨a, ys, rfl, dy, ha, nza, _⟩ := dt.tupOf rfl
        obtain ⟨y0, y1, y2, c0, c1, c2, rfl, eds, w0, w1, w2⟩ := three_dt dy rfl
        have eds : [itD md 0, itD md 1, PyData.tuple (itemsD (itD md 2))] = [c0, c1, c2] := eds
        injection eds with q0 eds
        injection eds with q1 eds
        injection eds with q2 eds
        subst q0 q1 q2
        refine ⟨a, _, rfl, ha, rfl, _, _, rfl, _, _, rfl, _, _, rfl, rfl, rfl, ?_⟩
        refine ⟨_, rfl, _, rfl, _, rfl, by show 3 ≤ sizeLine; decide, fun t nt => ?_⟩
        have s3 : Same G (upd G t (.tup [y0, .str r, y2])) := Same.new nt
        exact z _ _ (Fm.of s3) True.intro (.tup upd_same (zu_ne id (ne t nt)) (.cons (w0.fr (Fm.of s3)) (.cons (.str r) (.cons (w2.fr (Fm.of s3)) .nil))))
      · intro G xs5 f _ eD dD
        have s1 : Same H G := f.same
        have e1 := s1 _ _ e
        obtain ⟨l3, l4⟩ := PO.few
        refine ⟨_, rfl, p, CP, dx, _, _, rfl, e1, C.cl, C.n1, rfl, _, rfl, p, CP, dx, _, _, rfl, e1, C.cl, C.n2, rfl, _, rfl, _, rfl, p, CP, dx, _, _, rfl, e1, C.cl, C.n4, rfl, _, rfl, p, CP, dx, _, _, rfl, e1, C.cl, C.n5, rfl, fun c dc hc hd ne => ?_⟩
        have sN : Same G (upd (upd G dc (.own c)) c (.ins CP dc [])) := new_same hc hd
        have up : ∀ {v : V} {d : PyData}, Dt Z0 H v d → Dt Z0 (upd (upd G dc (.own c)) c (.ins CP dc [])) v d := fun h => (h.fr (Fm.of s1)).fr (Fm.of sN)
        have PU := PO.under rr
        have zA : Sz 2 (.tuple (itemsD d1)) := ⟨z1.1, fun s e => (by cases e), z1.2.2⟩
        have zB : Sz 5 (.list ((itemsD d2).map (ruleM (.str r)))) := by
          refine ⟨?_, fun s e => (by cases e), fun x hx => ?_⟩
          · show ((itemsD d2).map (ruleM (.str r))).length ≤ 1000
            rw [List.length_map]
            exact z2.1
          · obtain ⟨md, hm, rfl⟩ := List.mem_map.mp hx
            exact (z2.2.2 md hm).ruleM (modeD_parts (all2 md hm)).2.1 lr
        refine ⟨c, dc, .int b1, vr, .ref D, ve, va, .int b1, _, _, _, _, rfl, upd_same, .int b1, up a1, (Dt.lst eD id (dD.mono' fun _ m => m.elim)).fr (Fm.of sN), up a3, up a4, zA, zB, l3, l4, fun _ H' k PA => ⟨rfl, ?_⟩, fun e he => ?_⟩
        · have nc : H c = none := by
            cases e : H c with
            | none => rfl
            | some o => rw [s1 _ _ e] at hc; cases hc
          exact q c H' nc (fun b o e => k b o (sN _ _ (s1 _ _ e)) (ne_of_none e nc)) ⟨PA, PU, zA, zB⟩
        · rw [partsOk_iff.mpr PU] at he
          cases he
end
/-! ### _with_mode -/
section
variable {P : Program} {w : World} {K : PySem.W.Frag} {mg : Str → Option Value} {base : Heap} {aR CP CB CG CM CI CE CR CU : Addr}
abbrev s_Program__with_mode : Stmt := inClass (top 40) 17
abbrev N_Program__with_mode : List Str := ["self", "name", "rule", "rows", "modes", "told"]
theorem sc_Program__with_mode : FnScope N_Program__with_mode ["self", "name", "rule", "rows"] (defScope s_Program__with_mode) := ⟨rfl, rfl, rfl, by decide +kernel, rfl, by decide +kernel, by decide +kernel⟩
/-- the mode nm with another rule, other rows; the others as they are -/
def withM (nm : Str) (ru rw_ md : PyData) : PyData := if nmOf md = nm then .tuple [.str nm, ru, rw_] else normM md
theorem Sz.normM {md : PyData} (h : Sz 4 md) : Sz 4 (W1.normM md) := by
  have z0 := h.item 0
  have z1 := h.item 1
  have z2 := h.item 2
  refine ⟨by show 3 ≤ 1000; decide, fun s e => (by cases e), fun x hx => ?_⟩
  have hx : x = itD md 0 ∨ x = itD md 1 ∨ x = .tuple (itemsD (itD md 2)) := by simpa [W1.normM, itemsD] using hx
  rcases hx with rfl | rfl | rfl
  · exact z0
  · exact z1
  · exact ⟨z2.1, fun s e => (by cases e), z2.2.2⟩
def spPWith (P : Program) (w : World) (CP : Addr) : Sp := fun vs H Q _ => ∃ p nm v2 v3 ru rw_ b d1 d2 d3 d4, vs = [.ref p, .str nm, v2, v3] ∧ ProgOk P w CP H p b d1 d2 d3 d4 ∧ Dt Z0 H v2 ru ∧ Dt Z0 H v3 rw_ ∧ Sz 4 (.tuple [.str nm, ru, rw_]) ∧
  PartsOk (.int b) (.tuple (itemsD d1)) (.list ((itemsD d2).map (withM nm ru rw_))) (.tuple (itemsD d3)) d4 ∧
  ∀ c H', H c = none → Same H H' → ProgOk P w CP H' c b (.tuple (itemsD d1)) (.list ((itemsD d2).map (withM nm ru rw_))) (.tuple (itemsD d3)) d4 → Q (.ref c) H'
theorem ok_Program__with_mode {f : Addr} {fd : FuncData} (F : Fun K "_with_mode" "Program._with_mode" s_Program__with_mode f fd) (C : PCls K mg CP) (mk : MkP P w K mg base CP CB CG CM CI CE CR) :
    FnOk P w K mg base (L2.CX P w) 10 f fd ["self", "name", "rule", "rows"] (spPWith P w CP) := by
  refine F.okX sc_Program__with_mode (fun vs H Q E h => ?_) (fun cdv A outer s H vs Q E hr h => ?_)
  · obtain ⟨p, nm, v2, v3, ru, rw_, b1, d1, d2, d3, d4, rfl, _⟩ := h
    rfl
  · obtain ⟨p, nm, v2, v3, ru, rw_, b1, d1, d2, d3, d4, rfl, PK, hu, hw, zn, PU, q⟩ := h
    obtain ⟨⟨dx, vr, vm, ve, va, vt, e, a1, a2, a3, a4, a5⟩, PO, z1, z2⟩ := id PK
    refine ⟨_, (pss_cons (ps_setLc (i := 4) (own := [("told", 5)]) (g := (gName 5)) (tt := tYes) rfl sc_Program__with_mode.nd rfl rfl (sw_true rfl rfl rfl (by decide +kernel)) (pi_seq (pe_fld (pv 0) rfl)) (blkOk_by (N := N_Program__with_mode) (sc := defScope s_Program__with_mode) (by decide +kernel)) (fun _ _ _ _ _ => (pg_name (i := 5) sc_Program__with_mode.nd rfl (by first | exact Or.inl rfl | exact Or.inr rfl))) (fun _ _ _ _ _ => pts_nil) (fun _ _ _ _ _ => (pe_ifExp (pt_cmpR op_eq (pe_ix ixt (pv 5) pe_int (fun _ _ => rfl)) (pv 1) (nomark _)) (pe_tup (pa_cons (pv 1) (pa_cons (pv 2) (pa_cons (pv 3) pa_nil)))) (pv 5))))
      (pss_one (ps_ret (pe_mkP mk C.at_ (hr.mono (by decide)) passL rfl (pa_cons (pe_fld (pv 0) rfl) (pa_cons (pe_fld (pv 0) rfl) (pa_cons (pv 4) (pa_cons (pe_fld (pv 0) rfl) (pa_cons (pe_fld (pv 0) rfl) pa_nil))))))))), ?_⟩
    obtain ⟨sq2, m4, all2⟩ := partsD_all PO.modes
    cases a2 with
    | tup em _ dm =>
      rename_i xs _
      have ln : xs.length = (itemsD d2).length := by
        have := dm.len
        rw [List.length_map] at this
        exact this
      refine ⟨_, rfl, p, CP, dx, _, _, rfl, e, C.cl, C.n3, rfl, _, _, _, rfl, .inr rfl, em, fun J wk D hD => ?_⟩
      refine lc_dat wk Z0 (fun _ => True) ((itemsD d2).map (withM nm ru rw_)) (by simp [ln]) hD id True.intro (fun _ _ _ _ => True.intro) (by rw [ln]; exact Nat.lt_of_le_of_lt z2.1 (by decide)) (fun G f => f _ _ em id) ?_ ?_
      · intro i x dmd G0 G Qk ed f _ ne y z
        obtain ⟨rfl, ex⟩ := y
        rw [List.getElem?_map] at ed
        obtain ⟨md, e3, rfl⟩ := Option.map_eq_some_iff.mp ed
        obtain ⟨d', e4, dt⟩ := ((DtAll.off' hD dm).fr (Fm.zu f)).get ex
        rw [List.getElem?_map, e3] at e4
        cases e4
        obtain ⟨t1, t2, ⟨nm1, t3, t4⟩, t5⟩ := modeD_parts (all2 md (List.mem_of_getElem? e3))
        obtain ⟨a, ys, rfl, dy, ha, nza, _⟩ := id (dt.tupOf rfl)
        obtain ⟨y0, y1, y2, c0, c1, c2, rfl, eds, w0, w1, w2⟩ := three_dt dy rfl
        have eds : [itD md 0, itD md 1, PyData.tuple (itemsD (itD md 2))] = [c0, c1, c2] := eds
        injection eds with q0 eds
        rw [t3] at q0
        subst q0
        cases w0
        refine ⟨rfl, _, rfl, a, _, 0, _, rfl, rfl, ha, atI0, _, rfl, rfl, _, rfl, ?_⟩
        unfold withM at z
        rw [t4] at z
        by_cases c : nm1 = nm
        · rw [if_pos c] at z
          refine iteP (decide_eq_true (by rw [c])) ⟨_, rfl, _, rfl, _, rfl, by show 3 ≤ sizeLine; decide, fun t nt => ?_⟩
          have s3 : Same G (upd G t (.tup [.str nm, v2, v3])) := Same.new nt
          exact z _ _ (Fm.of s3) True.intro (.tup upd_same (zu_ne id (ne t nt)) (.cons (.str nm) (.cons (((hu.off hD).fr (Fm.zu f)).fr (Fm.of s3)) (.cons (((hw.off hD).fr (Fm.zu f)).fr (Fm.of s3)) .nil))))
        · rw [if_neg c] at z
          exact iteN (sne c) ⟨_, rfl, z _ _ Fm.refl True.intro dt⟩
      · intro G xs5 f _ eD dD
        have s1 : Same H G := f.same
        have e1 := s1 _ _ e
        obtain ⟨l3, l4⟩ := PO.few
        refine ⟨_, rfl, p, CP, dx, _, _, rfl, e1, C.cl, C.n1, rfl, _, rfl, p, CP, dx, _, _, rfl, e1, C.cl, C.n2, rfl, _, rfl, _, rfl, p, CP, dx, _, _, rfl, e1, C.cl, C.n4, rfl, _, rfl, p, CP, dx, _, _, rfl, e1, C.cl, C.n5, rfl, fun c dc hc hd ne => ?_⟩
        have sN : Same G (upd (upd G dc (.own c)) c (.ins CP dc [])) := new_same hc hd
        have up : ∀ {v : V} {d : PyData}, Dt Z0 H v d → Dt Z0 (upd (upd G dc (.own c)) c (.ins CP dc [])) v d := fun h => (h.fr (Fm.of s1)).fr (Fm.of sN)
        have zA : Sz 2 (.tuple (itemsD d1)) := ⟨z1.1, fun s e => (by cases e), z1.2.2⟩
        have zB : Sz 5 (.list ((itemsD d2).map (withM nm ru rw_))) := by
          refine ⟨?_, fun s e => (by cases e), fun x hx => ?_⟩
          · show ((itemsD d2).map (withM nm ru rw_)).length ≤ 1000
            rw [List.length_map]
            exact z2.1
          · obtain ⟨md, hm, rfl⟩ := List.mem_map.mp hx
            unfold withM
            split
            · exact zn
            · exact (z2.2.2 md hm).normM
        refine ⟨c, dc, .int b1, vr, .ref D, ve, va, .int b1, _, _, _, _, rfl, upd_same, .int b1, up a1, (Dt.lst eD id (dD.mono' fun _ m => m.elim)).fr (Fm.of sN), up a3, up a4, zA, zB, l3, l4, fun _ H' k PA => ⟨rfl, ?_⟩, fun e he => ?_⟩
        · have nc : H c = none := by
            cases e : H c with
            | none => rfl
            | some o => rw [s1 _ _ e] at hc; cases hc
          exact q c H' nc (fun b o e => k b o (sN _ _ (s1 _ _ e)) (ne_of_none e nc)) ⟨PA, PU, zA, zB⟩
        · rw [partsOk_iff.mpr PU] at he
          cases he
end
/-! ### with_rule -/
section
variable {P : Program} {w : World} {K : PySem.W.Frag} {mg : Str → Option Value} {base : Heap} {aR CP CB CG CM CI CE CR CU : Addr}
abbrev s_Program_with_rule : Stmt := inClass (top 40) 14
abbrev N_Program_with_rule : List Str := ["self", "mode", "rule", "name", "_", "rows"]
theorem sc_Program_with_rule : FnScope N_Program_with_rule ["self", "mode", "rule"] (defScope s_Program_with_rule) := ⟨rfl, rfl, rfl, by decide +kernel, rfl, by decide +kernel, by decide +kernel⟩
theorem modeOf_some {ms : List PyData} {s : Str} {md : PyData} (h : modeOf ms s = some md) : md ∈ ms ∧ nmOf md = s := by
  unfold modeOf at h
  exact ⟨List.mem_of_find?_eq_some h, of_decide_eq_true (List.find?_some (p := fun md => decide (nmOf md = s)) h)⟩
theorem modeD_rule {md : PyData} (h : modeD md = true) : ruleD (itD md 1) = true := by
  unfold modeD at h
  simp only [Bool.and_eq_true] at h
  exact h.2.2.2.1
theorem modeD_name {md : PyData} (h : modeD md = true) : itD md 0 = .str (nmOf md) := by
  obtain ⟨t1, t2, ⟨s, t3, t4⟩, t5⟩ := modeD_parts h
  rw [t3, t4]
/-- every mode as it was, the named one with the rule and the rows of md -/
theorem withM_eq {s : Str} {r md m : PyData} (h : modeD md = true) (e : nmOf md = s) : withM s r (.tuple (itemsD (itD md 2))) m = if nmOf m = s then ruleM r md else ruleM (itD m 1) m := by
  unfold withM ruleM normM
  rw [modeD_name h, e]
theorem PartsOk.withRule {d0 d1 d2 d3 d4 r md : PyData} {s : Str} (h : PartsOk d0 d1 d2 d3 d4) (hr : ruleD r = true) (em : modeOf (itemsD d2) s = some md) : PartsOk d0 (.tuple (itemsD d1)) (.list ((itemsD d2).map (withM s r (.tuple (itemsD (itD md 2)))))) (.tuple (itemsD d3)) d4 := by
  obtain ⟨s2, m4, all2⟩ := partsD_all h.modes
  have rs := rowsErr_none h.rows
  obtain ⟨mm, mn⟩ := modeOf_some em
  have mk := all2 md mm
  have go : ∀ m ∈ itemsD d2, modeD (withM s r (.tuple (itemsD (itD md 2))) m) = true ∧ nmOf (withM s r (.tuple (itemsD (itD md 2))) m) = nmOf m ∧
      wrongRow (sizeD d0) (itemsD d1).length ((itemsD d2).map nmOf) (itemsD (itD (withM s r (.tuple (itemsD (itD md 2))) m) 2)) [] 0 = none := fun m hm => by
    rw [withM_eq mk mn]
    split
    · rename_i c
      obtain ⟨a, b, e⟩ := ruleM_ok mk hr
      exact ⟨a, by rw [b, mn, c], by rw [e]; exact rs md mm⟩
    · obtain ⟨a, b, e⟩ := ruleM_ok (all2 m hm) (modeD_rule (all2 m hm))
      exact ⟨a, b, by rw [e]; exact rs m hm⟩
  refine h.again rfl (List.length_map _) ?_ ?_ ?_
  · show ((itemsD d2).map _).map nmOf = _
    rw [List.map_map]
    exact List.map_congr_left fun m hm => (go m hm).2.1
  · intro m hm
    obtain ⟨m0, hm2, rfl⟩ := List.mem_map.mp hm
    exact (go m0 hm2).1
  · intro m hm
    obtain ⟨m0, hm2, rfl⟩ := List.mem_map.mp hm
    exact (go m0 hm2).2.2
def spPWithRule (P : Program) (w : World) (CP : Addr) : Sp := fun vs H Q _ => ∃ p s r md b d1 d2 d3 d4, vs = [.ref p, .str s, .str r] ∧ ProgOk P w CP H p b d1 d2 d3 d4 ∧ modeOf (itemsD d2) s = some md ∧ r.length ≤ 1000 ∧ ruleD (.str r) = true ∧
  ∀ c H', H c = none → Same H H' → ProgOk P w CP H' c b (.tuple (itemsD d1)) (.list ((itemsD d2).map (withM s (.str r) (.tuple (itemsD (itD md 2)))))) (.tuple (itemsD d3)) d4 → Q (.ref c) H'
theorem ok_Program_with_rule {f : Addr} {fd : FuncData} (F : Fun K "with_rule" "Program.with_rule" s_Program_with_rule f fd) (C : PCls K mg CP) (O_is_rule : Ok P w K mg base 1 "is_rule" ["value"] spRuleD) (mM : OwnMeth P w K mg base CP 3 "_mode" ["self", "mode"] (spPMode P w CP CU))
    (mW : OwnMeth P w K mg base CP 10 "_with_mode" ["self", "name", "rule", "rows"] (spPWith P w CP)) :
    FnOk P w K mg base (L2.CX P w) 11 f fd ["self", "mode", "rule"] (spPWithRule P w CP) := by
  refine F.okX sc_Program_with_rule (fun vs H Q E h => ?_) (fun cdv A outer s H vs Q E hr h => ?_)
  · obtain ⟨p, nm, r, md, b1, d1, d2, d3, d4, rfl, _⟩ := h
    rfl
  · obtain ⟨p, nm, r, md, b1, d1, d2, d3, d4, rfl, PK, em, lr, rr, q⟩ := h
    obtain ⟨⟨dx, vr, vm, ve, va, vt, e, a1, a2, a3, a4, a5⟩, PO, z1, z2⟩ := id PK
    obtain ⟨sq2, m4, all2⟩ := partsD_all PO.modes
    obtain ⟨mm, mn⟩ := modeOf_some em
    refine ⟨_, (pss_cons (ps_asg (pe_methO (pv 0) C.cl mM (hr.mono (by decide)) (passes_call (takes_of rfl rfl rfl rfl) (fun _ _ _ _ z => z)) (pa_cons (pv 1) pa_nil)) (pgT (n := 3) (by rfl) (pgs_cons (pg_name (i := 3) sc_Program_with_rule.nd rfl (.inl rfl)) (pgs_cons (pg_name (i := 4) sc_Program_with_rule.nd rfl (.inl rfl)) (pgs_cons (pg_name (i := 5) sc_Program_with_rule.nd rfl (.inl rfl)) pgs_nil)))))
      (pss_cons (ps_if (pt_not (pt_val (pe_cO O_is_rule (hr.mono (by decide)) pass0 rfl (pa_cons (pv 2) pa_nil))))
        (pss_one ps_never)
        pss_nil)
      (pss_one (ps_ret (pe_methO (pv 0) C.cl mW (hr.mono (by decide)) (passes_call (takes_of rfl rfl rfl rfl) (fun _ _ _ _ z => z)) (pa_cons (pv 3) (pa_cons (pv 2) (pa_cons (pv 5) pa_nil)))))))), ?_⟩
    refine ⟨_, rfl, p, dx, _, rfl, e, rfl, _, rfl, p, .str nm, .str nm, b1, d1, d2, d3, d4, rfl, .str nm, PK, fun s md' es em' u hu => ?_, fun no => ?_⟩
    · cases es
      rw [em] at em'
      cases em'
      obtain ⟨a, y0, y1, y2, rfl, ha, w0, w1, w2⟩ := hu.three
      rw [modeD_name (all2 md mm), mn] at w0
      cases w0
      refine ⟨a, _, rfl, ha, rfl, _, _, rfl, _, _, rfl, _, _, rfl, rfl, ?_⟩
      refine ⟨_, rfl, _, _, rfl, .str r, _, rfl, iteN (by rw [rr]; decide) ?_⟩
      refine ⟨_, rfl, p, dx, _, rfl, e, rfl, _, rfl, _, rfl, _, rfl, p, nm, _, _, .str r, _, b1, d1, d2, d3, d4, rfl, PK, .str r, w2, ?_, PO.withRule rr em, q⟩
      have zz := (z2.2.2 md mm).ruleM (modeD_parts (all2 md mm)).2.1 lr
      unfold ruleM at zz
      rw [modeD_name (all2 md mm), mn] at zz
      exact zz
    · rw [no nm rfl] at em
      cases em
end
/-! ### is_same -/
section
variable {P : Program} {w : World} {K : PySem.W.Frag} {mg : Str → Option Value} {base : Heap} {aR : Addr}
def spSame : Sp := fun vs H Q _ => ∃ v0 v1 d0 d1, vs = [v0, v1] ∧ Dt Z0 H v0 d0 ∧ Dt Z0 H v1 d1 ∧ NI d0 ∧ NI d1 ∧ Q (.bl (decide (leafD d0 = leafD d1))) H
abbrev s_is_same : Stmt := top 38
abbrev N_is_same : List Str := ["one", "other"]
theorem sc_is_same : FnScope N_is_same ["one", "other"] (defScope s_is_same) := ⟨rfl, rfl, rfl, by decide +kernel, rfl, by decide +kernel, by decide +kernel⟩
theorem ok_is_same (h : Has K mg "is_same" s_is_same ["one", "other"]) (O_is_integer : Ok P w K mg base 1 "is_integer" ["value"] spIsInt) : Ok P w K mg base 2 "is_same" ["one", "other"] spSame := by
  obtain ⟨f, fd, g, b, F⟩ := h
  refine ⟨f, fd, g, F.kp, b, F.ok sc_is_same (fun vs H Q E h => ?_) (fun cdv A outer s H vs Q E hr h => ?_)⟩
  · obtain ⟨v0, v1, d0, d1, rfl, _⟩ := h
    rfl
  · obtain ⟨v0, v1, d0, d1, rfl, h0, h1, n0, n1, q⟩ := h
    refine ⟨_, (pss_cons (ps_if (pt_cmpR op_isN (pv 0) pe_non (nomark _))
        (pss_one (ps_ret (pe_cmpR op_isN (pv 1) pe_non (nomark _))))
        pss_nil)
      (pss_one (ps_ret (pe_and (pe_cO O_is_integer (hr.mono (by decide)) pass0 rfl (pa_cons (pv 1) pa_nil)) (pe_one (pe_cmpR op_eq (pv 0) (pv 1) (nomark _))))))), ?_⟩
    rcases n0 with rfl | ⟨i, rfl⟩
    · cases h0
      refine ⟨_, rfl, rfl, _, rfl, iteP (by decide) ?_⟩
      refine ⟨_, rfl, rfl, ?_⟩
      rcases n1 with rfl | ⟨j, rfl⟩
      · cases h1
        exact q
      · cases h1
        exact q
    · cases h0
      refine ⟨_, rfl, rfl, _, rfl, iteN (by simp) ?_⟩
      refine ⟨_, rfl, v1, d1, rfl, h1, _, rfl, ?_⟩
      rcases n1 with rfl | ⟨j, rfl⟩
      · refine iteF ?_
        exact q
      · cases h1
        refine iteT ?_
        refine ⟨_, rfl, _, rfl, ?_⟩
        have eq : decide (leafD (.int i) = leafD (.int j)) = decide (V.int i = V.int j) := by
          simp [leafD]
        rw [eq] at q
        exact ⟨rfl, q⟩
end
/-! ### place_of -/
section
variable {P : Program} {w : World} {K : PySem.W.Frag} {mg : Str → Option Value} {base : Heap} {aR : Addr}
/-- the place of the row for the sign and the remainder, or behind the others -/
def placeD (ds : List PyData) (a b : PyData) : Nat := ds.findIdx fun r => decide (leafD (itD r 0) = leafD a) && decide (leafD (itD r 1) = leafD b)
def spPlace : Sp := fun vs H Q _ => ∃ v v1 v2 ds a b, vs = [v, v1, v2] ∧ Dt Z0 H v (.tuple ds) ∧ Dt Z0 H v1 a ∧ Dt Z0 H v2 b ∧ (∀ r ∈ ds, RowS r) ∧ NI a ∧ NI b ∧ ds.length ≤ 1000 ∧ ∀ H', Same H H' → Q (.int (placeD ds a b : Nat)) H'
abbrev s_place_of : Stmt := top 39
abbrev N_place_of : List Str := ["rows", "sign", "remainder", "at", "row"]
theorem sc_place_of : FnScope N_place_of ["rows", "sign", "remainder"] (defScope s_place_of) := ⟨rfl, rfl, rfl, by decide +kernel, rfl, by decide +kernel, by decide +kernel⟩
theorem ok_place_of (h : Has K mg "place_of" s_place_of ["rows", "sign", "remainder"]) (PT : PTx K mg aR) (O_is_same : Ok P w K mg base 2 "is_same" ["one", "other"] spSame) : Ok P w K mg base 3 "place_of" ["rows", "sign", "remainder"] spPlace := by
  obtain ⟨f, fd, g, b, F⟩ := h
  have T := PT.T
  refine ⟨f, fd, g, F.kp, b, F.ok sc_place_of (fun vs H Q E h => ?_) (fun cdv A outer s H vs Q E hr h => ?_)⟩
  · obtain ⟨v, v1, v2, ds, a, b, rfl, _⟩ := h
    rfl
  · obtain ⟨v, v1, v2, ds, a, b, rfl, hd, ha, hb, rws, na, nb, few, q⟩ := h
    obtain ⟨l, xs, rfl, dx, hl, _, _⟩ := hd.tupOf rfl
    have ln := dx.len
    refine ⟨_, (pss_cons (ps_for PassesOwn.never rfl (pi_enumS (by rfl) T.enumerate (pa_cons (pv 0) pa_nil)) (pgT (n := 2) (by rfl) (pgs_cons (pg_name (i := 3) sc_place_of.nd rfl (.inl rfl)) (pgs_cons (pg_name (i := 4) sc_place_of.nd rfl (.inl rfl)) pgs_nil)))
        (pss_one (ps_if (PW.pt (pw_and (pt_val (pe_cO O_is_same (hr.mono (by decide)) pass0 rfl (pa_cons (pe_ix ixt (pv 4) pe_int (fun _ _ => rfl)) (pa_cons (pv 1) pa_nil)))) (pw_and1 (pt_val (pe_cO O_is_same (hr.mono (by decide)) pass0 rfl (pa_cons (pe_ix ixt (pv 4) pe_int (fun _ _ => rfl)) (pa_cons (pv 2) pa_nil)))))))
          (pss_one (ps_ret (pv 3)))
          pss_nil)))
      (pss_one (ps_ret (pe_callB lenT (by rfl) T.len bb_len (pa_cons (pv 0) pa_nil))))), ?_⟩
    refine ⟨_, rfl, l, xs, .tup xs, rfl, .inr rfl, hl, fun J wk => for_it wk (fun i σ H' => Same H H' ∧ placeD ds a b = i + placeD (ds.drop i) a b ∧ ∃ v3 v4 : Option V, σ = [some (.ref l), some v1, some v2, v3, v4])
      ⟨Same.refl _, by simp, none, none, rfl⟩ (fun i σ H' _ z => z.1 _ _ hl) ?_ ?_⟩
    · rintro i x σ H1 H2 hi ⟨s1, ew, v3, v4, rfl⟩ ⟨T', x', y', rfl, hT, rfl, e1, e2⟩
      have e2 : xs[i]? = some y' := e2
      have e1 : some (V.int (i : Nat)) = some x' := e1
      obtain rfl := Option.some.inj e1
      obtain ⟨di, ei, dt⟩ := dx.get e2
      have ei : ds[i]? = some di := ei
      have s2 : Same H1 (upd H1 T' (.tup [.int (i : Nat), y'])) := Same.new hT
      have d2 : (upd H1 T' (.tup [.int (i : Nat), y'])) T' = some (.tup [.int (i : Nat), y']) := upd_same
      generalize upd H1 T' (.tup [.int (i : Nat), y']) = H2 at s2 d2 ⊢
      refine ⟨T', _, rfl, d2, rfl, _, _, rfl, _, _, rfl, rfl, ?_⟩
      have s12 := s1.trans s2
      have dt2 := dt.fr (Fm.of s12)
      obtain ⟨t1, t2, n0, n1⟩ := rws di (List.mem_of_getElem? ei)
      have more : ds.drop i = di :: ds.drop (i + 1) := by
        obtain ⟨lt, e⟩ := List.getElem?_eq_some_iff.mp ei
        rw [List.drop_eq_getElem_cons lt, e]
      obtain ⟨a2, ys, rfl, dy, ha2, _, _⟩ := dt2.tupOf t1
      obtain ⟨y0, y1, y2, y3, c0, c1, c2, c3, rfl, eds, w0, w1, w2, w3⟩ := four_dt dy t2
      have q0 : itD di 0 = c0 := by unfold itD; rw [eds]; rfl
      have q1 : itD di 1 = c1 := by unfold itD; rw [eds]; rfl
      have pl : placeD (ds.drop i) a b = if (decide (leafD c0 = leafD a) && decide (leafD c1 = leafD b)) = true then 0 else placeD (ds.drop (i + 1)) a b + 1 := by
        rw [more]
        unfold placeD
        rw [List.findIdx_cons, q0, q1]
        cases (decide (leafD c0 = leafD a) && decide (leafD c1 = leafD b)) <;> rfl
      rw [q0] at n0
      rw [q1] at n1
      dsimp only
      refine PureT.ifs (x := decide (leafD c0 = leafD a) && decide (leafD c1 = leafD b)) (PureT.and ?c0 ?c1) (fun tt H3 s3 => ?ret) (fun ff H3 s3 => ?go)
      case c0 =>
        exact fun Q q => ⟨_, rfl, a2, _, 0, _, rfl, rfl, ha2, atI0, _, rfl, y0, v1, c0, a, rfl, w0, ha.fr (Fm.of s12), n0, na, _, rfl, q _ (Same.refl _)⟩
      case c1 =>
        exact fun _ H3 s3 Q q => ⟨_, rfl, a2, _, 1, _, rfl, rfl, s3 _ _ ha2, atI1, _, rfl, y1, v2, c1, b, rfl, w1.fr (Fm.of s3), (hb.fr (Fm.of s12)).fr (Fm.of s3), n1, nb, _, rfl, q _ (Same.refl _)⟩
      case ret =>
        have q := q H3 (s12.trans s3)
        rw [ew, pl, if_pos tt] at q
        exact ⟨_, rfl, q⟩
      case go =>
        refine ⟨s12.trans s3, ?_, _, _, rfl⟩
        rw [ew, pl, if_neg (by rw [ff]; decide)]
        omega
    · rintro σ H1 ⟨s1, ew, v3, v4, rfl⟩
      have q := q H1 s1
      have ln : xs.length = ds.length := ln
      have z : placeD ds a b = xs.length := by
        rw [ew, List.drop_eq_nil_of_le (by omega)]
        rfl
      rw [z] at q
      exact ⟨_, rfl, l, _, rfl, .inr (s1 _ _ hl), q⟩
end
/-! ### with_row, by data -/
section
def fitsD (a b d : PyData) : Bool := decide (leafD (itD d 0) = leafD a) && decide (leafD (itD d 1) = leafD b)
/-- the rows with this row in place of the one of its key, or behind the others -/
def setRow (row : PyData) : List PyData → List PyData
  | [] => [row]
  | d :: ds => if fitsD (itD row 0) (itD row 1) d = true then row :: ds else d :: setRow row ds
theorem setRow_eq {row : PyData} : ∀ {ds : List PyData}, setRow row ds = ds.take (placeD ds (itD row 0) (itD row 1)) ++ row :: ds.drop (placeD ds (itD row 0) (itD row 1) + 1)
  | [] => rfl
  | d :: ds => by
    have ih := setRow_eq (row := row) (ds := ds)
    have pl : placeD (d :: ds) (itD row 0) (itD row 1) = if fitsD (itD row 0) (itD row 1) d = true then 0 else placeD ds (itD row 0) (itD row 1) + 1 := by
      unfold placeD fitsD
      rw [List.findIdx_cons]
      cases (decide (leafD (itD d 0) = leafD (itD row 0)) && decide (leafD (itD d 1) = leafD (itD row 1))) <;> rfl
    rw [setRow, pl]
    split
    · rfl
    · rw [ih]
      rfl
theorem eqv_ni {a b : PyData} (n : NI a) (m : NI b) (h : PyData.eqv a b = true) : a = b := by
  rcases n with rfl | ⟨i, rfl⟩ <;> rcases m with rfl | ⟨j, rfl⟩ <;> simp [PyData.eqv] at h ⊢
  exact h
def NIK (k : PyData) : Prop := ∃ a b, k = .tuple [a, b] ∧ NI a ∧ NI b
theorem eqv_nik {k z : PyData} (n : NIK k) (m : NIK z) (h : PyData.eqv z k = true) : z = k := by
  obtain ⟨a, b, rfl, na, nb⟩ := n
  obtain ⟨c, d, rfl, nc, nd⟩ := m
  have both : PyData.eqv c a = true ∧ PyData.eqv d b = true := by simpa [PyData.eqv, PyData.eqvAll] using h
  rw [eqv_ni nc na both.1, eqv_ni nd nb both.2]
theorem keyIn_no {k : PyData} {ks : List PyData} (h : ∀ z ∈ ks, NIK z) (n : NIK k) (no : k ∉ ks) : keyIn k ks = false := by
  refine List.any_eq_false.mpr fun z hz e => no ?_
  rw [← eqv_nik n (h z hz) e]
  exact hz
theorem RowS.nik {d : PyData} (r : RowS d) : NIK (keyD d) := ⟨_, _, rfl, r.2.2.1, r.2.2.2⟩
theorem wrongRow_of {size : Int} {many : Nat} {zs : List Str} : ∀ {ds ks : List PyData} {i : Nat}, (∀ x ∈ ds, rowD x size many zs = true) → (∀ z ∈ ks, NIK z) → (ks ++ ds.map keyD).Nodup → keyIn (.tuple [.none, .none]) (ks ++ ds.map keyD) = true → wrongRow size many zs ds ks i = none
  | [], ks, i, _, _, _, h => by
    rw [wrongRow, if_pos (by simpa using h)]
  | d :: ds, ks, i, hr, hk, n, h => by
    have nk : NIK (keyD d) := RowS.nik (rowD_NI (hr d List.mem_cons_self))
    have no : keyD d ∉ ks := fun m => by
      rw [List.map_cons, List.nodup_append] at n
      exact n.2.2 _ m _ List.mem_cons_self rfl
    rw [wrongRow, hr d List.mem_cons_self, keyIn_no hk nk no, if_neg (by decide)]
    refine wrongRow_of (fun x hx => hr x (List.mem_cons_of_mem _ hx)) (fun z hz => ?_) (by simpa using n) (by simpa using h)
    rcases List.mem_append.mp hz with hz | hz
    · exact hk z hz
    · rw [List.mem_singleton.mp hz]
      exact nk
theorem setRow_keys {row : PyData} (n0 : NI (itD row 0)) (n1 : NI (itD row 1)) : ∀ {ds : List PyData}, (∀ x ∈ ds, RowS x) → (setRow row ds).map keyD = ds.map keyD ∨ (keyD row ∉ ds.map keyD ∧ (setRow row ds).map keyD = ds.map keyD ++ [keyD row])
  | [], _ => .inr ⟨by simp, rfl⟩
  | d :: ds, r => by
    obtain ⟨_, _, m0, m1⟩ := r d List.mem_cons_self
    rw [setRow]
    split
    · rename_i c
      obtain ⟨c1, c2⟩ := Bool.and_eq_true_iff.mp c
      refine .inl ?_
      rw [List.map_cons, List.map_cons]
      unfold keyD
      rw [leafD_inj m0 n0 (of_decide_eq_true c1), leafD_inj m1 n1 (of_decide_eq_true c2)]
    · rename_i c
      have nk : keyD row ≠ keyD d := fun e => c (by
        unfold keyD at e
        injection e with e
        injection e with e1 e2
        injection e2 with e2 _
        unfold fitsD
        rw [e1, e2, decide_eq_true rfl, decide_eq_true rfl]
        rfl)
      rcases setRow_keys n0 n1 (ds := ds) (fun x h => r x (List.mem_cons_of_mem _ h)) with z | ⟨z1, z2⟩
      · exact .inl (by rw [List.map_cons, List.map_cons, z])
      · refine .inr ⟨fun m => ?_, by rw [List.map_cons, List.map_cons, z2]; rfl⟩
        rw [List.map_cons] at m
        rcases List.mem_cons.mp m with m | m
        · exact nk m
        · exact z1 m
theorem setRow_mem {row x : PyData} : ∀ {ds : List PyData}, x ∈ setRow row ds → x = row ∨ x ∈ ds
  | [], h => .inl (List.mem_singleton.mp h)
  | d :: ds, h => by
    rw [setRow] at h
    split at h
    · rcases List.mem_cons.mp h with h | h
      · exact .inl h
      · exact .inr (List.mem_cons_of_mem _ h)
    · rcases List.mem_cons.mp h with h | h
      · exact .inr (h ▸ List.mem_cons_self)
      · rcases setRow_mem h with h | h
        · exact .inl h
        · exact .inr (List.mem_cons_of_mem _ h)
theorem setRow_ok {size : Int} {many : Nat} {zs : List Str} {row : PyData} {ds : List PyData} (h : wrongRow size many zs ds [] 0 = none) (hr : rowD row size many zs = true) : wrongRow size many zs (setRow row ds) [] 0 = none := by
  obtain ⟨r1, r2⟩ := wrongRow_rows h
  have nd := r2 List.nodup_nil
  have la := wrongRow_none h
  rw [List.nil_append] at nd la
  obtain ⟨_, _, n0, n1⟩ := rowD_NI hr
  have keys := setRow_keys (row := row) n0 n1 fun x hx => rowD_NI (r1 x hx)
  refine wrongRow_of (fun x hx => ?_) (fun z hz => by cases hz) ?_ ?_
  · rcases setRow_mem hx with rfl | hx
    · exact hr
    · exact r1 x hx
  · rw [List.nil_append]
    rcases keys with k | ⟨k1, k2⟩
    · rw [k]
      exact nd
    · rw [k2]
      refine List.nodup_append.mpr ⟨nd, by simp, fun a ha b hb => ?_⟩
      rw [List.mem_singleton.mp hb]
      exact fun m => k1 (m ▸ ha)
  · rw [List.nil_append]
    rcases keys with k | ⟨k1, k2⟩
    · rw [k]
      exact la
    · rw [k2]
      unfold keyIn at la ⊢
      rw [List.any_append, la]
      rfl
end
/-! ### with_row -/
section
variable {P : Program} {w : World} {K : PySem.W.Frag} {mg : Str → Option Value} {base : Heap} {aR CP CB CG CM CI CE CR CU : Addr}
theorem PartsOk.withMode {d0 d1 d2 d3 d4 r md : PyData} {s : Str} {rs : List PyData} (h : PartsOk d0 d1 d2 d3 d4) (hr : ruleD r = true) (em : modeOf (itemsD d2) s = some md) (ok : wrongRow (sizeD d0) (itemsD d1).length ((itemsD d2).map nmOf) rs [] 0 = none) : PartsOk d0 (.tuple (itemsD d1)) (.list ((itemsD d2).map (withM s r (.tuple rs)))) (.tuple (itemsD d3)) d4 := by
  obtain ⟨s2, m4, all2⟩ := partsD_all h.modes
  have ro := rowsErr_none h.rows
  obtain ⟨mm, mn⟩ := modeOf_some em
  have mk := all2 md mm
  have nd : nameD (.str s) = true := by
    have z := mk
    unfold modeD at z
    simp only [Bool.and_eq_true] at z
    have z := z.2.2.1
    rw [modeD_name mk, mn] at z
    exact z
  have go : ∀ m ∈ itemsD d2, modeD (withM s r (.tuple rs) m) = true ∧ nmOf (withM s r (.tuple rs) m) = nmOf m ∧
      wrongRow (sizeD d0) (itemsD d1).length ((itemsD d2).map nmOf) (itemsD (itD (withM s r (.tuple rs) m) 2)) [] 0 = none := fun m hm => by
    unfold withM
    split
    · rename_i c
      refine ⟨?_, c.symm, ok⟩
      show (true && (decide (3 = 3) && (nameD (.str s) && (ruleD r && true)))) = true
      rw [nd, hr]
      rfl
    · have e : normM m = ruleM (itD m 1) m := rfl
      rw [e]
      obtain ⟨a, b, e⟩ := ruleM_ok (all2 m hm) (modeD_rule (all2 m hm))
      exact ⟨a, b, by rw [e]; exact ro m hm⟩
  refine h.again rfl (List.length_map _) ?_ ?_ ?_
  · show ((itemsD d2).map _).map nmOf = _
    rw [List.map_map]
    exact List.map_congr_left fun m hm => (go m hm).2.1
  · intro m hm
    obtain ⟨m0, hm2, rfl⟩ := List.mem_map.mp hm
    exact (go m0 hm2).1
  · intro m hm
    obtain ⟨m0, hm2, rfl⟩ := List.mem_map.mp hm
    exact (go m0 hm2).2.2
theorem rSlA_same {H : Hp} {a : Addr} {xs : List V} {lo hi : Option Int} {Q : VK} (h : H a = some (.tup xs)) (q : ∀ p H', Same H H' → H' p = some (.tup (cutV xs lo hi)) → Q (.ref p) H') : rSlA K (.ref a) lo hi H Q := by
  refine ⟨a, xs, rfl, SqT.of h, fun c => q a H (Same.refl _) ?_, fun _ p hp => q p _ (Same.new hp) upd_same⟩
  have z : cutV xs lo hi = xs := by
    unfold cutV
    rw [c.1, c.2]
    simp
  rw [z]
  exact h
theorem cut_take {xs : List V} {k : Nat} : cutV xs none (some (k : Int)) = xs.take k := by
  unfold cutV
  rw [HT.sIx_none, HT.sIx_nat]
  rcases Nat.le_total k xs.length with h | h
  · rw [Nat.min_eq_left h]
    simp
  · rw [Nat.min_eq_right h, List.take_of_length_le h]
    simp
theorem cut_drop {xs : List V} {k : Nat} : cutV xs (some ((k : Int) + 1)) none = xs.drop (k + 1) := by
  have e : ((k : Int) + 1) = ((k + 1 : Nat) : Int) := by omega
  unfold cutV
  rw [e, HT.sIx_none, HT.sIx_nat]
  rcases Nat.le_total (k + 1) xs.length with h | h
  · rw [Nat.min_eq_left h]
    exact List.take_of_length_le (by rw [List.length_drop]; exact Nat.le_refl _)
  · rw [Nat.min_eq_right h, List.drop_eq_nil_of_le h, List.drop_eq_nil_of_le (Nat.le_refl _)]
    simp
theorem DtAll.put {Z : Addr → Prop} {H : Hp} {y : V} {row : PyData} : ∀ {xs : List V} {ds : List PyData}, DtAll Z H xs ds → Dt Z H y row → ∀ k, DtAll Z H (xs.take k ++ y :: (xs.drop (k + 1) ++ [])) (ds.take k ++ row :: ds.drop (k + 1))
  | _, _, .nil, h, k => by
    simp only [List.take_nil, List.drop_nil]
    exact .cons h .nil
  | _, _, .cons a t, h, 0 => by
    rw [List.append_nil]
    exact .cons h t
  | _, _, .cons a t, h, k + 1 => .cons a (DtAll.put t h k)
abbrev s_Program_with_row : Stmt := inClass (top 40) 16
abbrev N_Program_with_row : List Str := ["self", "mode", "sign", "remainder", "updates", "then", "name", "rule", "rows", "at", "row"]
theorem sc_Program_with_row : FnScope N_Program_with_row ["self", "mode", "sign", "remainder", "updates", "then"] (defScope s_Program_with_row) := ⟨rfl, rfl, rfl, by decide +kernel, rfl, by decide +kernel, by decide +kernel⟩
def spPWithRow (P : Program) (w : World) (CP : Addr) : Sp := fun vs H Q _ => ∃ p s v2 v3 v4 v5 a0 b0 u0 t0 md b d1 d2 d3 d4, vs = [.ref p, .str s, v2, v3, v4, v5] ∧ ProgOk P w CP H p b d1 d2 d3 d4 ∧ modeOf (itemsD d2) s = some md ∧ Dt Z0 H v2 a0 ∧ Dt Z0 H v3 b0 ∧ Dt Z0 H v4 u0 ∧ Dt Z0 H v5 t0 ∧
  rowD (.tuple [a0, b0, u0, t0]) (sizeD (.int b)) (itemsD d1).length ((itemsD d2).map nmOf) = true ∧ Sz 3 (.tuple (setRow (.tuple [a0, b0, u0, t0]) (itemsD (itD md 2)))) ∧
  ∀ c H', H c = none → Same H H' → ProgOk P w CP H' c b (.tuple (itemsD d1)) (.list ((itemsD d2).map (withM s (itD md 1) (.tuple (setRow (.tuple [a0, b0, u0, t0]) (itemsD (itD md 2))))))) (.tuple (itemsD d3)) d4 → Q (.ref c) H'
theorem ok_Program_with_row {f : Addr} {fd : FuncData} (F : Fun K "with_row" "Program.with_row" s_Program_with_row f fd) (C : PCls K mg CP) (O_place_of : Ok P w K mg base 3 "place_of" ["rows", "sign", "remainder"] spPlace) (mM : OwnMeth P w K mg base CP 3 "_mode" ["self", "mode"] (spPMode P w CP CU))
    (mW : OwnMeth P w K mg base CP 10 "_with_mode" ["self", "name", "rule", "rows"] (spPWith P w CP)) :
    FnOk P w K mg base (L2.CX P w) 11 f fd ["self", "mode", "sign", "remainder", "updates", "then"] (spPWithRow P w CP) := by
  refine F.okX sc_Program_with_row (fun vs H Q E h => ?_) (fun cdv A outer s H vs Q E hr h => ?_)
  · obtain ⟨p, nm, v2, v3, v4, v5, a0, b0, u0, t0, md, b1, d1, d2, d3, d4, rfl, _⟩ := h
    rfl
  · obtain ⟨p, nm, v2, v3, v4, v5, a0, b0, u0, t0, md, b1, d1, d2, d3, d4, rfl, PK, em, h2, h3, h4, h5, rok, zr, q⟩ := h
    obtain ⟨⟨dx, vr, vm, ve, va, vt, e, a1, a2, a3, a4, a5⟩, PO, z1, z2⟩ := id PK
    obtain ⟨sq2, m4, all2⟩ := partsD_all PO.modes
    obtain ⟨mm, mn⟩ := modeOf_some em
    obtain ⟨_, _, na, nb⟩ := rowD_NI rok
    have rws := (PO.row mm).1
    have few := ((z2.2.2 md mm).item 2).1
    refine ⟨_, (pss_cons (ps_asg (pe_methO (pv 0) C.cl mM (hr.mono (by decide)) (passes_call (takes_of rfl rfl rfl rfl) (fun _ _ _ _ z => z)) (pa_cons (pv 1) pa_nil)) (pgT (n := 3) (by rfl) (pgs_cons (pg_name (i := 6) sc_Program_with_row.nd rfl (.inl rfl)) (pgs_cons (pg_name (i := 7) sc_Program_with_row.nd rfl (.inl rfl)) (pgs_cons (pg_name (i := 8) sc_Program_with_row.nd rfl (.inl rfl)) pgs_nil)))))
      (pss_cons (ps_set (i := 9) sc_Program_with_row.nd rfl (.inl rfl) (pe_cO O_place_of (hr.mono (by decide)) pass0 rfl (pa_cons (pv 8) (pa_cons (pv 2) (pa_cons (pv 3) pa_nil)))))
      (pss_cons (ps_set (i := 10) sc_Program_with_row.nd rfl (.inl rfl) (pe_tup (pa_cons (pv 2) (pa_cons (pv 3) (pa_cons (pv 4) (pa_cons (pv 5) pa_nil))))))
      (pss_one (ps_ret (pe_methO (pv 0) C.cl mW (hr.mono (by decide)) (passes_call (takes_of rfl rfl rfl rfl) (fun _ _ _ _ z => z)) (pa_cons (pv 6) (pa_cons (pv 7) (pa_cons (pe_tup (StX.pa_star (pe_slice sl_tupA (pv 8) po_none (po_some (pv 9))) (pa_cons (pv 10) (StX.pa_star (pe_slice sl_tupA (pv 8) (po_some (pe_op op_add (pv 9) pe_int)) po_none) pa_nil)))) pa_nil))))))))), ?_⟩
    refine ⟨_, rfl, p, dx, _, rfl, e, rfl, _, rfl, p, .str nm, .str nm, b1, d1, d2, d3, d4, rfl, .str nm, PK, fun s md' es em' u hu => ?_, fun no => ?_⟩
    · cases es
      rw [em] at em'
      cases em'
      obtain ⟨a, y0, y1, y2, rfl, ha, w0, w1, w2⟩ := hu.three
      rw [modeD_name (all2 md mm), mn] at w0
      cases w0
      refine ⟨a, _, rfl, ha, rfl, _, _, rfl, _, _, rfl, _, _, rfl, rfl, ?_⟩
      refine ⟨_, rfl, _, rfl, _, rfl, _, _, _, _, _, _, rfl, w2, h2, h3, rws, na, nb, few, fun G1 s1 => ?_⟩
      refine ⟨_, rfl, _, rfl, _, rfl, _, rfl, by show 4 ≤ sizeLine; decide, fun t nt => ?_⟩
      have s2 : Same G1 (upd G1 t (.tup [v2, v3, v4, v5])) := Same.new nt
      have d2' : (upd G1 t (.tup [v2, v3, v4, v5])) t = some (.tup [v2, v3, v4, v5]) := upd_same
      generalize upd G1 t (.tup [v2, v3, v4, v5]) = G2 at s2 d2' ⊢
      have s12 := s1.trans s2
      obtain ⟨l8, xs8, rfl, dx8, hl8, _, _⟩ := w2.tupOf rfl
      refine ⟨_, rfl, p, dx, _, rfl, s12 _ _ e, rfl, _, rfl, _, rfl, _, rfl, _, rfl, _, rfl, rSlA_same (s12 _ _ hl8) fun p1 G3 s3 e3 => ?_⟩
      rw [cut_take] at e3
      refine ⟨p1, _, rfl, .inl (SqT.of e3), _, rfl, _, rfl, _, rfl, _, _, rfl, rfl, _, rfl, ?_⟩
      dsimp only [tNoPart]
      refine rSlA_same (s3 _ _ (s12 _ _ hl8)) fun p2 G4 s4 e4 => ?_
      rw [cut_drop] at e4
      have s14 := (s12.trans s3).trans s4
      have ln := dx8.len
      have dall := (DtAll.put (dx8.fr (Fm.of s14)) (.tup ((s3.trans s4) _ _ d2') id (.cons (h2.fr (Fm.of s14)) (.cons (h3.fr (Fm.of s14)) (.cons (h4.fr (Fm.of s14)) (.cons (h5.fr (Fm.of s14)) .nil))))) (placeD (itemsD (itD md 2)) a0 b0))
      refine ⟨p2, _, rfl, .inl (SqT.of e4), ?_, fun c nc => ?_⟩
      · have l8 : xs8.length = (itemsD (itD md 2)).length := ln
        have sl : 1001 ≤ sizeLine := by decide
        simp only [List.length_append, List.length_take, List.length_cons, List.length_drop, List.length_nil]
        omega
      · have s5 : Same G4 (upd G4 c (.tup (List.take (placeD (itemsD (itD md 2)) a0 b0) xs8 ++ V.ref t :: (List.drop (placeD (itemsD (itD md 2)) a0 b0 + 1) xs8 ++ [])))) := Same.new nc
        have s15 := s14.trans s5
        have zz := z2.2.2 md mm
        have n0 := zz.item 0
        rw [modeD_name (all2 md mm), mn] at n0
        refine ⟨p, nm, y1, .ref c, itD md 1, .tuple (setRow (.tuple [a0, b0, u0, t0]) (itemsD (itD md 2))), b1, d1, d2, d3, d4, rfl, ⟨PK.1.same s15, PO, z1, z2⟩, w1.fr (Fm.of s15), .tup upd_same id ?_, ⟨by show 3 ≤ 1000; decide, fun s e => (by cases e), fun x hx => ?_⟩, PO.withMode (modeD_rule (all2 md mm)) em (setRow_ok (rowsErr_none PO.rows md mm) rok), fun c2 H' nc2 k PA => q c2 H' ?_ (s15.trans k) PA⟩
        · rw [setRow_eq]
          exact dall.fr (Fm.of s5)
        · have hx : x = .str nm ∨ x = itD md 1 ∨ x = .tuple (setRow (.tuple [a0, b0, u0, t0]) (itemsD (itD md 2))) := by simpa [itemsD] using hx
          rcases hx with rfl | rfl | rfl
          · exact n0
          · exact zz.item 1
          · exact zr
        · cases e9 : H c2 with
          | none => rfl
          | some o => rw [s15 _ _ e9] at nc2; cases nc2
    · rw [no nm rfl] at em
      cases em
end
/-! ### changed -/
section
variable {P : Program} {w : World} {K : PySem.W.Frag} {mg : Str → Option Value} {base : Heap} {aR CP CB CG CM CI CE CR CU : Addr}
abbrev s_Program_changed : Stmt := inClass (top 40) 13
abbrev N_Program_changed : List Str := ["self", "base", "ends", "result"]
theorem sc_Program_changed : FnScope N_Program_changed ["self", "base", "ends", "result"] (defScope s_Program_changed) := ⟨rfl, rfl, rfl, by decide +kernel, rfl, by decide +kernel, by decide +kernel⟩
def orOwn (H : Hp) (v : V) (d0 d : PyData) : Prop := (v = .non ∧ d = d0) ∨ (v ≠ .non ∧ Dt Z0 H v d)
def spPChanged (P : Program) (w : World) (CP : Addr) : Sp := fun vs H Q _ => ∃ p v1 v2 v3 b d1 d2 d3 d4 b' d3' d4', vs = [.ref p, v1, v2, v3] ∧ ProgOk P w CP H p b d1 d2 d3 d4 ∧ orOwn H v1 (.int b) (.int b') ∧ orOwn H v2 (.tuple (itemsD d3)) d3' ∧ orOwn H v3 d4 d4' ∧
  PartsOk (.int b') (.tuple (itemsD d1)) (.tuple ((itemsD d2).map normM)) d3' d4' ∧
  ∀ c H', H c = none → Same H H' → ProgOk P w CP H' c b' (.tuple (itemsD d1)) (.tuple ((itemsD d2).map normM)) d3' d4' → Q (.ref c) H'
theorem ok_Program_changed {f : Addr} {fd : FuncData} (F : Fun K "changed" "Program.changed" s_Program_changed f fd) (C : PCls K mg CP) (mk : MkP P w K mg base CP CB CG CM CI CE CR) :
    FnOk P w K mg base (L2.CX P w) 10 f fd ["self", "base", "ends", "result"] (spPChanged P w CP) := by
  refine F.okX sc_Program_changed (fun vs H Q E h => ?_) (fun cdv A outer s H vs Q E hr h => ?_)
  · obtain ⟨p, v1, v2, v3, b1, d1, d2, d3, d4, b', d3', d4', rfl, _⟩ := h
    rfl
  · obtain ⟨p, v1, v2, v3, b1, d1, d2, d3, d4, b', d3', d4', rfl, PK, o1, o2, o3, PU, q⟩ := h
    obtain ⟨⟨dx, vr, vm, ve, va, vt, e, a1, a2, a3, a4, a5⟩, PO, z1, z2⟩ := id PK
    refine ⟨_, (pss_one (ps_ret (pe_mkP mk C.at_ (hr.mono (by decide)) passL rfl (pa_cons (pe_ifExp (pt_cmpR op_isN (pv 1) pe_non (nomark _)) (pe_fld (pv 0) rfl) (pv 1)) (pa_cons (pe_fld (pv 0) rfl) (pa_cons (pe_fld (pv 0) rfl) (pa_cons (pe_ifExp (pt_cmpR op_isN (pv 2) pe_non (nomark _)) (pe_fld (pv 0) rfl) (pv 2)) (pa_cons (pe_ifExp (pt_cmpR op_isN (pv 3) pe_non (nomark _)) (pe_fld (pv 0) rfl) (pv 3)) pa_nil)))))))), ?_⟩
    have pick : ∀ {v o : V} {d0 d : PyData}, orOwn H v d0 d → Dt Z0 H o d0 → (v = .non ∧ Dt Z0 H o d) ∨ (v ≠ .non ∧ Dt Z0 H v d) := fun h ho => by
      rcases h with ⟨a, rfl⟩ | h
      · exact .inl ⟨a, ho⟩
      · exact .inr h
    obtain ⟨l3, l4⟩ := PU.few
    have zA : Sz 2 (.tuple (itemsD d1)) := ⟨z1.1, fun s e => (by cases e), z1.2.2⟩
    have zB : Sz 5 (.tuple ((itemsD d2).map normM)) := by
      refine ⟨?_, fun s e => (by cases e), fun x hx => ?_⟩
      · show ((itemsD d2).map normM).length ≤ 1000
        rw [List.length_map]
        exact z2.1
      · obtain ⟨md, hm, rfl⟩ := List.mem_map.mp hx
        exact (z2.2.2 md hm).normM
    rcases pick o1 (.int b1) with ⟨rfl, k1⟩ | ⟨n1, k1⟩ <;> rcases pick o2 a3 with ⟨rfl, k2⟩ | ⟨n2, k2⟩ <;> rcases pick o3 a4 with ⟨rfl, k3⟩ | ⟨n3, k3⟩
    all_goals (
      first
      | refine ⟨_, rfl, rfl, _, rfl, iteP (by decide) ⟨_, rfl, p, CP, dx, _, _, rfl, e, C.cl, C.n1, rfl, ?_⟩⟩
      | refine ⟨_, rfl, rfl, _, rfl, iteN (by simpa using n1) ⟨_, rfl, ?_⟩⟩
      refine ⟨_, rfl, p, CP, dx, _, _, rfl, e, C.cl, C.n2, rfl, _, rfl, p, CP, dx, _, _, rfl, e, C.cl, C.n3, rfl, ?_⟩
      first
      | refine ⟨_, rfl, rfl, _, rfl, iteP (by decide) ⟨_, rfl, p, CP, dx, _, _, rfl, e, C.cl, C.n4, rfl, ?_⟩⟩
      | refine ⟨_, rfl, rfl, _, rfl, iteN (by simpa using n2) ⟨_, rfl, ?_⟩⟩
      first
      | refine ⟨_, rfl, rfl, _, rfl, iteP (by decide) ⟨_, rfl, p, CP, dx, _, _, rfl, e, C.cl, C.n5, rfl, ?_⟩⟩
      | refine ⟨_, rfl, rfl, _, rfl, iteN (by simpa using n3) ⟨_, rfl, ?_⟩⟩
      refine fun c dc hc hd ne => ?_
      have sN : Same H (upd (upd H dc (.own c)) c (.ins CP dc [])) := new_same hc hd
      have up : ∀ {v : V} {d : PyData}, Dt Z0 H v d → Dt Z0 (upd (upd H dc (.own c)) c (.ins CP dc [])) v d := fun h => h.fr (Fm.of sN)
      refine ⟨c, dc, _, vr, vm, _, _, .int b', _, _, _, _, rfl, upd_same, up k1, up a1, up a2, up k2, up k3, zA, zB, l3, l4, fun _ H' k PA => ⟨rfl, ?_⟩, fun e he => ?_⟩
      · exact q c H' hc (fun b o e => k b o (sN _ _ e) (ne_of_none e hc)) ⟨PA, PU, zA, zB⟩
      · rw [partsOk_iff.mpr PU] at he
        cases he)
end
/-! ### == of trees that hold dicts whose keys are tuples -/
section
open PySem.SeqAt (EqIn)
variable {P : Program} {w : World} {s : Shared}
def EqS (P : Program) (w : World) (s : Shared) (n : Nat) (v u : Value) (b : Bool) : Prop := ∀ A : Around, A.units + n < cLine → EqIn P w A s v u b
theorem EqS.mono {n m : Nat} {v u : Value} {b : Bool} (h : EqS P w s n v u b) (l : n ≤ m) : EqS P w s m v u b := fun A hu => h A (by omega)
theorem EqS.same {n : Nat} {v : Value} : EqS P w s n v v true := fun A _ => (SeqAt.EqAt.same v).inModel P w
theorem samePairsH {κ : Type} [DecidableEq κ] {knd : HeapKind P w κ} {A : Around} {E : Value → Shared → Prop} {nm : String} {a b : Addr} {xa xb : List (κ × Addr × Value)} {e : κ → Bool} {Q : Bool → Shared → Prop} (ha : (a == sysModules) = false) (hb : (b == sysModules) = false) (hr : knd.room A)
    (da : s.heap.DictOfH knd a xa) (db : s.heap.DictOfH knd b xb) (hits : ∀ (i j : Nat) (k : κ) (p q : Addr × Value), xa[i]? = some (k, p) → xb[j]? = some (k, q) → EqIn P w A s p.2 q.2 (e k))
    (h : Q (xa.length == xb.length && xa.all fun x => (atKey xb x.1).isSome && e x.1) s) :
    wpAny (model P w) A (Builtin.Dict.samePairs nm a b) Q E s := by
  obtain ⟨oa, es, ep, hoa, _, hda, hea, hia, hna⟩ := da
  obtain ⟨ob, es', ep', hob, _, hdb, heb, hib, hnb⟩ := db
  have hla : es.size = xa.length := size_of_entries hea
  have hlb : es'.size = xb.length := size_of_entries heb
  unfold Builtin.Dict.samePairs Builtin.Dict.showsAll
  rw [if_neg (show ¬ (a == sysModules) = true by rw [ha]; exact Bool.false_ne_true), if_neg (show ¬ (b == sysModules) = true by rw [hb]; exact Bool.false_ne_true)]
  refine wpAny_bind (wpAny_pure (wpAny_bind (wpAny_pure ?_)))
  refine wpAny_bind (wpAny_dictEntries hoa hda ?_)
  dsimp only
  refine wpAny_bind (wpAny_dictEntries hob hdb ?_)
  by_cases hsz : es.size = es'.size
  case neg =>
    rw [if_pos (by simpa using hsz)]
    have hbf : (xa.length == xb.length) = false := by rw [← hla, ← hlb]; simpa using hsz
    rw [hbf, Bool.false_and] at h
    exact wpAny_bind (wpAny_rule (wpAny_pure h))
  case pos =>
    have hbt : (xa.length == xb.length) = true := by rw [← hla, ← hlb]; simpa using hsz
    rw [hbt, Bool.true_and] at h
    rw [if_neg (by rw [hsz]; simp)]
    refine wpAny_bind (wpAny_dictEpoch hoa hda ?_)
    refine wpAny_bind ?_
    rw [Std.Legacy.Range.forIn_eq_forIn_range']
    simp only [Std.Legacy.Range.size, Nat.sub_zero, Nat.add_sub_cancel, Nat.div_one]
    refine wpAny_forIn_list _
      (fun rest q s' => s' = s ∧ q = (none, ()) ∧ ∃ i, rest = List.range' i (es.size - i) ∧ i ≤ es.size ∧ Q ((xa.drop i).all fun x => (atKey xb x.1).isSome && e x.1) s)
      _ ?_ ?_ _ _ ⟨rfl, rfl, 0, by simp, Nat.zero_le _, by simpa using h⟩
    · rintro x rest q s' ⟨rfl, rfl, i, hr', hi, hpre⟩
      have hlt : i < es.size := by
        rcases Nat.lt_or_ge i es.size with h | h
        · exact h
        · rw [Nat.sub_eq_zero_of_le h] at hr'; simp at hr'
      obtain ⟨rfl, hrest⟩ : x = i ∧ rest = List.range' (i + 1) (es.size - (i + 1)) := by
        have e : es.size - i = (es.size - (i + 1)) + 1 := by omega
        rw [e, List.range'_succ] at hr'
        injection hr' with h1 h2
        exact ⟨h1, h2⟩
      refine wpAny_bind (wpAny_dictEntries hoa hda ?_)
      have hlt' : x < xa.length := by rw [← hla]; exact hlt
      obtain ⟨k, p, hkv⟩ : ∃ k p, xa[x]? = some (k, p) := ⟨_, _, List.getElem?_eq_getElem hlt'⟩
      have hdrop : xa.drop x = (k, p) :: xa.drop (x + 1) := by
        rw [List.getElem?_eq_getElem hlt'] at hkv
        rw [← Option.some.inj hkv]
        exact List.drop_eq_getElem_cons hlt'
      have hent : es[x]? = some (entryOfKey knd (k, p)) := by rw [entry_at hea, hkv]; rfl
      rw [hent]
      rw [hdrop, List.all_cons] at hpre
      show wpAny _ _ (holding [Value.ref p.1, p.2] _ >>= _) _ _ _
      refine wpAny_bind (wpAny_holding (wpAny_bind (wpAny_dictFind_heap (k := k) hr (hia _ (List.mem_of_getElem? hkv)) hob hdb heb hib hnb (fun no => ?_) (fun j q hj => ?_))))
      · rw [atKey_none_of_get no] at hpre
        refine wpAny_pure ?_
        show wpAny _ _ (if (!false) = true then _ else _) _ _ _
        rw [if_pos (by decide)]
        exact wpAny_pure (wpAny_pure (by simpa using hpre))
      · rw [atKey_of_get hnb hj] at hpre
        refine wpAny_bind (wpAny_dictEntries hob hdb ?_)
        rw [entry_at heb, hj]
        refine wpAny_holding (hits x j k p q hkv hj _ _ ?_)
        cases he : e k with
        | false =>
          rw [he] at hpre
          show wpAny _ _ (if (!false) = true then _ else _) _ _ _
          rw [if_pos (by decide)]
          exact wpAny_pure (wpAny_pure (by simpa using hpre))
        | true =>
          rw [he] at hpre
          show wpAny _ _ (if (!true) = true then _ else _) _ _ _
          rw [if_neg (by decide)]
          refine wpAny_bind (wpAny_dictEpoch hoa hda ?_)
          rw [if_neg (by simp)]
          exact wpAny_pure ⟨rfl, rfl, x + 1, hrest, hlt, by simpa using hpre⟩
    · rintro q s' ⟨rfl, rfl, i, hr', hi, hpre⟩
      have hin : i = es.size := by
        rcases Nat.lt_or_ge i es.size with h | h
        · have e : es.size - i = (es.size - (i + 1)) + 1 := by omega
          rw [e, List.range'_succ] at hr'; exact nomatch hr'
        · exact Nat.le_antisymm hi h
      refine wpAny_pure ?_
      rw [hin, hla, List.drop_length] at hpre
      exact hpre
theorem rc_dictsH {κ : Type} [DecidableEq κ] {knd : HeapKind P w κ} {A : Around} {E : Value → Shared → Prop} {a b : Addr} {xa xb : List (κ × Addr × Value)} {e : κ → Bool} {Q : Value → Shared → Prop} (ha : (a == sysModules) = false) (hb : (b == sysModules) = false) (hu : A.units < cLine) (hr : knd.room A.in1)
    (da : s.heap.DictOfH knd a xa) (db : s.heap.DictOfH knd b xb) (hits : ∀ (i j : Nat) (k : κ) (p q : Addr × Value), xa[i]? = some (k, p) → xb[j]? = some (k, q) → EqIn P w A.in1 s p.2 q.2 (e k))
    (h : Q (.bool (xa.length == xb.length && xa.all fun x => (atKey xb x.1).isSome && e x.1)) s) : wpAny (model P w) A (richCompare .Eq (.ref a) (.ref b)) Q E s := by
  refine wpAny_richCompare_same_room (op := .Eq) da.typeIs db.typeIs PySem.F.slot_dict_eq (wpAny_call_entry PySem.F.slot_dict_eq da.typeIs PySem.F.entry_dict_eq ?_ (PySem.F.args_dict_eq_2 _ _)) hu
  show wpAny _ _ (Builtin.Dict.dictSlotArgs "__eq__" ⟨[.ref a, .ref b], []⟩ >>= _) _ _ s
  refine wpAny_bind ?_
  unfold Builtin.Dict.dictSlotArgs
  refine wpAny_bind (wpAny_notOrdered_dict da.typeIs ?_)
  show wpAny _ _ (pure (Value.ref a, Value.ref b)) _ _ s
  refine wpAny_pure ?_
  refine wpAny_bind (wpAny_isInstance (T := "dict") db.typeIs PySem.F.sub_dict_dict ?_)
  simp only [Bool.not_true, Bool.false_eq_true, if_false]
  refine wpAny_bind (wpAny_pure (wpAny_bind (wpAny_pure ?_)))
  refine wpAny_bind (samePairsH ha hb hr da db hits ?_)
  refine wpAny_pure ⟨_, rfl, ?_, ?_⟩
  · exact fun x => nomatch x
  · simpa using h
end
section
open PySem.SeqAt (EqIn)
variable {X : Cx} {pins : List (Addr × Obj)} {σ : St} {H : Hp} {s : Shared}
theorem eqS_dat (I : Inv X pins σ H s) {Z Z' : Addr → Prop} {x y : V} {d e : PyData} {v u : Value} (h1 : Dt Z H x d) (h2 : Dt Z' H y e) (s1 : SeqAt.shaped d = true) (s2 : SeqAt.shaped e = true) (rx : RelV x v) (ry : RelV y u) : EqS X.prog X.w s 64 v u (PyData.eqv d e) := fun A hu => by
  obtain ⟨as, r1⟩ := Dp.reads I d x v h1.dp rx
  obtain ⟨bs, r2⟩ := Dp.reads I e y u h2.dp ry
  exact (SeqAt.eqAt_reads d e A s v u as bs r1 r2 (SeqAt.canLay_of_shaped s1) (SeqAt.canLay_of_shaped s2) (SeqAt.room_of_shaped s1 hu)).inModel _ _
theorem eqS_int {i j : Int} {v u : Value} (I : Inv X pins σ H s) (rx : RelV (.int i) v) (ry : RelV (.int j) u) : EqS X.prog X.w s 64 v u (PyData.eqv (.int i) (.int j)) := eqS_dat I (Z := Z0) (Z' := Z0) (.int i) (.int j) shp_int.ok shp_int.ok rx ry
theorem rc_tup (I : Inv X pins σ H s) {a b : Addr} {xs ys : List V} {e : Nat → Bool} {n : Nat} {A : Around} {E Q : Value → Shared → Prop} (ha : H a = some (.tup xs)) (hb : H b = some (.tup ys)) (hl : xs.length = ys.length) (hu : A.units + (n + 1) < cLine)
    (he : ∀ j x y v u, xs[j]? = some x → ys[j]? = some y → RelV x v → RelV y u → EqS X.prog X.w s n v u (e j)) (h : Q (.bool ((List.range xs.length).all e)) s) : wpAny (model X.prog X.w) A (richCompare .Eq (.ref a) (.ref b)) Q E s := by
  obtain ⟨us, r1, p1, _⟩ := I.tuple (SqT.of (K := X.K) ha)
  obtain ⟨ws, r2, p2, _⟩ := I.tuple (SqT.of (K := X.K) hb)
  have l1 := r1.length
  have l2 := r2.length
  have p1 : s.heap.IsTuple a us.toArray := p1
  have p2 : s.heap.IsTuple b ws.toArray := p2
  refine PySem.SeqAt.rcIn_tuples (e := e) p1 p2 (by omega) (fun j h1 h2 => ?_) ?_
  · have j1 : j < xs.length := by rw [List.size_toArray] at h1; omega
    have j2 : j < ys.length := by omega
    obtain ⟨u1, e1, r1'⟩ := r1.get (List.getElem?_eq_getElem j1)
    obtain ⟨u2, e2, r2'⟩ := r2.get (List.getElem?_eq_getElem j2)
    have f1 : us.toArray[j] = u1 := by
      rw [List.getElem_toArray]
      exact Option.some.inj ((List.getElem?_eq_getElem _).symm.trans e1)
    have f2 : ws.toArray[j] = u2 := by
      rw [List.getElem_toArray]
      exact Option.some.inj ((List.getElem?_eq_getElem _).symm.trans e2)
    rw [f1, f2]
    exact he j _ _ u1 u2 (List.getElem?_eq_getElem j1) (List.getElem?_eq_getElem j2) r1' r2' A.in1 (by show A.units + 1 + n < cLine; omega)
  · rw [List.size_toArray, List.size_toArray, ← l1, ← l2, ← hl, Nat.min_self]
    simpa using h
theorem eqS_tup (I : Inv X pins σ H s) {a b : Addr} {xs ys : List V} {e : Nat → Bool} {n : Nat} (ne : a ≠ b) (ha : H a = some (.tup xs)) (hb : H b = some (.tup ys)) (hl : xs.length = ys.length)
    (he : ∀ j x y v u, xs[j]? = some x → ys[j]? = some y → RelV x v → RelV y u → EqS X.prog X.w s n v u (e j)) : EqS X.prog X.w s (n + 1) (.ref a) (.ref b) ((List.range xs.length).all e) := fun A hu =>
  SeqAt.EqIn.of_refs ne fun E Q q => rc_tup I ha hb hl (by omega) he q
theorem eqS_lst (I : Inv X pins σ H s) {a b : Addr} {xs ys : List V} {e : Nat → Bool} {n : Nat} (ne : a ≠ b) (ha : H a = some (.lst xs)) (hb : H b = some (.lst ys))
    (he : xs.length = ys.length → ∀ j x y v u, xs[j]? = some x → ys[j]? = some y → RelV x v → RelV y u → EqS X.prog X.w s n v u (e j)) : EqS X.prog X.w s (n + 1) (.ref a) (.ref b) (xs.length == ys.length && (List.range xs.length).all e) := fun A hu => by
  obtain ⟨us, r1, p1, _⟩ := I.list (SqL.of (K := X.K) ha)
  obtain ⟨ws, r2, p2, _⟩ := I.list (SqL.of (K := X.K) hb)
  have l1 := r1.length
  have l2 := r2.length
  by_cases hl : xs.length = ys.length
  · have he := he hl
    refine SeqAt.EqIn.of_refs ne fun E Q q => PySem.SeqAt.rcIn_lists (e := e) p1.isList p2.isList (by rw [List.size_toArray, List.size_toArray]; omega) (by omega) (fun j h1 h2 => ?_) ?_
    · have j1 : j < xs.length := by rw [List.size_toArray] at h1; omega
      have j2 : j < ys.length := by omega
      obtain ⟨u1, e1, r1'⟩ := r1.get (List.getElem?_eq_getElem j1)
      obtain ⟨u2, e2, r2'⟩ := r2.get (List.getElem?_eq_getElem j2)
      have f1 : us.toArray[j] = u1 := by
        rw [List.getElem_toArray]
        exact Option.some.inj ((List.getElem?_eq_getElem _).symm.trans e1)
      have f2 : ws.toArray[j] = u2 := by
        rw [List.getElem_toArray]
        exact Option.some.inj ((List.getElem?_eq_getElem _).symm.trans e2)
      rw [f1, f2]
      exact he j _ _ u1 u2 (List.getElem?_eq_getElem j1) (List.getElem?_eq_getElem j2) r1' r2' A.in1 (by show A.units + 1 + n < cLine; omega)
    · rw [show (xs.length == ys.length) = true by simpa using hl, Bool.true_and] at q
      rw [List.size_toArray, ← l1]
      exact q
  · rw [show (xs.length == ys.length) = false by simpa using hl, Bool.false_and]
    exact (SeqAt.EqAt.of_refs ne (SeqAt.RcAt.lists_lengths p1.isList p2.isList (by rw [List.size_toArray, List.size_toArray, ← l1, ← l2]; simpa using hl) (by omega))).inModel _ _
/-- the same dict, told twice -/
theorem Tab.inj {P : Program} {w : World} {h : Heap} {a : Addr} {kbs kbs' : Ents} (t : Tab P w H a kbs) (t' : Tab P w H a kbs') (ok : HOk P w H h) : kbs = kbs' := by
  obtain ⟨xs, r, ⟨o, es, ep, h1, h2, h3, h4, h5, h6⟩, lo, fw⟩ := t.dict ok
  obtain ⟨xs', r', ⟨o', es', ep', h1', h2', h3', h4', h5', h6'⟩, lo', fw'⟩ := t'.dict ok
  rw [h1] at h1'
  cases h1'
  rw [h3] at h3'
  cases h3'
  have e := h4.symm.trans h4'
  clear h4 h4' h6 h6' t t' fw fw'
  induction r generalizing xs' kbs' with
  | nil =>
    cases xs' with
    | nil => cases r'; rfl
    | cons _ _ => cases e
  | @cons p q ps qs hp _ ih =>
    cases xs' with
    | nil => cases e
    | cons q' qs' =>
      cases r' with
      | @cons p' _ ps' _ hp' tp' =>
        rw [List.map_cons, List.map_cons] at e
        injection e with e1 e2
        unfold entryOfKey at e1
        injection e1 with e3 e4 e5
        injection e4 with e4
        have k1 := h5 q List.mem_cons_self
        have k2 := h5' q' List.mem_cons_self
        rw [e4] at k1
        have ek := (tupleKind (leafKind P w)).inj k1 k2
        have : p = p' := by
          obtain ⟨a1, a2, a3⟩ := hp
          obtain ⟨b1, b2, b3⟩ := hp'
          rw [e5] at a3
          refine Prod.ext (a1.trans (ek.trans b1.symm)) (Prod.ext (a2.trans (e4.trans b2.symm)) (a3.inj b3))
        rw [this, ih (fun x hx => h5 x (List.mem_cons_of_mem _ hx)) _ tp' (fun x hx => h5' x (List.mem_cons_of_mem _ hx)) e2]
theorem pr_get {α β : Type} {F : α → β → Prop} : ∀ {l : List α} {m : List β} {i : Nat} {q : β}, Paired F l m → m[i]? = some q → ∃ p, l[i]? = some p ∧ F p q
  | _, _, _, _, .nil, e => by simp at e
  | _, _, 0, _, .cons h _, e => by
    simp at e
    subst e
    exact ⟨_, rfl, h⟩
  | _, _, i + 1, q, .cons _ t, e => by
    simp at e
    obtain ⟨p, a, b⟩ := pr_get t e
    exact ⟨p, by simpa using a, b⟩
theorem pr_len {α β : Type} {F : α → β → Prop} : ∀ {l : List α} {m : List β}, Paired F l m → l.length = m.length
  | _, _, .nil => rfl
  | _, _, .cons _ t => congrArg (· + 1) (pr_len t)
theorem pr_all {α β : Type} {F : α → β → Prop} {p : α → Bool} {q : β → Bool} (h : ∀ a b, F a b → p a = q b) : ∀ {l : List α} {m : List β}, Paired F l m → l.all p = m.all q
  | _, _, .nil => rfl
  | _, _, .cons x t => by rw [List.all_cons, List.all_cons, h _ _ x, pr_all h t]
theorem eqS_tab (I : Inv X pins σ H s) {a b : Addr} {kbs kbs' : Ents} {f : List Leaf → Bool} {n : Nat} (ne : a = b → (kbs.length == kbs'.length && kbs.all fun x => (valT kbs' x.1).isSome && f x.1) = true) (ta : Tab X.prog X.w H a kbs) (tb : Tab X.prog X.w H b kbs')
    (he : ∀ p ∈ kbs, ∀ q ∈ kbs', p.1 = q.1 → ∀ v u, RelV p.2.2 v → RelV q.2.2 u → EqS X.prog X.w s n v u (f p.1)) : EqS X.prog X.w s (n + 1) (.ref a) (.ref b) (kbs.length == kbs'.length && kbs.all fun x => (valT kbs' x.1).isSome && f x.1) := by
  by_cases ab : a = b
  · rw [ne ab]
    cases ab
    exact EqS.same
  obtain ⟨xs, r, d, low, _⟩ := ta.dict I.hok
  obtain ⟨xs', r', d', low', _⟩ := tb.dict I.hok
  intro A hu
  refine SeqAt.EqIn.of_refs ab fun E Q q => rc_dictsH (e := f) low low' (by omega) (tupleKind_room_in1 (by omega)) d d' (fun i j k p p' hp hp' => ?_) ?_
  · obtain ⟨z, hz, z1, _, z3⟩ := pr_get r hp
    obtain ⟨z', hz', z1', _, z3'⟩ := pr_get r' hp'
    have z1 : z.1 = k := z1
    have z1' : z'.1 = k := z1'
    rw [← z1]
    exact he z (List.mem_of_getElem? hz) z' (List.mem_of_getElem? hz') (z1.trans z1'.symm) p.2 p'.2 z3 z3' A.in1 (by show A.units + 1 + n < cLine; omega)
  · rw [← pr_len r, ← pr_len r', ← pr_all (p := fun x => (valT kbs' x.1).isSome && f x.1) (fun x y z => ?_) r]
    · exact q
    · show ((valT kbs' x.1).isSome && f x.1) = _
      rw [z.1]
      have e := relO_isS (dRow3.val r' y.1)
      rw [Option.isSome_map] at e
      rw [e]
end
/-! ### xs[::-1] of a list -/
section
open PyProof.Rows hiding St
variable {X : Cx} {e st : Expr} {te ts : TE} {pos p2 : Pos}
def tRev (te ts : TE) : TE := fun σ H Q => te σ H fun x H1 => ts σ H1 fun y H2 => y = .int (-1) ∧ ∃ a xs, x = .ref a ∧ H2 a = some (.lst xs) ∧ ∀ p, H2 p = none → Q (.ref p) (upd H2 p (.lst xs.reverse))
theorem pe_rev (he : PE X e te) (hst : PE X st ts) : PE X (.Subscript e (.Slice none none (some st) p2) pos) (tRev te ts) := by
  refine ⟨fun pins s σ H Q I h => ?_⟩
  refine Subscript_ (thn (he.run pins s σ H _ I h) fun v s1 ⟨x, H1, I1, r1, q1⟩ => ?_)
  refine wpAny_Slice ?_
  rw [evalPart_none]
  refine wpAny_pure ?_
  refine wpAny_pure ?_
  rw [evalPart_some]
  refine thn (hst.run pins s1 σ H1 _ I1 q1) fun u s2 ⟨y, H2, I2, r2, q2⟩ => ?_
  obtain ⟨rfl, a, xs, rfl, hx, q⟩ := q2
  obtain ⟨tk, rfl⟩ := r2
  cases r1
  have I4 : Inv X pins σ H2 { s2 with heap := s2.heap.push { cls := .type "slice", data := .fields #[.none, .none, .int (-1) tk] } } := I2.kept (t' := s2.toks) fun b ob q => Heap.get?_push_of_some _ q
  obtain ⟨its, r, ht, hz⟩ := I4.list (SqL.of (K := X.K) hx)
  have hlen := r.length
  show wpAny (model X.prog X.w) X.A (subscriptTail e (.Slice none none (some st) p2) (.ref a) (.ref s2.heap.objs.size)) (EP X pins σ Q) X.xe { s2 with heap := s2.heap.push { cls := .type "slice", data := .fields #[.none, .none, .int (-1) tk] } }
  refine tail_any (ops := [.ref a, .ref s2.heap.objs.size]) ht.isList.typeIs PySem.F.slot_list_getitem.lookup ?_ (by with_unfolding_all rfl)
  refine wpAny_getItem_list_slice ht.isList (Heap.IsSliceOf.new ..) .none .none (.int (-1) tk) (by simp) ?_ (by rw [List.size_toArray] <;> omega)
  rw [PySem.W.krv_pick]
  refine ⟨.ref _, _, I4.laid (t' := s2.toks) (o := .lst xs.reverse) (fun b ob q => Heap.get?_push_of_some _ q) (Nat.le_refl _) ?_, rfl, q _ (I4.hok.fresh (Nat.le_refl _))⟩
  refine ⟨by rw [List.length_reverse]; exact hz, its.reverse, 0, ?_, ?_⟩
  · exact r.reverse
  · exact Heap.get?_push_size _ rfl
end
/-! ### == of programs: the mathematics, the tables -/
section
mutual
theorem Dt.inj {Z Z' : Addr → Prop} {H : Hp} {v : V} {d e : PyData} (h : Dt Z H v d) (g : Dt Z' H v e) : d = e :=
  match h, g with
  | .non, .non => rfl
  | .bl b, .bl _ => rfl
  | .int i, .int _ => rfl
  | .str x, .str _ => rfl
  | .lst a _ t, .lst a' _ t' => by
    rw [a] at a'
    cases a'
    rw [DtAll.inj t t']
  | .tup a _ t, .tup a' _ t' => by
    rw [a] at a'
    cases a'
    rw [DtAll.inj t t']
  | .lst a _ _, .tup a' _ _ => by
    rw [a] at a'
    cases a'
  | .tup a _ _, .lst a' _ _ => by
    rw [a] at a'
    cases a'
theorem DtAll.inj {Z Z' : Addr → Prop} {H : Hp} {vs : List V} {ds es : List PyData} (h : DtAll Z H vs ds) (g : DtAll Z' H vs es) : ds = es :=
  match h, g with
  | .nil, .nil => rfl
  | .cons a b, .cons a' b' => by rw [Dt.inj a a', DtAll.inj b b']
end
def rowEq (rs rs' : List PyData) : Bool := rs.length == rs'.length && rs.all fun r => match rowAt rs' (keyL r) with | some r' => PyData.eqv (valD r) (valD r') | none => false
def modeEq (m m' : PyData) : Bool := (List.range 3).all fun i => match i with | 0 => PyData.eqv (itD m 0) (itD m' 0) | 1 => PyData.eqv (itD m 1) (itD m' 1) | _ => rowEq (itemsD (itD m 2)) (itemsD (itD m' 2))
def modesEq (ms ms' : List PyData) : Bool := ms.length == ms'.length && (List.range ms.length).all fun i => modeEq (ms.getD i .none) (ms'.getD i .none)
def progEq (b : Int) (d1 d2 d3 d4 : PyData) (b' : Int) (d1' d2' d3' d4' : PyData) : Bool := (List.range 5).all fun i => match i with | 0 => PyData.eqv (.int b) (.int b') | 1 => PyData.eqv (.tuple (itemsD d1)) (.tuple (itemsD d1')) | 2 => modesEq (itemsD d2) (itemsD d2') | 3 => PyData.eqv (.tuple (itemsD d3)) (.tuple (itemsD d3')) | _ => PyData.eqv d4 d4'
theorem pr_mem {α β : Type} {F : α → β → Prop} : ∀ {l : List α} {m : List β}, Paired F l m → Paired (fun a b => F a b ∧ a ∈ l ∧ b ∈ m) l m
  | _, _, .nil => .nil
  | _, _, .cons h t => .cons ⟨h, List.mem_cons_self, List.mem_cons_self⟩ (L2.Paired.mapP (pr_mem t) fun a b z => ⟨z.1, List.mem_cons_of_mem _ z.2.1, List.mem_cons_of_mem _ z.2.2⟩)
theorem rowAt_self : ∀ {rs : List PyData} {r : PyData}, (rs.map keyL).Nodup → r ∈ rs → rowAt rs (keyL r) = some r
  | x :: rs, r, n, m => by
    unfold rowAt
    rw [List.find?_cons]
    rw [List.map_cons, List.nodup_cons] at n
    by_cases c : keyL x = keyL r
    · rw [decide_eq_true c]
      rcases List.mem_cons.mp m with rfl | m
      · rfl
      · exact absurd (List.mem_map.mpr ⟨r, m, rfl⟩) (c ▸ n.1)
    · rw [decide_eq_false c]
      rcases List.mem_cons.mp m with rfl | m
      · exact absurd rfl c
      · exact rowAt_self n.2 m
theorem rowAt_key {rs : List PyData} {r : PyData} {k : List Leaf} (h : rowAt rs k = some r) : r ∈ rs ∧ keyL r = k := by
  unfold rowAt at h
  exact ⟨List.mem_of_find?_eq_some h, of_decide_eq_true (List.find?_some (p := fun r => decide (keyL r = k)) h)⟩
end
section
variable {X : Cx} {pins : List (Addr × Obj)} {σ : St} {H : Hp} {s : Shared}
theorem eqS_tabR (I : Inv X pins σ H s) {a b : Addr} {rs rs' : List PyData} (n : (rs.map keyL).Nodup) (n' : (rs'.map keyL).Nodup) (sh : ∀ r ∈ rs, SeqAt.shaped (valD r) = true) (sh' : ∀ r ∈ rs', SeqAt.shaped (valD r) = true) (t : TabR X.prog X.w H a rs) (t' : TabR X.prog X.w H b rs') :
    EqS X.prog X.w s 65 (.ref a) (.ref b) (rowEq rs rs') := by
  obtain ⟨kbs, t1, p1⟩ := t
  obtain ⟨kbs', t2, p2⟩ := t'
  have q1 := pr_mem p1
  have q2 := pr_mem p2
  have eb : (kbs.length == kbs'.length && kbs.all fun x => (valT kbs' x.1).isSome && (match rowAt rs x.1, rowAt rs' x.1 with | some r, some r' => PyData.eqv (valD r) (valD r') | _, _ => false)) = rowEq rs rs' := by
    unfold rowEq
    rw [pr_len p1, pr_len p2]
    congr 1
    refine (pr_all (fun r x z => ?_) q1).symm
    obtain ⟨⟨k1, k2⟩, m1, m2⟩ := z
    rw [k1, rowAt_self n m1]
    have v := val_row (k := keyL r) p2
    cases c : rowAt rs' (keyL r) with
    | none => rw [c] at v; rw [v]; rfl
    | some r' =>
      rw [c] at v
      obtain ⟨w1, w2, _⟩ := v
      rw [w2]
      rfl
  rw [← eb]
  refine eqS_tab I (f := fun k => match rowAt rs k, rowAt rs' k with | some r, some r' => PyData.eqv (valD r) (valD r') | _, _ => false) (fun ab => ?_) t1 t2 fun p hp q hq ek v u rv ru => ?_
  · rw [eb]
    cases ab
    cases t1.inj t2 I.hok
    unfold rowEq
    rw [show (rs.length == rs'.length) = true by rw [pr_len p1, pr_len p2]; simp, Bool.true_and]
    refine List.all_eq_true.mpr fun r hr => ?_
    obtain ⟨i, hi⟩ := List.mem_iff_getElem?.mp hr
    have hi2 : i < kbs.length := by
      rw [← pr_len p1]
      exact (List.getElem?_eq_some_iff.mp hi).1
    obtain ⟨r1, e1, k1, g1⟩ := pr_get p1 (List.getElem?_eq_getElem hi2)
    obtain ⟨r2, e2, k2, g2⟩ := pr_get p2 (List.getElem?_eq_getElem hi2)
    rw [hi] at e1
    cases e1
    rw [← k1, k2, rowAt_self n' (List.mem_of_getElem? e2)]
    show PyData.eqv (valD r) (valD r2) = true
    rw [g1.inj g2]
    exact PySem.SeqAt.eqv_refl _ (SeqAt.canLay_of_shaped (sh' _ (List.mem_of_getElem? e2)))
  · obtain ⟨i, hi⟩ := List.mem_iff_getElem?.mp hp
    obtain ⟨j, hj⟩ := List.mem_iff_getElem?.mp hq
    obtain ⟨r1, e1, k1, g1⟩ := pr_get p1 hi
    obtain ⟨r2, e2, k2, g2⟩ := pr_get p2 hj
    have f1 : rowAt rs p.1 = some r1 := by rw [k1]; exact rowAt_self n (List.mem_of_getElem? e1)
    have f2 : rowAt rs' p.1 = some r2 := by rw [ek, k2]; exact rowAt_self n' (List.mem_of_getElem? e2)
    rw [f1, f2]
    exact eqS_dat I g1 g2 (sh _ (List.mem_of_getElem? e1)) (sh' _ (List.mem_of_getElem? e2)) rv ru
end
/-! ### parts that are a program's may be compared -/
section
theorem inAbc_lt {c : Nat} (h : inAbc c = true) : c < 0x110000 := by
  unfold inAbc at h
  rw [PySem.StrLaws.found_one] at h
  have m := of_decide_eq_true h
  exact of_decide_eq_true (List.all_eq_true.mp (show abc.cps.toList.all (fun c => decide (c < 0x110000)) = true by decide +kernel) c m)
theorem shp_str {s : Str} (h : PyData.strOk s = true) : Shp 0 (.str s) := ⟨by simpa [PyData.canLay0] using h, by simp [PyData.depth]⟩
theorem nameD_shp {d : PyData} (h : nameD d = true) : Shp 0 d := by
  cases d <;> first | cases h | skip
  rename_i s
  refine shp_str ?_
  have h : (decide (1 ≤ s.length) && (decide (s.length ≤ 8) && s.cps.toList.all inAbc)) = true := h
  simp only [Bool.and_eq_true] at h
  unfold PyData.strOk
  rw [← Array.all_toList]
  exact List.all_eq_true.mpr fun c hc => decide_eq_true (inAbc_lt (List.all_eq_true.mp h.2.2 c hc))
theorem inV_mem {s : Str} {zs : List Str} (h : inV (.str s) (zs.map V.str) = true) : s ∈ zs := by
  apply Classical.byContradiction
  intro n
  induction zs with
  | nil => cases h
  | cons z zs ih =>
    unfold inV at h
    rw [List.map_cons, List.any_cons] at h
    rcases Bool.or_eq_true_iff.mp h with e | e
    · refine n ?_
      have : s = z := by
        unfold eqV at e
        exact (by simpa using e : z = s).symm
      rw [this]
      exact List.mem_cons_self
    · exact ih e fun m => n (List.mem_cons_of_mem _ m)
theorem ruleD_shp {d : PyData} (h : ruleD d = true) : Shp 0 d := by
  cases d <;> first | cases h | skip
  rename_i s
  refine shp_str ?_
  have m := inV_mem h
  simp only [five, List.mem_cons, List.not_mem_nil, or_false] at m
  rcases m with rfl | rfl | rfl | rfl | rfl <;> decide +kernel
theorem betw_shp {d : PyData} {lo hi : Int} (h : betw d lo hi = true) : Shp 0 d := by
  cases d <;> first | cases h | exact shp_int
theorem isTup_eq {d : PyData} (h : isTup d = true) : d = .tuple (itemsD d) := by
  cases d <;> first | rfl | cases h
theorem factD_shp {d : PyData} {n : Int} (h : factD d n = true) : Shp 1 d := by
  unfold factD at h
  simp only [Bool.and_eq_true] at h
  rw [isTup_eq h.1]
  exact shp_tup fun x hx => betw_shp (List.all_eq_true.mp h.2.2 x hx)
theorem items_of {d : PyData} {n : Nat} (h : (itemsD d).length = n) : itemsD d = (List.range n).map (itD d) := by
  refine List.ext_getElem (by simp [h]) fun i h1 h2 => ?_
  rw [List.getElem_map, List.getElem_range]
  unfold itD
  rw [List.getD_eq_getElem?_getD, List.getElem?_eq_getElem h1]
  rfl
theorem regD_shp {d : PyData} (h : regD d = true) : Shp 1 d := by
  unfold regD at h
  simp only [Bool.and_eq_true] at h
  obtain ⟨a, b, c, e⟩ := h
  rw [isTup_eq a, items_of (of_decide_eq_true b)]
  refine shp_tup fun x hx => ?_
  have hx : x = itD d 0 ∨ x = itD d 1 := by simpa [List.range, List.range.loop] using hx
  rcases hx with rfl | rfl
  · exact nameD_shp c
  · have f := e
    unfold factD at f
    simp only [Bool.and_eq_true] at f
    exact betw_shp (List.all_eq_true.mp f.2.2 (itD d 1) List.mem_cons_self)
theorem upsD_shp {d : PyData} {n : Nat} (h : upsD d n = true) : Shp 2 d := by
  unfold upsD at h
  simp only [Bool.and_eq_true] at h
  rw [isTup_eq h.1]
  exact shp_tup fun x hx => factD_shp (List.all_eq_true.mp h.2.2 x hx)
theorem thenD_shp {d : PyData} {zs : List Str} (h : thenD d zs = true) (a : ∀ z ∈ zs, PyData.strOk z = true) : Shp 0 d := by
  cases d <;> first | cases h | skip
  · exact shp_none
  · exact shp_str (a _ (inV_mem h))
theorem rowD_shp {d : PyData} {size : Int} {n : Nat} {zs : List Str} (h : rowD d size n zs = true) (a : ∀ z ∈ zs, PyData.strOk z = true) : Shp 3 (valD d) := by
  unfold rowD at h
  simp only [Bool.and_eq_true] at h
  obtain ⟨_, _, _, h1, h2⟩ := h
  refine shp_tup fun x hx => ?_
  have hx : x = itD d 2 ∨ x = itD d 3 := by simpa using hx
  rcases hx with rfl | rfl
  · exact upsD_shp h1
  · exact (thenD_shp h2 a).mono (by decide)
theorem PartsOk.strs {d0 d1 d2 d3 d4 : PyData} (h : PartsOk d0 d1 d2 d3 d4) : ∀ z ∈ (itemsD d2).map nmOf, PyData.strOk z = true := fun z hz => by
  obtain ⟨m, hm, rfl⟩ := List.mem_map.mp hz
  obtain ⟨_, _, all2⟩ := partsD_all h.modes
  have n0 := nameD_shp (d := itD m 0) (by
    have := all2 m hm
    unfold modeD at this
    simp only [Bool.and_eq_true] at this
    exact this.2.2.1)
  rw [modeD_name (all2 m hm)] at n0
  simpa [PyData.canLay0] using n0.1
theorem PartsOk.rowShp {d0 d1 d2 d3 d4 : PyData} (h : PartsOk d0 d1 d2 d3 d4) {m : PyData} (hm : m ∈ itemsD d2) : ∀ r ∈ itemsD (itD m 2), SeqAt.shaped (valD r) = true := fun r hr =>
  (rowD_shp ((wrongRow_rows (rowsErr_none h.rows m hm)).1 r hr) h.strs).ok
theorem PartsOk.regsShp {d0 d1 d2 d3 d4 : PyData} (h : PartsOk d0 d1 d2 d3 d4) : Shp 2 (.tuple (itemsD d1)) := shp_tup fun x hx => regD_shp ((partsD_all h.regs).2.2 x hx)
theorem PartsOk.endsShp {d0 d1 d2 d3 d4 : PyData} (h : PartsOk d0 d1 d2 d3 d4) : Shp 1 (.tuple (itemsD d3)) := shp_tup fun x hx => by
  have := h.ends
  unfold endsD at this
  simp only [Bool.and_eq_true] at this
  exact betw_shp (List.all_eq_true.mp this.2.1 x hx)
theorem PartsOk.resShp {d0 d1 d2 d3 d4 : PyData} (h : PartsOk d0 d1 d2 d3 d4) : Shp 1 d4 := factD_shp h.result
end
section
theorem modeOf_self : ∀ {ms : List PyData} {m : PyData}, (ms.map nmOf).Nodup → m ∈ ms → modeOf ms (nmOf m) = some m
  | x :: ms, m, n, h => by
    unfold modeOf
    rw [List.find?_cons]
    rw [List.map_cons, List.nodup_cons] at n
    by_cases c : nmOf x = nmOf m
    · rw [decide_eq_true c]
      rcases List.mem_cons.mp h with rfl | h
      · rfl
      · exact absurd (List.mem_map.mpr ⟨m, h, rfl⟩) (c ▸ n.1)
    · rw [decide_eq_false c]
      rcases List.mem_cons.mp h with rfl | h
      · exact absurd rfl c
      · exact modeOf_self n.2 h
end
/-! ### _parts, == of programs -/
section
variable {X : Cx}
theorem pe_fldK {e : Expr} {f : Str} {pos : Pos} {ta : TE} {K : PySem.W.Frag} (hk : X.K = K) (he : PE X e ta) (hb : attributeBase e f X.env (eval e X.env) = eval e X.env) : PE X (.Attribute e f pos) (tFld K ta f) := hk ▸ pe_fld he hb
theorem pe_methO0 {C : Addr} {k : Nat} {m : Str} {ps : List Str} {sp : Sp} {E : XK} {o : Expr} {apos pos : Pos} {pl : Sem Bool} {ta : TE} (he : PE X o ta) (c : Cls X.K C) (mm : OwnMeth X.prog X.w X.K X.mg X.base C k m ps sp) (hr : Room k X.A) (hx : Passes (L2.CX X.prog X.w) X E)
    (ht : eval (.Call (.Attribute o m apos) [] [] pos) X.env = (do
      let ov ← eval o X.env
      standAt apos.atName
      let (f, first) ← holding [ov] (getMethod ov m pl)
      callWith pos f first (backTo pos (starEach [] X.env)) (backToKw pos (keywordEach [] X.env))) := by rfl) : PE X (.Call (.Attribute o m apos) [] [] pos) (tMeth C m sp [] E ta tNil) := by
  obtain ⟨f, fd, hm, hb, F⟩ := mm
  exact pe_meth0 (pl := pl) he c hm F hr hb .nil hx ht
end
section
variable {P : Program} {w : World} {K : PySem.W.Frag} {mg : Str → Option Value} {base : Heap} {aR CP CU : Addr}
/-- the parts of a program as a new tuple at t; in H0 neither it nor its list nor that list's tuples stood -/
def PartsAt (P : Program) (w : World) (H0 H : Hp) (t : Addr) (b : Int) (d1 d2 d3 d4 : PyData) : Prop := ∃ (vr : V) (M : Addr) (ve va : V) (ms : List V), H0 t = none ∧ H0 M = none ∧ H t = some (.tup [.int b, vr, .ref M, ve, va]) ∧ Dt Z0 H vr (.tuple (itemsD d1)) ∧ Dt Z0 H ve (.tuple (itemsD d3)) ∧ Dt Z0 H va d4 ∧ H M = some (.lst ms) ∧ ms.length = (itemsD d2).length ∧
  ∀ (i : Nat) (y : V) (md : PyData), ms[i]? = some y → (itemsD d2)[i]? = some md → ∃ (T : Addr) (nmv rv : V) (D : Addr), y = .ref T ∧ H0 T = none ∧ H T = some (.tup [nmv, rv, .ref D]) ∧ Dt Z0 H nmv (itD md 0) ∧ Dt Z0 H rv (itD md 1) ∧ TabR P w H D (itemsD (itD md 2))
theorem PartsAt.same {H0 H H' : Hp} {t : Addr} {b : Int} {d1 d2 d3 d4 : PyData} (h : PartsAt P w H0 H t b d1 d2 d3 d4) (s : Same H H') : PartsAt P w H0 H' t b d1 d2 d3 d4 := by
  obtain ⟨vr, M, ve, va, ms, n1, n2, a, g1, g2, g3, m, l, all⟩ := h
  exact ⟨vr, M, ve, va, ms, n1, n2, s _ _ a, g1.fr (Fm.of s), g2.fr (Fm.of s), g3.fr (Fm.of s), s _ _ m, l, fun i y md e1 e2 => by
    obtain ⟨T, nmv, rv, D, e, n, t, q1, q2, q3⟩ := all i y md e1 e2
    exact ⟨T, nmv, rv, D, e, n, s _ _ t, q1.fr (Fm.of s), q2.fr (Fm.of s), q3.same s⟩⟩
def spPParts (P : Program) (w : World) (CP : Addr) : Sp := fun vs H Q _ => ∃ p b d1 d2 d3 d4, vs = [.ref p] ∧ ProgOk P w CP H p b d1 d2 d3 d4 ∧ ∀ t H', Same H H' → PartsAt P w H H' t b d1 d2 d3 d4 → Q (.ref t) H'
abbrev s_Program__parts : Stmt := inClass (top 40) 19
abbrev N_Program__parts : List Str := ["self", "modes", "name", "rule", "_"]
theorem sc_Program__parts : FnScope N_Program__parts ["self"] (defScope s_Program__parts) := ⟨rfl, rfl, rfl, by decide +kernel, rfl, by decide +kernel, by decide +kernel⟩
theorem ok_Program__parts {f : Addr} {fd : FuncData} (F : Fun K "_parts" "Program._parts" s_Program__parts f fd) (C : PCls K mg CP) : FnOk P w K mg base (L2.CX P w) 1 f fd ["self"] (spPParts P w CP) := by
  refine F.okX sc_Program__parts (fun vs H Q E h => ?_) (fun cdv A outer s H vs Q E hr h => ?_)
  · obtain ⟨p, b1, d1, d2, d3, d4, rfl, _⟩ := h
    rfl
  · obtain ⟨p, b1, d1, d2, d3, d4, rfl, ⟨⟨dx, vr, vm, ve, va, vt, e, a1, a2, a3, a4, kvs, at_k, pr⟩, PO, z1, z2⟩, q⟩ := h
    refine ⟨_, (pss_cons (ps_setLc (i := 1) (own := [("name", 2), ("rule", 3), ("_", 4)]) (g := gTupT 3 (gCons (gName 2) (gCons (gName 3) (gCons (gName 4) gNil)))) (tt := tYes) rfl sc_Program__parts.nd rfl rfl (sw_true rfl rfl rfl (by decide +kernel)) (pi_seq (pe_fld (pv 0) rfl)) (blkOk_by (N := N_Program__parts) (sc := defScope s_Program__parts) (by decide +kernel)) (fun _ _ _ _ _ => (pgT (n := 3) (by rfl) (pgs_cons (pg_name (i := 2) sc_Program__parts.nd rfl (by first | exact Or.inl rfl | exact Or.inr rfl)) (pgs_cons (pg_name (i := 3) sc_Program__parts.nd rfl (by first | exact Or.inl rfl | exact Or.inr rfl)) (pgs_cons (pg_name (i := 4) sc_Program__parts.nd rfl (by first | exact Or.inl rfl | exact Or.inr rfl)) pgs_nil))))) (fun _ _ _ _ _ => pts_nil) (fun _ _ _ _ _ => (pe_tup (pa_cons (pv 2) (pa_cons (pv 3) (pa_cons (pe_ix (by exact ixDK hr.units) (pe_fldK (K := K) rfl (pv 0) rfl) (pv 2) (fun _ _ => rfl)) pa_nil))))))
      (pss_one (ps_ret (pe_tup (pa_cons (pe_fld (pv 0) rfl) (pa_cons (pe_fld (pv 0) rfl) (pa_cons (pv 1) (pa_cons (pe_fld (pv 0) rfl) (pa_cons (pe_fld (pv 0) rfl) pa_nil))))))))), ?_⟩
    obtain ⟨sq2, m4, all2⟩ := partsD_all PO.modes
    cases a2 with
    | tup em nm dm =>
      rename_i xs
      have ln : xs.length = (itemsD d2).length := by
        have := dm.len
        rw [List.length_map] at this
        exact this
      refine ⟨_, rfl, p, CP, dx, _, _, rfl, e, C.cl, C.n3, rfl, _, _, _, rfl, .inr rfl, em, fun J wk D hD => ?_⟩
      refine lc_acc wk Z0 (fun _ => True) (fun i y G => ∃ T nmv rv D' md, (itemsD d2)[i]? = some md ∧ y = .ref T ∧ G T = some (.tup [nmv, rv, .ref D']) ∧ T ≠ D ∧ H T = none ∧ Dt Z0 H nmv (itD md 0) ∧ Dt Z0 H rv (itD md 1) ∧ TabR P w H D' (itemsD (itD md 2))) hD id True.intro (fun _ _ _ _ => True.intro) ?_ (by rw [ln]; exact Nat.lt_of_le_of_lt z2.1 (by decide)) (fun G f => f _ _ em id) ?_ ?_
      · rintro i y G G' _ ⟨T, nmv, rv, D', md, e1, e2, e3, e4, e5⟩ f
        exact ⟨T, nmv, rv, D', md, e1, e2, f _ _ e3 (zu_ne id e4), e4, e5⟩
      · intro i x G0 G Qk hi f _ ne y z
        obtain ⟨rfl, ex⟩ := y
        obtain ⟨di, ei, dt⟩ := dm.get ex
        rw [List.getElem?_map] at ei
        obtain ⟨md, e3, rfl⟩ := Option.map_eq_some_iff.mp ei
        have mk := all2 md (List.mem_of_getElem? e3)
        cases dt with
        | tup ea na da =>
          obtain ⟨y0, y1, y2, c0, c1, c2, rfl, eds, w0, w1, w2⟩ := three_dt da rfl
          have eds : [itD md 0, itD md 1, PyData.tuple (itemsD (itD md 2))] = [c0, c1, c2] := eds
          injection eds with q0 eds
          injection eds with q1 eds
          injection eds with q2 eds
          subst q0 q1 q2
          have w0' := w0
          rw [modeD_name mk] at w0'
          cases w0'
          have nme : modeOf (itemsD d2) (nmOf md) = some md := modeOf_self PO.names (List.mem_of_getElem? e3)
          obtain ⟨D', ev, tr⟩ := tabs_of pr nme
          have s1 := f.same
          refine ⟨_, _, rfl, s1 _ _ ea, rfl, _, _, rfl, _, _, rfl, _, _, rfl, rfl, rfl, ?_⟩
          refine ⟨_, rfl, _, rfl, _, rfl, p, CP, dx, _, _, rfl, s1 _ _ e, C.cl, C.n6, rfl, _, rfl, vt, kvs, _, _, rfl, rfl, s1 _ _ at_k, ev, by show 3 ≤ sizeLine; decide, fun t nt => ?_⟩
          exact z _ _ (Fm.of (Same.new nt)) True.intro ⟨t, _, _, D', md, e3, rfl, upd_same, ne t nt, s1.free nt, w0, w1, tr⟩
      · intro G ms f _ eD hl hr2
        have s1 : Same H G := f.same
        have e1 := s1 _ _ e
        refine ⟨_, rfl, p, CP, dx, _, _, rfl, e1, C.cl, C.n1, rfl, _, rfl, p, CP, dx, _, _, rfl, e1, C.cl, C.n2, rfl, _, rfl, _, rfl, p, CP, dx, _, _, rfl, e1, C.cl, C.n4, rfl, _, rfl, p, CP, dx, _, _, rfl, e1, C.cl, C.n5, rfl, by show 5 ≤ sizeLine; decide, fun t nt => ?_⟩
        have s2 : Same G (upd G t (.tup [.int b1, vr, .ref D, ve, va])) := Same.new nt
        have s12 := s1.trans s2
        refine q t _ s12 ⟨vr, D, ve, va, ms, s1.free nt, hD, upd_same, a1.fr (Fm.of s12), a3.fr (Fm.of s12), a4.fr (Fm.of s12), s2 _ _ eD, by rw [hl, ln], fun i y md ey em2 => ?_⟩
        obtain ⟨T, nmv, rv, D', md', g1, g2, g3, g4, g5, g6, g7, g8⟩ := hr2 i y ey
        rw [em2] at g1
        cases g1
        exact ⟨T, nmv, rv, D', g2, g5, s2 _ _ g3, g6.fr (Fm.of s12), g7.fr (Fm.of s12), g8.same s12⟩
end
/-! ### == of programs -/
theorem room128 {k : Nat} {A : Around} (r : Room k A) : A.units + 128 < cLine := by
  have := r.un
  omega
section
variable {X : Cx}
theorem all_len {n m : Nat} {e f : Nat → Bool} (h : ∀ i, i < n → e i = f i) (k : n = m) : (List.range n).all e = (List.range m).all f := by
  subst k
  rw [Bool.eq_iff_iff, List.all_eq_true, List.all_eq_true]
  exact ⟨fun z i hi => h i (List.mem_range.mp hi) ▸ z i hi, fun z i hi => (h i (List.mem_range.mp hi)).symm ▸ z i hi⟩
theorem op_parts (hu : X.A.units + 128 < cLine) : OpR X (compareOp .Eq) (fun x y H Q => ∃ t t' H0 H1 b d1 d2 d3 d4 b' d1' d2' d3' d4', x = .ref t ∧ y = .ref t' ∧ PartsAt X.prog X.w H0 H1 t b d1 d2 d3 d4 ∧ Same H1 H ∧ PartsAt X.prog X.w H1 H t' b' d1' d2' d3' d4' ∧ PartsOk (.int b) d1 d2 d3 d4 ∧ PartsOk (.int b') d1' d2' d3' d4' ∧ Q (.bl (progEq b d1 d2 d3 d4 b' d1' d2' d3' d4')) H) := by
  intro pins s σ H x y v u Q I rx ry h
  obtain ⟨t, t', H0, H1, b, d1, d2, d3, d4, b', d1', d2', d3', d4', rfl, rfl, P1, s1, P2, O1, O2, q⟩ := h
  cases rx
  cases ry
  have P1' := P1.same s1
  obtain ⟨vr, M, ve, va, ms, _, _, a0, _, _, _, m0, l0, all0⟩ := id P1
  obtain ⟨vr1, M1, ve1, va1, ms1, n1, n2, a, g1, g2, g3, m, l, all⟩ := P1'
  obtain ⟨vr', M', ve', va', ms', n1', n2', a', g1', g2', g3', m', l', all'⟩ := P2
  have a0 := s1 _ _ a0
  rw [a0] at a
  cases a
  have a := a0
  have eMM := s1 _ _ m0
  rw [eMM] at m
  cases m
  have m := eMM
  have neM := ne_of_none m0 n2'
  refine rc_tup I (n := 70) (e := fun i => match i with | 0 => PyData.eqv (.int b) (.int b') | 1 => PyData.eqv (.tuple (itemsD d1)) (.tuple (itemsD d1')) | 2 => modesEq (itemsD d2) (itemsD d2') | 3 => PyData.eqv (.tuple (itemsD d3)) (.tuple (itemsD d3')) | _ => PyData.eqv d4 d4') a a' rfl (by omega) (fun j x y v u ex ey rv ru => ?_) ⟨.bl _, H, I, rfl, q⟩
  match j with
  | 0 =>
    cases ex
    cases ey
    exact (eqS_int I rv ru).mono (by decide)
  | 1 =>
    cases ex
    cases ey
    exact (eqS_dat I g1 g1' O1.regsShp.ok O2.regsShp.ok rv ru).mono (by decide)
  | 2 =>
    cases ex
    cases ey
    cases rv
    cases ru
    have e2 : (ms.length == ms'.length && (List.range ms.length).all fun i => modeEq ((itemsD d2).getD i .none) ((itemsD d2').getD i .none)) = modesEq (itemsD d2) (itemsD d2') := by
      unfold modesEq
      rw [l, l']
    show EqS X.prog X.w s 70 _ _ (modesEq (itemsD d2) (itemsD d2'))
    rw [← e2]
    refine EqS.mono (eqS_lst I (n := 66) neM m m' fun hl j x y v u ex ey rv ru => ?_) (by decide)
    have j1 : j < ms.length := (List.getElem?_eq_some_iff.mp ex).1
    have j2 : j < ms'.length := (List.getElem?_eq_some_iff.mp ey).1
    obtain ⟨md, em⟩ : ∃ md, (itemsD d2)[j]? = some md := ⟨_, List.getElem?_eq_getElem (by omega)⟩
    obtain ⟨md', em'⟩ : ∃ md, (itemsD d2')[j]? = some md := ⟨_, List.getElem?_eq_getElem (by omega)⟩
    obtain ⟨T, nmv, rv1, D, rfl, _, hT, q1, q2, q3⟩ := all j x md ex em
    obtain ⟨T', nmv', rv', D', rfl, nT', hT', q1', q2', q3'⟩ := all' j y md' ey em'
    obtain ⟨T0, _, _, _, e0, _, hT0, _⟩ := all0 j _ md ex em
    cases e0
    have neT : T ≠ T' := ne_of_none hT0 nT'
    cases rv
    cases ru
    rw [List.getD_eq_getElem?_getD, em, List.getD_eq_getElem?_getD, em']
    have mm := List.mem_of_getElem? em
    have mm' := List.mem_of_getElem? em'
    have k1 := (partsD_all O1.modes).2.2 md mm
    have k2 := (partsD_all O2.modes).2.2 md' mm'
    have nm1 : ∀ {m : PyData}, modeD m = true → SeqAt.shaped (itD m 0) = true ∧ SeqAt.shaped (itD m 1) = true := fun {m} h => by
      have r := modeD_rule h
      unfold modeD at h
      simp only [Bool.and_eq_true] at h
      exact ⟨(nameD_shp h.2.2.1).ok, (ruleD_shp r).ok⟩
    refine eqS_tup I (n := 65) (e := fun i => match i with | 0 => PyData.eqv (itD md 0) (itD md' 0) | 1 => PyData.eqv (itD md 1) (itD md' 1) | _ => rowEq (itemsD (itD md 2)) (itemsD (itD md' 2))) neT hT hT' rfl fun j x y v u ex ey rv ru => ?_
    match j with
    | 0 =>
      cases ex
      cases ey
      exact (eqS_dat I q1 q1' (nm1 k1).1 (nm1 k2).1 rv ru).mono (by decide)
    | 1 =>
      cases ex
      cases ey
      exact (eqS_dat I q2 q2' (nm1 k1).2 (nm1 k2).2 rv ru).mono (by decide)
    | 2 =>
      cases ex
      cases ey
      cases rv
      cases ru
      exact eqS_tabR I (O1.row mm).2 (O2.row mm').2 (O1.rowShp mm) (O2.rowShp mm') q3 q3'
    | j + 3 => simp at ex
  | 3 =>
    cases ex
    cases ey
    exact (eqS_dat I g2 g2' O1.endsShp.ok O2.endsShp.ok rv ru).mono (by decide)
  | 4 =>
    cases ex
    cases ey
    exact (eqS_dat I g3 g3' O1.resShp.ok O2.resShp.ok rv ru).mono (by decide)
  | j + 5 => simp at ex
end
section
variable {P : Program} {w : World} {K : PySem.W.Frag} {mg : Str → Option Value} {base : Heap} {aR CP CU : Addr}
/-- what isinstance asks of the class -/
structure PKit (K : PySem.W.Frag) (CP : Addr) : Prop where
  c1 : PySem.W.findIn K (.ref CP) "__class__" = some (some (.builtin "object.__class__"))
  c2 : PySem.W.specialIn K (.builtin "object.__class__") "__get__" = some (some (.builtin "getset_descriptor.__get__"))
  c3 : PySem.W.takesIn K (.builtin "object.__class__") = some true
  c4 : PySem.W.mroIn K CP (.type "object") = some true
  own : PySem.W.kitOne K (.ref CP) (.ref CP) = some true
  dat : ∀ {Z : Addr → Prop} {H : Hp} {v : V} {d : PyData}, Dt Z H v d → PySem.W.kitOne K (.type (tyD d)) (.ref CP) = some false
def spPEq (P : Program) (w : World) (CP : Addr) : Sp := fun vs H Q _ => ∃ p b d1 d2 d3 d4, ProgOk P w CP H p b d1 d2 d3 d4 ∧
  ((∃ q b' d1' d2' d3' d4', vs = [.ref p, .ref q] ∧ ProgOk P w CP H q b' d1' d2' d3' d4' ∧ ∀ H', Same H H' → Q (.bl (progEq b d1 d2 d3 d4 b' d1' d2' d3' d4')) H') ∨ (∃ v d, vs = [.ref p, v] ∧ Dt Z0 H v d ∧ Q (.bl false) H))
theorem ProgOk.same {H H' : Hp} {p : Addr} {b : Int} {d1 d2 d3 d4 : PyData} (h : ProgOk P w CP H p b d1 d2 d3 d4) (s : Same H H') : ProgOk P w CP H' p b d1 d2 d3 d4 := ⟨h.1.same s, h.2⟩
abbrev s_Program___eq__ : Stmt := inClass (top 40) 18
abbrev N_Program___eq__ : List Str := ["self", "other"]
theorem sc_Program___eq__ : FnScope N_Program___eq__ ["self", "other"] (defScope s_Program___eq__) := ⟨rfl, rfl, rfl, by decide +kernel, rfl, by decide +kernel, by decide +kernel⟩
theorem ok_Program___eq__ {f : Addr} {fd : FuncData} (F : Fun K "__eq__" "Program.__eq__" s_Program___eq__ f fd) (C : PCls K mg CP) (PT : PTx K mg aR) (kt : PKit K CP) (mP : OwnMeth P w K mg base CP 1 "_parts" ["self"] (spPParts P w CP)) : FnOk P w K mg base (L2.CX P w) 2 f fd ["self", "other"] (spPEq P w CP) := by
  have T := PT.T
  refine F.okX sc_Program___eq__ (fun vs H Q E h => ?_) (fun cdv A outer s H vs Q E hr h => ?_)
  · obtain ⟨p, b1, d1, d2, d3, d4, _, ⟨_, _, _, _, _, _, rfl, _⟩ | ⟨_, _, rfl, _⟩⟩ := h <;> rfl
  · obtain ⟨p, b1, d1, d2, d3, d4, PK, h⟩ := h
    refine ⟨_, (pss_one (ps_ret (pe_and (pe_callB call_isi (by rfl) T.isinstance bb_isinstance (pa_cons (pv 1) (pa_cons (pe_glob (v := .ref CP) (by rfl) C.at_ rfl) pa_nil))) (pe_one (pe_cmpR (op_parts (room128 hr)) (pe_methO0 (pv 0) C.cl mP (hr.mono (by decide)) passL) (pe_methO0 (pv 1) C.cl mP (hr.mono (by decide)) passL) (nomark _)))))), ?_⟩
    obtain ⟨⟨dx, vr, vm, ve, va, vt, e, _⟩, PO, _⟩ := id PK
    rcases h with ⟨p', b', d1', d2', d3', d4', rfl, PK', q⟩ | ⟨v, d, rfl, hd, q⟩
    · obtain ⟨⟨dx', vr', vm', ve', va', vt', e', _⟩, PO', _⟩ := id PK'
      refine ⟨_, rfl, _, _, _, _, _, rfl, .own _, .base (.ins e' C.cl kt.c1 kt.c2 kt.c3 kt.c4), kt.own, _, rfl, iteT ?_⟩
      refine ⟨_, rfl, p, dx, _, rfl, e, rfl, p, b1, d1, d2, d3, d4, rfl, PK, fun t H1 s1 P1 => ?_⟩
      refine ⟨_, rfl, p', dx', _, rfl, s1 _ _ e', rfl, p', b', d1', d2', d3', d4', rfl, PK'.same s1, fun t' H2 s2 P2 => ?_⟩
      exact ⟨t, t', H, H1, b1, d1, d2, d3, d4, b', d1', d2', d3', d4', rfl, rfl, P1, s2, P2, PO, PO', q H2 (s1.trans s2)⟩
    · exact ⟨_, rfl, _, _, _, _, _, rfl, .own _, hd.ty, kt.dat hd, _, rfl, iteF q⟩
end
/-! ### changed, called by names -/
section
variable {X : Cx} {CX : CXT} {C f : Addr} {k n : Nat} {fd : FuncData} {ps ks : List Str} {sp : Sp} {E : XK} {m : Str} {apos pos : Pos} {o : Expr} {kws : List Keyword} {ta : TE} {tk : TA} {g : List Value → List Value → List Value} {gV : List V → List V → List V}
def tMethN (C : Addr) (m : Str) (n : Nat) (sp : Sp) (gV : List V → List V → List V) (E : XK) (ta : TE) (tk : TA) : TE := fun σ H Q => ta σ H fun x H1 => ∃ a dx fs, x = .ref a ∧ H1 a = some (.ins C dx fs) ∧ fs.lookup m = none ∧ tk σ H1 fun zs H2 => zs.length = n ∧ sp (gV [x] zs) H2 Q E
theorem pe_methN {pl : Sem Bool} (he : PE X o ta) (c : Cls X.K C) (hm : Meth X.K C m f) (F : FnOk X.prog X.w X.K X.mg X.base CX k f fd ps sp) (hr : Room k X.A) (hb : KBn X.K fd ps 1 ks g gV) (hx : Passes CX X E) (hkw : PK X kws tk)
    (hall : (backToKw pos (keywordEach kws X.env)).all (·.1.isSome) = true := by rfl) (hks : (backToKw pos (keywordEach kws X.env)).filterMap (·.1) = ks := by rfl)
    (hpl : ((backTo pos (starEach [] X.env)).any (·.1) || (backToKw pos (keywordEach kws X.env)).any (·.1.isNone)) = false := by rfl)
    (ht : eval (.Call (.Attribute o m apos) [] kws pos) X.env = (do
      let ov ← eval o X.env
      standAt apos.atName
      let (f, first) ← holding [ov] (getMethod ov m pl)
      callWith pos f first (backTo pos (starEach [] X.env)) (backToKw pos (keywordEach kws X.env))) := by rfl) :
    PE X (.Call (.Attribute o m apos) [] kws pos) (tMethN C m ks.length sp gV E ta tk) := by
  refine ⟨fun pins s σ H Q I h => ?_⟩
  refine PySem.W.methodCall_KW (pl := pl) (thn (he.run pins s σ H _ I h) fun u s1 ⟨x, H1, I1, rx, a, dx, fs, ex, ea, l, q⟩ => ?_) ht
  subst ex
  obtain rfl : u = Value.ref a := rx
  refine getmeth_ok I1 ea c hm l ?_
  refine PySem.W.callWith_KW0 (first := [.ref a]) (h₀ := X.base) I.ok.mod.kin hm.kp hall ?_ hpl
  refine thn (hkw.run pos pins s1 σ H1 _ I1 q) fun ws s2 ⟨zs, H2, I2, rz, l2, q2⟩ => ⟨I2.kIn, ?_⟩
  rw [hks]
  exact run_fnN (us := [.ref a]) (vs := [.ref a]) F hr hb hx I2 (.cons rfl .nil) rz rfl l2 q2
end
section
variable {P : Program} {w : World} {K : PySem.W.Frag} {mg : Str → Option Value} {base : Heap} {aR CP CB CG CM CI CE CR CU : Addr}
abbrev kwChanged : List (Str × V) := [("base", .non), ("ends", .non), ("result", .non)]
abbrev psChanged : List Str := ["self", "base", "ends", "result"]
abbrev FunChanged (K : PySem.W.Frag) (f : Addr) (fd : FuncData) : Prop := FunD K "changed" "Program.changed" (defArgs s_Program_changed) (defBody s_Program_changed) (defScope s_Program_changed) [] kwChanged f fd
theorem chg_base {f : Addr} {fd : FuncData} (F : FunChanged K f fd) : ∃ g, KBn K fd psChanged 1 ["base"] g (fun vs zs => vs ++ zs ++ [.non, .non]) := by
  obtain ⟨mv, h⟩ := F.kbinds0 (ps := psChanged) 1 ["base"] [("ends", .non), ("result", .non)] (fun us mz ws => us ++ ws ++ mz) (by decide) (fun q hq => by simp at hq ⊢; rcases hq with rfl | rfl <;> simp) (fun a b c => (a.append c).append b) (fun D doc pm an cdv ct us mv ws l1 l2 l3 => by
    match us, mv, ws, l1, l2, l3 with
    | [u], [m1, m2], [w], _, _, _ => exact ⟨_, _, _, _, _, _, rfl, rfl, _, _, _, _, _, _, rfl, rfl, rfl⟩)
  exact ⟨_, h⟩
theorem chg_ends {f : Addr} {fd : FuncData} (F : FunChanged K f fd) : ∃ g, KBn K fd psChanged 1 ["ends"] g (fun vs zs => vs ++ [.non] ++ zs ++ [.non]) := by
  obtain ⟨mv, h⟩ := F.kbinds0 (ps := psChanged) 1 ["ends"] [("base", .non), ("result", .non)] (fun us mz ws => us ++ mz.take 1 ++ ws ++ mz.drop 1) (by decide) (fun q hq => by simp at hq ⊢; rcases hq with rfl | rfl <;> simp) (fun a b c => ((a.append (b.take 1)).append c).append (b.drop 1)) (fun D doc pm an cdv ct us mv ws l1 l2 l3 => by
    match us, mv, ws, l1, l2, l3 with
    | [u], [m1, m2], [w], _, _, _ => exact ⟨_, _, _, _, _, _, rfl, rfl, _, _, _, _, _, _, rfl, rfl, rfl⟩)
  exact ⟨_, h⟩
theorem chg_result {f : Addr} {fd : FuncData} (F : FunChanged K f fd) : ∃ g, KBn K fd psChanged 1 ["result"] g (fun vs zs => vs ++ [.non, .non] ++ zs) := by
  obtain ⟨mv, h⟩ := F.kbinds0 (ps := psChanged) 1 ["result"] [("base", .non), ("ends", .non)] (fun us mz ws => us ++ mz ++ ws) (by decide) (fun q hq => by simp at hq ⊢; rcases hq with rfl | rfl <;> simp) (fun a b c => (a.append b).append c) (fun D doc pm an cdv ct us mv ws l1 l2 l3 => by
    match us, mv, ws, l1, l2, l3 with
    | [u], [m1, m2], [w], _, _, _ => exact ⟨_, _, _, _, _, _, rfl, rfl, _, _, _, _, _, _, rfl, rfl, rfl⟩)
  exact ⟨_, h⟩
theorem chg_none {f : Addr} {fd : FuncData} (F : FunChanged K f fd) : ∃ ds, Vals [V.non, .non, .non] ds ∧ Binds K fd psChanged ds :=
  F.binds0 (ps := psChanged) 1 (by decide) rfl (fun D doc pm an cdv ct us ks l1 l2 => by
    match us, ks, l1, l2 with
    | [u], [m1, m2, m3], _, _ => exact ⟨_, _, _, _, _, _, rfl, rfl, _, _, _, _, _, _, rfl, rfl, _, _, _, _, _, _, rfl, rfl, rfl⟩)
theorem FunD.plain {x qual : Str} {st : Stmt} {kws : List (Str × V)} {f : Addr} {fd : FuncData} (F : FunD K x qual (defArgs st) (defBody st) (defScope st) [] kws f fd) : Fun K x qual st f fd := by
  obtain ⟨⟨oc, od, dV, kV, doc, pm, an, cdv, ct, osl, e, lk, hcd, hD, hK⟩, kp⟩ := F
  rcases hD with ⟨_, rfl⟩ | ⟨h, _⟩
  · exact ⟨⟨oc, od, kV, doc, pm, an, cdv, ct, osl, e, lk, hcd⟩, kp⟩
  · exact absurd rfl h
/-- changed as a method that is called by names -/
def OwnChg (P : Program) (w : World) (K : PySem.W.Frag) (mg : Str → Option Value) (base : Heap) (CP : Addr) : Prop := ∃ f fd, Meth K CP "changed" f ∧ FunChanged K f fd ∧ FnOk P w K mg base (L2.CX P w) 10 f fd psChanged (spPChanged P w CP)
variable {X : Cx} {E : XK} {o e : Expr} {apos pos kp : Pos} {pl : Sem Bool} {ta te : TE}
theorem pe_chg (he : PE X o ta) (c : Cls X.K CP) (h : OwnChg X.prog X.w X.K X.mg X.base CP) (hr : Room 10 X.A) (hx : Passes (L2.CX X.prog X.w) X E)
    (ht : eval (.Call (.Attribute o "changed" apos) [] [] pos) X.env = (do
      let ov ← eval o X.env
      standAt apos.atName
      let (f, first) ← holding [ov] (getMethod ov "changed" pl)
      callWith pos f first (backTo pos (starEach [] X.env)) (backToKw pos (keywordEach [] X.env))) := by rfl) :
    PE X (.Call (.Attribute o "changed" apos) [] [] pos) (tMeth CP "changed" (spPChanged X.prog X.w CP) [.non, .non, .non] E ta tNil) := by
  obtain ⟨f, fd, m, F, G⟩ := h
  obtain ⟨ds, vd, b⟩ := chg_none F
  exact pe_meth0 (pl := pl) he c m G hr b vd hx ht
theorem pe_chgB (he : PE X o ta) (c : Cls X.K CP) (h : OwnChg X.prog X.w X.K X.mg X.base CP) (hr : Room 10 X.A) (hx : Passes (L2.CX X.prog X.w) X E) (hv : PE X e te)
    (hall : (backToKw pos (keywordEach [⟨some "base", e, kp⟩] X.env)).all (·.1.isSome) = true := by rfl) (hks : (backToKw pos (keywordEach [⟨some "base", e, kp⟩] X.env)).filterMap (·.1) = (["base"] : List Str) := by rfl)
    (hpl : ((backTo pos (starEach [] X.env)).any (·.1) || (backToKw pos (keywordEach [⟨some "base", e, kp⟩] X.env)).any (·.1.isNone)) = false := by rfl)
    (ht : eval (.Call (.Attribute o "changed" apos) [] [⟨some "base", e, kp⟩] pos) X.env = (do
      let ov ← eval o X.env
      standAt apos.atName
      let (f, first) ← holding [ov] (getMethod ov "changed" pl)
      callWith pos f first (backTo pos (starEach [] X.env)) (backToKw pos (keywordEach [⟨some "base", e, kp⟩] X.env))) := by rfl) :
    PE X (.Call (.Attribute o "changed" apos) [] [⟨some "base", e, kp⟩] pos) (tMethN CP "changed" 1 (spPChanged X.prog X.w CP) (fun vs zs => vs ++ zs ++ [.non, .non]) E ta (tCons te tNil)) := by
  obtain ⟨f, fd, m, F, G⟩ := h
  obtain ⟨g, b⟩ := chg_base F
  exact pe_methN (pl := pl) he c m G hr b hx (pk_cons hv pk_nil) hall hks hpl ht
theorem pe_chgE (he : PE X o ta) (c : Cls X.K CP) (h : OwnChg X.prog X.w X.K X.mg X.base CP) (hr : Room 10 X.A) (hx : Passes (L2.CX X.prog X.w) X E) (hv : PE X e te)
    (hall : (backToKw pos (keywordEach [⟨some "ends", e, kp⟩] X.env)).all (·.1.isSome) = true := by rfl) (hks : (backToKw pos (keywordEach [⟨some "ends", e, kp⟩] X.env)).filterMap (·.1) = (["ends"] : List Str) := by rfl)
    (hpl : ((backTo pos (starEach [] X.env)).any (·.1) || (backToKw pos (keywordEach [⟨some "ends", e, kp⟩] X.env)).any (·.1.isNone)) = false := by rfl)
    (ht : eval (.Call (.Attribute o "changed" apos) [] [⟨some "ends", e, kp⟩] pos) X.env = (do
      let ov ← eval o X.env
      standAt apos.atName
      let (f, first) ← holding [ov] (getMethod ov "changed" pl)
      callWith pos f first (backTo pos (starEach [] X.env)) (backToKw pos (keywordEach [⟨some "ends", e, kp⟩] X.env))) := by rfl) :
    PE X (.Call (.Attribute o "changed" apos) [] [⟨some "ends", e, kp⟩] pos) (tMethN CP "changed" 1 (spPChanged X.prog X.w CP) (fun vs zs => vs ++ [.non] ++ zs ++ [.non]) E ta (tCons te tNil)) := by
  obtain ⟨f, fd, m, F, G⟩ := h
  obtain ⟨g, b⟩ := chg_ends F
  exact pe_methN (pl := pl) he c m G hr b hx (pk_cons hv pk_nil) hall hks hpl ht
theorem pe_chgR (he : PE X o ta) (c : Cls X.K CP) (h : OwnChg X.prog X.w X.K X.mg X.base CP) (hr : Room 10 X.A) (hx : Passes (L2.CX X.prog X.w) X E) (hv : PE X e te)
    (hall : (backToKw pos (keywordEach [⟨some "result", e, kp⟩] X.env)).all (·.1.isSome) = true := by rfl) (hks : (backToKw pos (keywordEach [⟨some "result", e, kp⟩] X.env)).filterMap (·.1) = (["result"] : List Str) := by rfl)
    (hpl : ((backTo pos (starEach [] X.env)).any (·.1) || (backToKw pos (keywordEach [⟨some "result", e, kp⟩] X.env)).any (·.1.isNone)) = false := by rfl)
    (ht : eval (.Call (.Attribute o "changed" apos) [] [⟨some "result", e, kp⟩] pos) X.env = (do
      let ov ← eval o X.env
      standAt apos.atName
      let (f, first) ← holding [ov] (getMethod ov "changed" pl)
      callWith pos f first (backTo pos (starEach [] X.env)) (backToKw pos (keywordEach [⟨some "result", e, kp⟩] X.env))) := by rfl) :
    PE X (.Call (.Attribute o "changed" apos) [] [⟨some "result", e, kp⟩] pos) (tMethN CP "changed" 1 (spPChanged X.prog X.w CP) (fun vs zs => vs ++ [.non, .non] ++ zs) E ta (tCons te tNil)) := by
  obtain ⟨f, fd, m, F, G⟩ := h
  obtain ⟨g, b⟩ := chg_result F
  exact pe_methN (pl := pl) he c m G hr b hx (pk_cons hv pk_nil) hall hks hpl ht
end
/-! ### what the law draws: updates, next modes -/
section
variable {P : Program} {w : World} {K : PySem.W.Frag} {mg : Str → Option Value} {base : Heap} {aR : Addr}
abbrev s__law_then : Stmt := top 54
theorem sc__law_then : FnScope ["_law_pool_here", "_law_names"] ["_law_pool_here", "_law_names"] (defScope s__law_then) := ⟨rfl, rfl, rfl, by decide +kernel, rfl, by decide +kernel, by decide +kernel⟩
def spThen : Sp := fun vs H Q _ => ∃ (pp l : Addr) (zs : List Str), vs = [.ref pp, .ref l] ∧ PoolAt H pp ∧ H l = some (.lst (zs.map V.str)) ∧ l ≠ pp ∧ 0 < zs.length ∧ zs.length < 1000 ∧ ∀ v H', (v = .non ∨ ∃ z, v = .str z ∧ z ∈ zs) → PoolAt H' pp → Keep pp H H' → Q v H'
theorem ok__law_then (h : Has K mg "_law_then" s__law_then ["_law_pool_here", "_law_names"]) (O__law_draw : Ok P w K mg base 1 "_law_draw" ["_law_pool_here", "_law_many"] spDraw) (O__law_choose : Ok P w K mg base 2 "_law_choose" ["_law_pool_here", "_law_items"] (spChoose K)) : Ok P w K mg base 3 "_law_then" ["_law_pool_here", "_law_names"] spThen := by
  obtain ⟨f, fd, g, b, F⟩ := h
  refine ⟨f, fd, g, F.kp, b, F.ok sc__law_then (fun vs H Q E h => ?_) (fun cdv A outer s H vs Q E hr h => ?_)⟩
  · obtain ⟨pp, l, zs, rfl, _⟩ := h
    rfl
  · obtain ⟨pp, l, zs, rfl, hP, hl, ne, n0, n1, q⟩ := h
    refine ⟨_, (pss_one (ps_ret (pe_ifExp (pt_cmpR op_eq (pe_cO O__law_draw (hr.mono (by decide)) pass0 rfl (pa_cons (pv 0) (pa_cons pe_int pa_nil))) pe_int (nomark _)) pe_non (pe_cO O__law_choose (hr.mono (by decide)) pass0 rfl (pa_cons (pv 0) (pa_cons (pv 1) pa_nil)))))), ?_⟩
    refine ⟨_, rfl, pp, 6, rfl, by decide, ⟨by decide, by decide⟩, hP, fun d H1 d0 d1 P1 k1 => ?_⟩
    refine ⟨rfl, _, rfl, ite2 (fun c => ?_) (fun c => ?_)⟩
    · exact q .non H1 (.inl rfl) P1 k1
    · refine ⟨_, rfl, _, rfl, pp, l, zs.map V.str, rfl, SqL.of (k1 _ _ hl ne), ne, by rw [List.length_map]; exact n0, by rw [List.length_map]; omega, P1, fun v H2 hv P2 k2 => ?_⟩
      obtain ⟨z, hz, rfl⟩ := List.mem_map.mp hv
      exact q _ H2 (.inr ⟨z, rfl, hz⟩) P2 (k1.trans k2)
/-- updates of a row stand at the places us -/
def UpsAt (H : Hp) (us : List Addr) (uss : List (List Int)) : Prop := us.length = uss.length ∧ ∀ (i : Nat) (ut : Addr) (fs : List Int), us[i]? = some ut → uss[i]? = some fs → H ut = some (.tup (fs.map V.int))
theorem UpsAt.keep {pp : Addr} {H H' : Hp} {us : List Addr} {uss : List (List Int)} (h : UpsAt H us uss) (k : Keep pp H H') (P : PoolAt H pp) : UpsAt H' us uss := by
  refine ⟨h.1, fun i ut fs e1 e2 => ?_⟩
  have a := h.2 i ut fs e1 e2
  obtain ⟨c, z, _, _, hp⟩ := P
  exact k _ _ a fun e => by rw [e, hp] at a; cases a
theorem UpsAt.other {H : Hp} {D : Addr} {xs : List V} {o : HO} {us : List Addr} {uss : List (List Int)} (h : UpsAt H us uss) (hD : H D = some (.lst xs)) : UpsAt (upd H D o) us uss := by
  refine ⟨h.1, fun i ut fs e1 e2 => ?_⟩
  have a := h.2 i ut fs e1 e2
  rw [upd_ne (fun e => by rw [e, hD] at a; cases a)]
  exact a
theorem UpsAt.snoc {H : Hp} {p : Addr} {fs : List Int} {us : List Addr} {uss : List (List Int)} (h : UpsAt H us uss) (hp : H p = some (.tup (fs.map V.int))) : UpsAt H (us ++ [p]) (uss ++ [fs]) := by
  refine ⟨by rw [List.length_append, List.length_append, h.1]; rfl, fun i c r e1 e2 => ?_⟩
  by_cases hi : i < us.length
  · rw [List.getElem?_append_left hi] at e1
    rw [List.getElem?_append_left (by rw [← h.1]; exact hi)] at e2
    exact h.2 i c r e1 e2
  · rw [List.getElem?_append_right (by omega)] at e1
    rw [List.getElem?_append_right (by rw [← h.1]; omega)] at e2
    have l1 := (List.getElem?_eq_some_iff.mp e1).1
    have z1 : i - us.length = 0 := by simpa using l1
    have z2 : i - uss.length = 0 := by rw [← h.1]; exact z1
    rw [z1] at e1
    rw [z2] at e2
    cases e1
    cases e2
    exact hp
end
section
variable {P : Program} {w : World} {K : PySem.W.Frag} {mg : Str → Option Value} {base : Heap} {aR : Addr}
abbrev s__law_updates : Stmt := top 53
abbrev NU : List Str := ["_law_pool_here", "_law_many", "_law_greatest", "_law_found", "_law_place", "_law_turn"]
theorem sc__law_updates : FnScope NU ["_law_pool_here", "_law_many", "_law_greatest"] (defScope s__law_updates) := ⟨rfl, rfl, rfl, by decide +kernel, rfl, by decide +kernel, by decide +kernel⟩
def spUpdates : Sp := fun vs H Q _ => ∃ (pp : Addr) (many : Nat) (gr : Int), vs = [.ref pp, .int many, .int gr] ∧ many ≤ 3 ∧ 0 ≤ gr ∧ gr ≤ 1000 ∧ PoolAt H pp ∧ ∀ (u : Addr) (us : List Addr) (uss : List (List Int)) H', PoolAt H' pp → Keep pp H H' → H' u = some (.tup (us.map V.ref)) → UpsAt H' us uss → uss.length = many → (∀ fs ∈ uss, fs.length = many + 2 ∧ ∀ x ∈ fs, -gr ≤ x ∧ x ≤ gr) → Q (.ref u) H'
theorem ok__law_updates (h : Has K mg "_law_updates" s__law_updates ["_law_pool_here", "_law_many", "_law_greatest"]) (T : Txt K mg aR) (O__law_draw : Ok P w K mg base 1 "_law_draw" ["_law_pool_here", "_law_many"] spDraw) : Ok P w K mg base 2 "_law_updates" ["_law_pool_here", "_law_many", "_law_greatest"] spUpdates := by
  obtain ⟨f, fd, g, b, F⟩ := h
  refine ⟨f, fd, g, F.kp, b, F.ok sc__law_updates (fun vs H Q E h => ?_) (fun cdv A outer s H vs Q E hr h => ?_)⟩
  · obtain ⟨pp, many, gr, rfl, _⟩ := h
    rfl
  · obtain ⟨pp, many, gr, rfl, m3, g0, g1, hP, q⟩ := h
    refine ⟨_, (pss_cons (ps_set (i := 3) sc__law_updates.nd rfl (Or.inl rfl) (pe_lst pa_nil))
      (pss_cons (ps_for PassesOwn.never rfl (pi_range1 rfl T.range (pa_cons (pv 1) pa_nil)) (pg_name (i := 4) sc__law_updates.nd rfl (.inl rfl))
        (pss_one (ps_expr (pe_bm PySem.F.plainAttrs_list PySem.F.slot_list_append PySem.F.type_list_append mt_append (pv 3) (pa_cons (pe_callTy call_tuple_of (by rfl) T.tuple (by decide +kernel) (pa_cons (pe_lc (own := [("_law_turn", 5)]) (g := gName 5) (tt := tYes) rfl sc__law_updates.nd (pi_range1 rfl T.range (pa_cons (pe_op op_add (pv 1) pe_int) pa_nil)) (blkOk_by (N := NU) (sc := defScope s__law_updates) (by decide +kernel)) (fun _ _ _ _ _ => pg_name (i := 5) sc__law_updates.nd rfl (Or.inl rfl)) (fun _ _ _ _ _ => pts_nil)
          (fun _ _ _ _ _ => pe_op op_sub (pe_cO O__law_draw (hr.mono (by decide)) pass0 rfl (pa_cons (pv 0) (pa_cons (pe_op op_add (pe_op op_mulS pe_int (pv 2)) pe_int) pa_nil))) (pv 2))) pa_nil)) pa_nil)))))
      (pss_one (ps_ret (pe_callTy call_tuple_of (by rfl) T.tuple (by decide +kernel) (pa_cons (pv 3) pa_nil)))))), ?_⟩
    refine ⟨by show 0 ≤ sizeLine; decide, fun D hD => ?_⟩
    have neD : D ≠ pp := hP.ne hD
    refine ⟨_, rfl, many, rfl, by omega, by omega, for_range (n := (many : Int).toNat) (fun i σ H' => Keep pp H H' ∧ PoolAt H' pp ∧ (∃ (us : List Addr) (uss : List (List Int)), H' D = some (.lst (us.map V.ref)) ∧ UpsAt H' us uss ∧ uss.length = i ∧ ∀ fs ∈ uss, fs.length = many + 2 ∧ ∀ x ∈ fs, -gr ≤ x ∧ x ≤ gr) ∧ ∃ v4 v5 : Option V, σ = [some (.ref pp), some (.int many), some (.int gr), some (.ref D), v4, v5])
      ⟨Same.keep (Same.new hD), hP.same (Same.new hD), ⟨[], [], upd_same, ⟨rfl, fun i a r e => nomatch e⟩, rfl, fun fs e => nomatch e⟩, none, none, rfl⟩ ?_ ?_⟩
    · rintro i σ H1 hi ⟨k1, P1, ⟨us, uss, h1, hu, hl, hf⟩, v4, v5, rfl⟩
      refine ⟨_, rfl, .inl ⟨rfl, _, SqL.of h1⟩, ?_⟩
      refine ⟨_, rfl, _, _, rfl, rfl, (many : Int) + 2, rfl, by omega, by omega, fun D2 u2 => ?_⟩
      have ne2 : D2 ≠ pp := P1.ne u2
      refine lc_range (n := ((many : Int) + 2).toNat) (fun j H' => Keep pp H1 H' ∧ PoolAt H' pp ∧ ∃ fs : List Int, H' D2 = some (.lst (fs.map V.int)) ∧ fs.length = j ∧ ∀ x ∈ fs, -gr ≤ x ∧ x ≤ gr) ⟨Same.keep (Same.new u2), P1.same (Same.new u2), [], upd_same, rfl, fun x e => nomatch e⟩ ?_ ?_
      · rintro j H' hj ⟨kj, Pj, fs, hfs, lj, bj⟩
        refine ⟨rfl, ?_⟩
        unfold tYes
        dsimp only
        rw [if_pos rfl]
        refine ⟨_, rfl, _, rfl, _, _, rfl, rfl, ⟨⟨by decide, by decide⟩, ⟨by omega, by omega⟩⟩, _, _, rfl, rfl, pp, 2 * gr + 1, rfl, by omega, ⟨by omega, by omega⟩, Pj, fun d H2 d0 d1 P2 k2 => ?_⟩
        have h2 := k2 _ _ hfs ne2
        refine ⟨_, rfl, _, _, rfl, rfl, _, h2, by rw [List.length_map, lj]; exact Nat.lt_of_lt_of_le hj (Nat.le_trans (by omega : _ ≤ 5) (by decide)), fun b o e nb => ?_, ?_, fs ++ [d - gr], ?_, ?_, fun x hx => ?_⟩
        · rw [upd_ne (ne_of_none e u2)]
          exact k2 _ _ (kj _ _ e nb) nb
        · obtain ⟨c, z, z0, z1, hp⟩ := P2
          exact ⟨c, z, z0, z1, by rw [upd_ne (Ne.symm ne2)]; exact hp⟩
        · rw [upd_same, List.map_append]
          rfl
        · rw [List.length_append, lj]
          rfl
        · rcases List.mem_append.mp hx with hx | hx
          · exact bj x hx
          · rw [List.mem_singleton.mp hx]
            omega
      · rintro H2 ⟨k2, P2, fs, hfs, lj, bj⟩
        refine ⟨D2, _, rfl, .inl ⟨SqL.of hfs, fun p hp => ?_⟩⟩
        have s3 : Same H2 (upd H2 p (.tup (fs.map V.int))) := Same.new hp
        have d3 : (upd H2 p (.tup (fs.map V.int))) p = some (.tup (fs.map V.int)) := upd_same
        generalize upd H2 p (.tup (fs.map V.int)) = H3 at s3 d3 ⊢
        have k3 := k2.trans (Same.keep s3)
        have P3 := P2.same s3
        have h3 := k3 _ _ h1 neD
        have hu3 := hu.keep k3 P1
        refine ⟨D, _, _, rfl, rfl, h3, by rw [List.length_map, hu.1, hl]; exact Nat.lt_of_lt_of_le hi (Nat.le_trans (by omega : _ ≤ 3) (by decide)), ?_⟩
        refine ⟨fun b o e nb => ?_, ?_, ⟨us ++ [p], uss ++ [fs], ?_, (hu3.snoc d3).other h3, by rw [List.length_append, hl]; rfl, fun x hx => ?_⟩, _, _, rfl⟩
        · rw [upd_ne (ne_of_none e hD)]
          exact k3 _ _ (k1 _ _ e nb) nb
        · obtain ⟨c, z, z0, z1, hp⟩ := P3
          exact ⟨c, z, z0, z1, by rw [upd_ne (Ne.symm neD)]; exact hp⟩
        · rw [upd_same, List.map_append]
          rfl
        · rcases List.mem_append.mp hx with hx | hx
          · exact hf x hx
          · rw [List.mem_singleton.mp hx]
            exact ⟨by omega, bj⟩
    · rintro σ H1 ⟨k1, P1, ⟨us, uss, h1, hu, hl, hf⟩, v4, v5, rfl⟩
      refine ⟨_, rfl, D, _, rfl, .inl ⟨SqL.of h1, fun p hp => ?_⟩⟩
      have s2 : Same H1 (upd H1 p (.tup (us.map V.ref))) := Same.new hp
      exact q p us uss _ (P1.same s2) (k1.trans (Same.keep s2)) upd_same (hu.keep (Same.keep s2) P1) (by rw [hl]; rfl) hf
end
section
theorem UpsAt.dt {H : Hp} {pp : Addr} {us : List Addr} {uss : List (List Int)} (h : UpsAt H us uss) (P : PoolAt H pp) : DtAll (Zp pp) H (us.map V.ref) (uss.map fun fs => .tuple (fs.map PyData.int)) := by
  refine DtAll.of_get (by rw [List.length_map, List.length_map, h.1]) fun i v d e1 e2 => ?_
  rw [List.getElem?_map] at e1 e2
  obtain ⟨u, e3, rfl⟩ := Option.map_eq_some_iff.mp e1
  obtain ⟨fs, e4, rfl⟩ := Option.map_eq_some_iff.mp e2
  have t := h.2 i u fs e3 e4
  obtain ⟨c, z, _, _, hp⟩ := P
  exact .tup t (fun m => by rw [show u = pp from m, hp] at t; cases t) (DtAll.ints fs)
/-- updates as data -/
def updsD (uss : List (List Int)) : PyData := .tuple (uss.map fun fs => .tuple (fs.map PyData.int))
end
/-! ### what the law draws: rows -/
section
theorem Keep.off {pp : Addr} {H H1 : Hp} {p : Addr} {o : HO} (a : Keep pp H H1) (n : H p = none) : Keep pp H (upd H1 p o) := fun b u e nb => by
  rw [upd_ne (ne_of_none e n)]
  exact a b u e nb
theorem PoolAt.upd {H : Hp} {pp p : Addr} {o : HO} (h : PoolAt H pp) (n : p ≠ pp) : PoolAt (upd H p o) pp := by
  obtain ⟨c, s, a, b, e⟩ := h
  exact ⟨c, s, a, b, by rw [upd_ne (Ne.symm n)]; exact e⟩
/-- a drawn row -/
def RowL (size : Int) (many : Nat) (zs : List Str) (r : PyData) : Prop := ∃ a b uss t, r = .tuple [a, b, updsD uss, t] ∧ NI a ∧ NI b ∧ optD a (betw a (-1) 1) = true ∧ optD b (remD b size) = true ∧ (t = .none ∨ ∃ z, t = .str z ∧ z ∈ zs) ∧ uss.length = many ∧ ∀ fs ∈ uss, fs.length = many + 2 ∧ ∀ x ∈ fs, -1000 ≤ x ∧ x ≤ (1000 : Int)
theorem thenD_in {t : PyData} {zs : List Str} (h : t = .none ∨ ∃ z, t = .str z ∧ z ∈ zs) : thenD t zs = true := by
  rcases h with rfl | ⟨z, rfl, m⟩
  · rfl
  · show inV (.str z) (zs.map V.str) = true
    unfold inV
    refine List.any_eq_true.mpr ⟨.str z, List.mem_map.mpr ⟨z, m, rfl⟩, ?_⟩
    unfold eqV
    simp
theorem upsD_of {uss : List (List Int)} {many : Nat} (l : uss.length = many) (h : ∀ fs ∈ uss, fs.length = many + 2 ∧ ∀ x ∈ fs, -1000 ≤ x ∧ x ≤ (1000 : Int)) : upsD (updsD uss) many = true := by
  unfold upsD updsD
  have e1 : isTup (PyData.tuple (uss.map fun fs => PyData.tuple (fs.map PyData.int))) = true := rfl
  rw [e1, Bool.true_and, Bool.and_eq_true]
  refine ⟨decide_eq_true (by simp [itemsD, l]), List.all_eq_true.mpr fun x hx => ?_⟩
  obtain ⟨fs, hf, rfl⟩ := List.mem_map.mp hx
  obtain ⟨l2, b⟩ := h fs hf
  unfold factD
  have e2 : isTup (PyData.tuple (fs.map PyData.int)) = true := rfl
  rw [e2, Bool.true_and, Bool.and_eq_true]
  refine ⟨decide_eq_true (by simp [itemsD, l2]), List.all_eq_true.mpr fun y hy => ?_⟩
  obtain ⟨i, hi, rfl⟩ := List.mem_map.mp hy
  obtain ⟨b1, b2⟩ := b i hi
  show (decide (-1000000 ≤ i) && decide (i ≤ 1000000)) = true
  simp only [Bool.and_eq_true, decide_eq_true_eq]
  omega
theorem RowL.row {size : Int} {many : Nat} {zs : List Str} {r : PyData} (h : RowL size many zs r) : rowD r size many zs = true := by
  obtain ⟨a, b, uss, t, rfl, _, _, h1, h2, h3, h4, h5⟩ := h
  have e : rowD (.tuple [a, b, updsD uss, t]) size many zs = (true && (true && ((optD a (betw a (-1) 1) && optD b (remD b size)) && (upsD (updsD uss) many && thenD t zs)))) := rfl
  rw [e, h1, h2, upsD_of h4 h5, thenD_in h3]
  rfl
theorem RowL.nik {size : Int} {many : Nat} {zs : List Str} {r : PyData} (h : RowL size many zs r) : NIK (keyD r) := by
  obtain ⟨a, b, uss, t, rfl, n0, n1, _⟩ := h
  exact ⟨a, b, rfl, n0, n1⟩
theorem NIK.shp {k : PyData} (h : NIK k) : Shp 1 k := by
  obtain ⟨a, b, rfl, n0, n1⟩ := h
  exact shp_tup (n := 0) fun z hz => by
    simp only [List.mem_cons, List.not_mem_nil, or_false] at hz
    rcases hz with rfl | rfl
    · exact n0.shp
    · exact n1.shp
def nnD : PyData := .tuple [.none, .none]
theorem rows_wrong {size : Int} {many : Nat} {zs : List Str} {rows : List PyData} {last : PyData} (h : ∀ r ∈ rows, RowL size many zs r) (hl : RowL size many zs last) (kl : keyD last = nnD) (nd : (nnD :: rows.map keyD).Nodup) : wrongRow size many zs (rows ++ [last]) [] 0 = none := by
  refine wrongRow_of (fun x hx => ?_) (fun z hz => by cases hz) ?_ ?_
  · rcases List.mem_append.mp hx with hx | hx
    · exact (h x hx).row
    · rw [List.mem_singleton.mp hx]
      exact hl.row
  · rw [List.nil_append, List.map_append, List.map_cons, List.map_nil, kl]
    rw [List.nodup_cons] at nd
    exact List.nodup_append.mpr ⟨nd.2, by simp, fun a ha b hb => by
      rw [List.mem_singleton.mp hb]
      exact fun m => nd.1 (m ▸ ha)⟩
  · unfold keyIn
    rw [List.any_eq_true]
    refine ⟨nnD, ?_, by decide +kernel⟩
    rw [List.nil_append, List.map_append, List.map_cons, List.map_nil, kl]
    simp
end
theorem room65 {k : Nat} {A : Around} (r : Room k A) : A.units + 65 < cLine := by
  have := r.un
  omega
theorem PoolAt.nep {H : Hp} {pp u : Addr} {xs : List V} (P : PoolAt H pp) (h : H u = some (.tup xs)) : u ≠ pp := fun m => by
  obtain ⟨c, z, _, _, hp⟩ := P
  rw [m, hp] at h
  cases h
theorem pick_sign {v : V} (h : v ∈ [V.non, .int (-1), .int 0, .int 1]) : ∃ a : PyData, NI a ∧ optD a (betw a (-1) 1) = true ∧ ∀ (Z : Addr → Prop) (H : Hp), Dt Z H v a := by
  simp only [List.mem_cons, List.not_mem_nil, or_false] at h
  rcases h with rfl | rfl | rfl | rfl
  · exact ⟨.none, .inl rfl, rfl, fun _ _ => .non⟩
  · exact ⟨.int (-1), .inr ⟨_, rfl⟩, by decide, fun _ _ => .int _⟩
  · exact ⟨.int 0, .inr ⟨_, rfl⟩, by decide, fun _ _ => .int _⟩
  · exact ⟨.int 1, .inr ⟨_, rfl⟩, by decide, fun _ _ => .int _⟩
theorem remD_of {i size : Int} (h1 : 1 - size ≤ i) (h2 : i ≤ size - 1) : optD (.int i) (remD (.int i) size) = true := by
  show (decide (1 - size ≤ i) && decide (i ≤ size - 1)) = true
  rw [decide_eq_true h1, decide_eq_true h2]
  rfl
theorem pick_rem {v : V} {size : Int} (z : 2 ≤ size) (h : v ∈ [V.non, .int 0, .int 1, .int (-1), .int (size - 1), .int (1 - size)]) : ∃ a : PyData, NI a ∧ optD a (remD a size) = true ∧ ∀ (Z : Addr → Prop) (H : Hp), Dt Z H v a := by
  simp only [List.mem_cons, List.not_mem_nil, or_false] at h
  rcases h with rfl | rfl | rfl | rfl | rfl | rfl
  · exact ⟨.none, .inl rfl, rfl, fun _ _ => .non⟩
  all_goals exact ⟨.int _, .inr ⟨_, rfl⟩, remD_of (by omega) (by omega), fun _ _ => .int _⟩
theorem then_dt {v : V} {zs : List Str} (h : v = .non ∨ ∃ z, v = .str z ∧ z ∈ zs) : ∃ t : PyData, (t = .none ∨ ∃ z, t = .str z ∧ z ∈ zs) ∧ ∀ (Z : Addr → Prop) (H : Hp), Dt Z H v t := by
  rcases h with rfl | ⟨z, rfl, m⟩
  · exact ⟨.none, .inl rfl, fun _ _ => .non⟩
  · exact ⟨.str z, .inr ⟨z, rfl, m⟩, fun _ _ => .str z⟩
section
variable {P : Program} {w : World} {K : PySem.W.Frag} {mg : Str → Option Value} {base : Heap} {aR : Addr}
abbrev s__law_rows : Stmt := top 55
abbrev N__law_rows : List Str := ["_law_pool_here", "_law_size", "_law_many", "_law_names", "_law_found", "_law_seen", "_law_turn", "_law_key"]
theorem sc__law_rows : FnScope N__law_rows ["_law_pool_here", "_law_size", "_law_many", "_law_names"] (defScope s__law_rows) := ⟨rfl, rfl, rfl, by decide +kernel, rfl, by decide +kernel, by decide +kernel⟩
def spLRows : Sp := fun vs H Q _ => ∃ (pp l : Addr) (size : Int) (many : Nat) (zs : List Str), vs = [.ref pp, .int size, .int (many : Nat), .ref l] ∧ 2 ≤ size ∧ size ≤ 10 ∧ many ≤ 3 ∧ H l = some (.lst (zs.map V.str)) ∧ l ≠ pp ∧ 0 < zs.length ∧ zs.length < 1000 ∧ PoolAt H pp ∧
  ∀ u rows H', H u = none → PoolAt H' pp → Keep pp H H' → Dt (Zp pp) H' (.ref u) (.list rows) → (∀ r ∈ rows, RowL size many zs r) → rows.length ≤ 4 → wrongRow size many zs rows [] 0 = none → Q (.ref u) H'
theorem ok__law_rows (h : Has K mg "_law_rows" s__law_rows ["_law_pool_here", "_law_size", "_law_many", "_law_names"]) (T : Txt K mg aR) (O__law_draw : Ok P w K mg base 1 "_law_draw" ["_law_pool_here", "_law_many"] spDraw) (O__law_choose : Ok P w K mg base 2 "_law_choose" ["_law_pool_here", "_law_items"] (spChoose K))
    (O__law_updates : Ok P w K mg base 2 "_law_updates" ["_law_pool_here", "_law_many", "_law_greatest"] spUpdates) (O__law_then : Ok P w K mg base 3 "_law_then" ["_law_pool_here", "_law_names"] spThen) : Ok P w K mg base 4 "_law_rows" ["_law_pool_here", "_law_size", "_law_many", "_law_names"] spLRows := by
  obtain ⟨f, fd, g, b, F⟩ := h
  refine ⟨f, fd, g, F.kp, b, F.ok sc__law_rows (fun vs H Q E h => ?_) (fun cdv A outer s H vs Q E hr h => ?_)⟩
  · obtain ⟨pp, l, size, many, zs, rfl, _⟩ := h
    rfl
  · obtain ⟨pp, l, size, many, zs, rfl, z0, z1, m3, hl, nl, n0, n1, hP, q⟩ := h
    refine ⟨_, (pss_cons (ps_par (by rfl) sc__law_rows.nd (i := 4) (j := 5) rfl rfl (by decide) rfl rfl (pa_cons (pe_lst pa_nil) (pa_cons (pe_lst (pa_cons (pe_tup (pa_cons pe_non (pa_cons pe_non pa_nil))) pa_nil)) pa_nil)) (by rfl))
      (pss_cons (ps_for PassesOwn.never rfl (pi_range1 (by rfl) T.range (pa_cons (pe_cO O__law_draw (hr.mono (by decide)) pass0 rfl (pa_cons (pv 0) (pa_cons pe_int pa_nil))) pa_nil)) (pg_name (i := 6) sc__law_rows.nd rfl (.inl rfl))
        (pss_cons (ps_set (i := 7) sc__law_rows.nd rfl (.inl rfl) (pe_tup (pa_cons (pe_cO O__law_choose (hr.mono (by decide)) pass0 rfl (pa_cons (pv 0) (pa_cons (pe_lst (pa_cons pe_non (pa_cons (pe_un un_neg pe_int) (pa_cons pe_int (pa_cons pe_int pa_nil))))) pa_nil))) (pa_cons (pe_cO O__law_choose (hr.mono (by decide)) pass0 rfl (pa_cons (pv 0) (pa_cons (pe_lst (pa_cons pe_non (pa_cons pe_int (pa_cons pe_int (pa_cons (pe_un un_neg pe_int) (pa_cons (pe_op op_sub (pv 1) pe_int) (pa_cons (pe_op op_sub pe_int (pv 1)) pa_nil))))))) pa_nil))) pa_nil))))
        (pss_one (ps_if (pt_cmpR (op_notInD (room65 hr)) (pv 7) (pv 5) (by rfl))
          (pss_cons (ps_expr (pe_bm PySem.F.plainAttrs_list PySem.F.slot_list_append PySem.F.type_list_append mt_append (pv 5) (pa_cons (pv 7) pa_nil)))
          (pss_one (ps_expr (pe_bm PySem.F.plainAttrs_list PySem.F.slot_list_append PySem.F.type_list_append mt_append (pv 4) (pa_cons (pe_op op_catT (pv 7) (pe_tup (pa_cons (pe_cO O__law_updates (hr.mono (by decide)) pass0 rfl (pa_cons (pv 0) (pa_cons (pv 2) (pa_cons pe_int pa_nil)))) (pa_cons (pe_cO O__law_then (hr.mono (by decide)) pass0 rfl (pa_cons (pv 0) (pa_cons (pv 3) pa_nil))) pa_nil)))) pa_nil)))))
          pss_nil))))
      (pss_cons (ps_expr (pe_bm PySem.F.plainAttrs_list PySem.F.slot_list_append PySem.F.type_list_append mt_append (pv 4) (pa_cons (pe_tup (pa_cons pe_non (pa_cons pe_non (pa_cons (pe_cO O__law_updates (hr.mono (by decide)) pass0 rfl (pa_cons (pv 0) (pa_cons (pv 2) (pa_cons pe_int pa_nil)))) (pa_cons (pe_cO O__law_choose (hr.mono (by decide)) pass0 rfl (pa_cons (pv 0) (pa_cons (pv 3) pa_nil))) pa_nil))))) pa_nil)))
      (pss_one (ps_ret (pv 4)))))), ?_⟩
    refine ⟨by show 0 ≤ sizeLine; decide, fun D hD => ⟨by show 2 ≤ sizeLine; decide, fun t nt => ⟨by show 1 ≤ sizeLine; decide, fun S nS => ⟨_, _, rfl, ?_⟩⟩⟩⟩
    have s1 : Same H (upd H D (.lst [])) := Same.new hD
    have a1 : (upd H D (.lst [])) D = some (.lst []) := upd_same
    generalize upd H D (.lst []) = H1 at s1 a1 nt nS ⊢
    have s2 : Same H1 (upd H1 t (.tup [.non, .non])) := Same.new nt
    have a2 : (upd H1 t (.tup [.non, .non])) t = some (.tup [.non, .non]) := upd_same
    generalize upd H1 t (.tup [.non, .non]) = H2 at s2 a2 nS ⊢
    have s3 : Same H2 (upd H2 S (.lst [.ref t])) := Same.new nS
    have a3 : (upd H2 S (.lst [.ref t])) S = some (.lst [.ref t]) := upd_same
    generalize upd H2 S (.lst [.ref t]) = H3 at s3 a3 ⊢
    have s03 := (s1.trans s2).trans s3
    have hS : H S = none := (s1.trans s2).free nS
    have neD : D ≠ pp := hP.ne hD
    have neS : S ≠ pp := hP.ne hS
    have neDS : D ≠ S := ne_of_none (s2 _ _ a1) nS
    have netS : t ≠ S := ne_of_none a2 nS
    have netD : t ≠ D := fun m => by rw [m, a1] at nt; cases nt
    have net : t ≠ pp := hP.ne ((s1).free nt)
    have lD : l ≠ D := ne_of_none hl hD
    have lS : l ≠ S := ne_of_none hl hS
    refine ⟨_, rfl, pp, 4, rfl, by decide, ⟨by decide, by decide⟩, hP.same s03, fun d H4 d0 d1 P4 k4 => ?_⟩
    refine ⟨d, rfl, by omega, by omega, for_range (n := d.toNat) (fun i σ H' => Keep pp H H' ∧ PoolAt H' pp ∧ (∃ xs rows ks, H' D = some (.lst xs) ∧ DtAll (Zu (Zu (Zp pp) D) S) H' xs rows ∧ H' S = some (.lst ks) ∧ DtAll (Zu (Zu (Zp pp) D) S) H' ks (nnD :: rows.map keyD) ∧ (∀ r ∈ rows, RowL size many zs r) ∧ (nnD :: rows.map keyD).Nodup ∧ rows.length ≤ i) ∧ ∃ v6 v7 : Option V, σ = [some (.ref pp), some (.int size), some (.int (many : Nat)), some (.ref l), some (.ref D), some (.ref S), v6, v7])
      ⟨(Same.keep s03).trans k4, P4, ⟨[], [], [.ref t], k4 _ _ ((s2.trans s3) _ _ a1) neD, .nil, k4 _ _ a3 neS, .cons (.tup (k4 _ _ (s3 _ _ a2) net) (fun m => by
        rcases m with (m | m) | m
        · exact net m
        · exact netD m
        · exact netS m) (.cons .non (.cons .non .nil))) .nil, (fun r hr => by cases hr), by simp, Nat.zero_le _⟩, none, none, rfl⟩ ?_ ?_⟩
    · rintro i σ H5 hi ⟨k5, P5, ⟨xs, rows, ks, e1, dx, e2, dk, rl, nd, lr⟩, v6, v7, rfl⟩
      refine ⟨_, rfl, 1, rfl, by show 4 ≤ sizeLine; decide, fun l1 hl1 => ?_⟩
      refine ⟨pp, l1, [.non, .int (-1), .int 0, .int 1], rfl, SqL.of upd_same, P5.ne hl1, by decide, by decide, P5.same (Same.new hl1), fun v0 H6 hv0 P6 k6 => ?_⟩
      have k56 : Keep pp H5 H6 := (Same.keep (Same.new hl1)).trans k6
      refine ⟨_, rfl, 1, rfl, _, rfl, _, _, rfl, rfl, _, rfl, _, _, rfl, rfl, by show 6 ≤ sizeLine; decide, fun l2 hl2 => ?_⟩
      refine ⟨pp, l2, [.non, .int 0, .int 1, .int (-1), .int (size - 1), .int (1 - size)], rfl, SqL.of upd_same, P6.ne hl2, by simp, by simp, P6.same (Same.new hl2), fun v1 H7 hv1 P7 k7 => ?_⟩
      have k57 : Keep pp H5 H7 := k56.trans ((Same.keep (Same.new hl2)).trans k7)
      refine ⟨by show 2 ≤ sizeLine; decide, fun kt nkt => ?_⟩
      obtain ⟨a, na, oa, da⟩ := pick_sign hv0
      obtain ⟨b, nb, ob, db⟩ := pick_rem z0 hv1
      have k58 : Keep pp H5 (upd H7 kt (.tup [v0, v1])) := k57.trans (Same.keep (Same.new nkt))
      have P8 : PoolAt (upd H7 kt (.tup [v0, v1])) pp := P7.same (Same.new nkt)
      have a8 : (upd H7 kt (.tup [v0, v1])) kt = some (.tup [v0, v1]) := upd_same
      have ktD : kt ≠ D := fun m => by rw [m, k57 _ _ e1 neD] at nkt; cases nkt
      have ktS : kt ≠ S := fun m => by rw [m, k57 _ _ e2 neS] at nkt; cases nkt
      have ktp : kt ≠ pp := P7.ne nkt
      have ktZ : ¬ Zu (Zu (Zp pp) D) S kt := fun m => by
        rcases m with (m | m) | m
        · exact ktp m
        · exact ktD m
        · exact ktS m
      show tSeq _ _ _ _ (upd H7 kt (.tup [v0, v1]))
      generalize upd H7 kt (.tup [v0, v1]) = H8 at k58 P8 a8 ⊢
      have fz : ∀ {G G' : Hp}, Keep pp G G' → Fm (Zu (Zu (Zp pp) D) S) G G' := fun k c o e n => k c o e fun m => n (.inl (.inl m))
      have dx8 := DtAll.fr dx (fz k58)
      have dk8 := DtAll.fr dk (fz k58)
      have e18 := k58 _ _ e1 neD
      have e28 := k58 _ _ e2 neS
      have nikk : NIK (.tuple [a, b]) := ⟨a, b, rfl, na, nb⟩
      have shk : ∀ k ∈ nnD :: rows.map keyD, Shp 1 k := fun k hk => by
        rcases List.mem_cons.mp hk with rfl | hk
        · exact NIK.shp ⟨_, _, rfl, .inl rfl, .inl rfl⟩
        · obtain ⟨r, hr, rfl⟩ := List.mem_map.mp hk
          exact (rl r hr).nik.shp
      have nks : ∀ z ∈ nnD :: rows.map keyD, NIK z := fun k hk => by
        rcases List.mem_cons.mp hk with rfl | hk
        · exact ⟨_, _, rfl, .inl rfl, .inl rfl⟩
        · obtain ⟨r, hr, rfl⟩ := List.mem_map.mp hk
          exact (rl r hr).nik
      have dkt : Dt (Zu (Zu (Zp pp) D) S) H8 (.ref kt) (.tuple [a, b]) := .tup a8 ktZ (.cons (da _ _) (.cons (db _ _) .nil))
      refine ⟨_, rfl, _, rfl, .tuple [a, b], nnD :: rows.map keyD, dkt.dp, .lst (SqL.of e28) dk8.dp', nikk.shp.ok, (shp_list shk).ok, _, rfl, ?_⟩
      by_cases c : keyIn (.tuple [a, b]) (nnD :: rows.map keyD) = true
      · refine iteN (by unfold keyIn at c; rw [c]; decide) ?_
        exact ⟨k5.trans k58, P8, ⟨xs, rows, ks, e18, dx8, e28, dk8, rl, nd, Nat.le_succ_of_le lr⟩, _, _, rfl⟩
      · have c := Bool.eq_false_iff.mpr c
        refine iteP (by unfold keyIn at c; rw [c]; rfl) ?_
        have lks : ks.length = rows.length + 1 := by rw [dk8.len]; simp
        refine ⟨_, rfl, .inl ⟨rfl, _, SqL.of e28⟩, _, rfl, S, _, _, rfl, rfl, e28, by rw [lks]; exact Nat.lt_of_le_of_lt (Nat.succ_le_succ lr) (Nat.lt_of_lt_of_le (by omega : i + 1 < 6) (by decide)), ?_⟩
        have f9 : Fm (Zu (Zu (Zp pp) D) S) H8 (upd H8 S (.lst (ks ++ [.ref kt]))) := fun c o e n => by rw [upd_ne (fun m => n (.inr m))]; exact e
        have e29 : (upd H8 S (.lst (ks ++ [.ref kt]))) S = some (.lst (ks ++ [.ref kt])) := upd_same
        have P9 := P8.upd (p := S) (o := .lst (ks ++ [.ref kt])) neS
        have k59 : ∀ c o, H5 c = some o → c ≠ pp → c ≠ S → (upd H8 S (.lst (ks ++ [.ref kt]))) c = some o := fun c o e n1 n2 => by rw [upd_ne n2]; exact k58 c o e n1
        have kH9 : Keep pp H (upd H8 S (.lst (ks ++ [.ref kt]))) := (k5.trans k58).off hS
        show tSeq _ _ _ _ (upd H8 S (.lst (ks ++ [.ref kt])))
        generalize upd H8 S (.lst (ks ++ [.ref kt])) = H9 at f9 e29 P9 k59 kH9 ⊢
        have dx9 := DtAll.fr dx8 f9
        have dk9 := DtAll.fr dk8 f9
        have dkt9 := dkt.fr f9
        have e19 := k59 _ _ e1 neD neDS
        refine ⟨_, rfl, .inl ⟨rfl, _, SqL.of e19⟩, _, rfl, _, rfl, _, rfl, pp, many, 2, rfl, m3, by decide, by decide, P9, fun u us uss H10 P10 k10 hu hus lu hb => ?_⟩
        refine ⟨_, rfl, _, rfl, pp, l, zs, rfl, P10, (kH9.trans k10) _ _ hl nl, nl, n0, n1, fun v H11 hv P11 k11 => ?_⟩
        refine ⟨by show 2 ≤ sizeLine; decide, fun t2 nt2 => ?_⟩
        obtain ⟨td, ht, dt⟩ := then_dt hv
        have k911 := k10.trans k11
        have s12 : Same H11 (upd H11 t2 (.tup [.ref u, v])) := Same.new nt2
        have a12 : (upd H11 t2 (.tup [.ref u, v])) t2 = some (.tup [.ref u, v]) := upd_same
        have P12 := P11.same s12
        generalize upd H11 t2 (.tup [.ref u, v]) = H12 at s12 a12 P12 ⊢
        have k912 := k911.trans (Same.keep s12)
        have upp : u ≠ pp := P10.nep hu
        have ktk : H12 kt = some (.tup [v0, v1]) := by
          cases dkt9 with
          | tup e _ d =>
            have e8 := f9 _ _ a8 ktZ
            exact k912 _ _ e8 ktp
        refine ⟨kt, t2, [v0, v1], [.ref u, v], rfl, rfl, SqT.of ktk, SqT.of a12, by simp, by show 4 ≤ sizeLine; decide, (fun h => by cases h), fun _ p hp => ?_⟩
        have s13 : Same H12 (upd H12 p (.tup ([v0, v1] ++ [.ref u, v]))) := Same.new hp
        have a13 : (upd H12 p (.tup ([v0, v1] ++ [.ref u, v]))) p = some (.tup [v0, v1, .ref u, v]) := upd_same
        have P13 := P12.same s13
        generalize upd H12 p (.tup ([v0, v1] ++ [.ref u, v])) = H13 at s13 a13 P13 ⊢
        have k913 := k912.trans (Same.keep s13)
        have e113 := k913 _ _ e19 neD
        have e213 := k913 _ _ e29 neS
        have pD : p ≠ D := fun m => by rw [m, k912 _ _ e19 neD] at hp; cases hp
        have pS : p ≠ S := fun m => by rw [m, k912 _ _ e29 neS] at hp; cases hp
        have ppp : p ≠ pp := P12.ne hp
        have lxs : xs.length = rows.length := dx9.len
        refine ⟨D, _, _, rfl, rfl, e113, by rw [lxs]; exact Nat.lt_of_le_of_lt lr (Nat.lt_of_lt_of_le (by omega : i < 6) (by decide)), ?_⟩
        have f14 : Fm (Zu (Zu (Zp pp) D) S) H13 (upd H13 D (.lst (xs ++ [.ref p]))) := fun c o e n => by rw [upd_ne (fun m => n (.inl (.inr m)))]; exact e
        have zz : ∀ {q : Addr}, q ≠ pp → q ≠ D → q ≠ S → ¬ Zu (Zu (Zp pp) D) S q := fun n1 n2 n3 m => by
          rcases m with (m | m) | m
          · exact n1 m
          · exact n2 m
          · exact n3 m
        have hu13 : H13 u = some (.tup (us.map V.ref)) := s13 _ _ (s12 _ _ (k11 _ _ hu upp))
        have tupNe : ∀ {q : Addr} {ys : List V} {zs : List V} {r : Addr}, H13 q = some (.tup ys) → H13 r = some (.lst zs) → q ≠ r := fun g1 g2 m => by rw [m, g2] at g1; cases g1
        have du : Dt (Zu (Zu (Zp pp) D) S) H13 (.ref u) (updsD uss) := by
          refine .tup hu13 (zz upp (tupNe hu13 e113) (tupNe hu13 e213)) ?_
          have hus13 := (hus.keep k11 P10).keep ((Same.keep s12).trans (Same.keep s13)) P11
          refine DtAll.of_get (by rw [List.length_map, List.length_map, hus.1]) fun j v' d' g1 g2 => ?_
          rw [List.getElem?_map] at g1 g2
          obtain ⟨u', g3, rfl⟩ := Option.map_eq_some_iff.mp g1
          obtain ⟨fs, g4, rfl⟩ := Option.map_eq_some_iff.mp g2
          have t' := hus13.2 j u' fs g3 g4
          exact .tup t' (zz (P13.nep t') (tupNe t' e113) (tupNe t' e213)) (DtAll.ints fs)
        have drow : Dt (Zu (Zu (Zp pp) D) S) H13 (.ref p) (.tuple [a, b, updsD uss, td]) := .tup a13 (zz ppp pD pS) (.cons (da _ _) (.cons (db _ _) (.cons du (.cons (dt _ _) .nil))))
        have rlN : RowL size many zs (.tuple [a, b, updsD uss, td]) := ⟨a, b, uss, td, rfl, na, nb, oa, ob, ht, lu, fun fs hf => ⟨(hb fs hf).1, fun x hx => by have := (hb fs hf).2 x hx; omega⟩⟩
        have newk : PyData.tuple [a, b] ∉ nnD :: rows.map keyD := fun m => by
          have := List.any_eq_false.mp c _ m
          exact this (PySem.SeqAt.eqv_refl _ nikk.shp.1)
        refine ⟨((kH9.trans k913).off hD), P13.upd neD, ⟨xs ++ [.ref p], rows ++ [.tuple [a, b, updsD uss, td]], ks ++ [.ref kt], upd_same, DtAll.append (DtAll.fr (DtAll.fr dx9 (fz k913)) f14) (.cons (drow.fr f14) .nil), ?_, ?_, ?_, ?_, ?_⟩, _, _, rfl⟩
        · rw [upd_ne (Ne.symm neDS)]
          exact e213
        · rw [List.map_append]
          exact DtAll.append (DtAll.fr (DtAll.fr dk9 (fz k913)) f14) (.cons ((dkt9.fr (fz k913)).fr f14) .nil)
        · intro r hr
          rcases List.mem_append.mp hr with hr | hr
          · exact rl r hr
          · rw [List.mem_singleton.mp hr]
            exact rlN
        · rw [List.map_append, ← List.cons_append]
          exact List.nodup_append.mpr ⟨nd, by simp, fun x hx y hy => by
            rw [List.mem_singleton.mp hy]
            exact fun m => newk (by rw [← show keyD (.tuple [a, b, updsD uss, td]) = .tuple [a, b] from rfl, ← m]; exact hx)⟩
        · rw [List.length_append]
          exact Nat.succ_le_succ lr
    · rintro σ H5 ⟨k5, P5, ⟨xs, rows, ks, e1, dx, e2, dk, rl, nd, lr⟩, v6, v7, rfl⟩
      refine ⟨_, rfl, .inl ⟨rfl, _, SqL.of e1⟩, _, rfl, _, rfl, pp, many, 2, rfl, m3, by decide, by decide, P5, fun u us uss H6 P6 k6 hu hus lu hb => ?_⟩
      have hl6 := (k5.trans k6) _ _ hl nl
      refine ⟨_, rfl, _, rfl, pp, l, zs.map V.str, rfl, SqL.of hl6, nl, by rw [List.length_map]; exact n0, by rw [List.length_map]; omega, P6, fun v H7 hv P7 k7 => ?_⟩
      obtain ⟨z, hz, rfl⟩ := List.mem_map.mp hv
      refine ⟨by show 4 ≤ sizeLine; decide, fun p hp => ?_⟩
      have s8 : Same H7 (upd H7 p (.tup [.non, .non, .ref u, .str z])) := Same.new hp
      have a8 : (upd H7 p (.tup [.non, .non, .ref u, .str z])) p = some (.tup [.non, .non, .ref u, .str z]) := upd_same
      have P8 := P7.same s8
      generalize upd H7 p (.tup [.non, .non, .ref u, .str z]) = H8 at s8 a8 P8 ⊢
      have k58 := (k6.trans k7).trans (Same.keep s8)
      have e18 := k58 _ _ e1 neD
      have lxs : xs.length = rows.length := dx.len
      have l4 : rows.length ≤ 3 := by omega
      refine ⟨D, _, _, rfl, rfl, e18, by rw [lxs]; exact Nat.lt_of_le_of_lt l4 (by decide), ?_⟩
      have tupNe : ∀ {q : Addr} {ys : List V} {zs : List V} {r : Addr}, H8 q = some (.tup ys) → H8 r = some (.lst zs) → q ≠ r := fun g1 g2 m => by rw [m, g2] at g1; cases g1
      have upp : u ≠ pp := P6.nep hu
      have hu8 : H8 u = some (.tup (us.map V.ref)) := s8 _ _ (k7 _ _ hu upp)
      have hus8 := (hus.keep k7 P6).keep (Same.keep s8) P7
      have du : Dt (Zu (Zp pp) D) H8 (.ref u) (updsD uss) := by
        refine .tup hu8 (fun m => m.elim upp (tupNe hu8 e18)) ?_
        refine DtAll.of_get (by rw [List.length_map, List.length_map, hus.1]) fun j v' d' g1 g2 => ?_
        rw [List.getElem?_map] at g1 g2
        obtain ⟨u', g3, rfl⟩ := Option.map_eq_some_iff.mp g1
        obtain ⟨fs, g4, rfl⟩ := Option.map_eq_some_iff.mp g2
        have t' := hus8.2 j u' fs g3 g4
        exact .tup t' (fun m => m.elim (P8.nep t') (tupNe t' e18)) (DtAll.ints fs)
      have drow : Dt (Zu (Zp pp) D) H8 (.ref p) (.tuple [.none, .none, updsD uss, .str z]) := .tup a8 (fun m => m.elim (P8.nep a8) (tupNe a8 e18)) (.cons .non (.cons .non (.cons du (.cons (.str z) .nil))))
      have rlN : RowL size many zs (.tuple [.none, .none, updsD uss, .str z]) := ⟨.none, .none, uss, .str z, rfl, .inl rfl, .inl rfl, rfl, rfl, .inr ⟨z, rfl, hz⟩, lu, fun fs hf => ⟨(hb fs hf).1, fun x hx => by have := (hb fs hf).2 x hx; omega⟩⟩
      have f9 : Fm (Zu (Zp pp) D) H8 (upd H8 D (.lst (xs ++ [.ref p]))) := Fm.at_zu
      have fz : Fm (Zu (Zp pp) D) H5 H8 := fun c o e n => k58 c o e fun m => n (.inl m)
      have dxs : DtAll (Zu (Zp pp) D) H5 xs rows := dx.mono' fun _ m => .inl m
      refine ⟨_, rfl, q D (rows ++ [.tuple [.none, .none, updsD uss, .str z]]) _ hD (P8.upd neD) ((k5.trans k58).off hD) (.lst upd_same neD ((DtAll.append ((dxs.fr fz).fr f9) (.cons (drow.fr f9) .nil)).mono' fun _ m => .inl m)) ?_ ?_ (rows_wrong rl rlN rfl nd)⟩
      · intro r hr
        rcases List.mem_append.mp hr with hr | hr
        · exact rl r hr
        · rw [List.mem_singleton.mp hr]
          exact rlN
      · rw [List.length_append]
        show rows.length + 1 ≤ 4
        omega
end
/-! ### what the law draws: parts; the mathematics -/
section
variable {J : It} {n : Nat} {G : Hp → Prop} {Y : Nat → Hp → V → Hp → Prop}
theorem dts_some {Z : Addr → Prop} {H : Hp} {Gd : Nat → PyData → Prop} : ∀ {xs : List V} {k : Nat}, (∀ j y, xs[j]? = some y → ∃ d, Dt Z H y d ∧ Gd (k + j) d) → ∃ ds, DtAll Z H xs ds ∧ ds.length = xs.length ∧ ∀ i d, ds[i]? = some d → Gd (k + i) d
  | [], k, _ => ⟨[], .nil, rfl, fun i d e => by simp at e⟩
  | x :: xs, k, h => by
    obtain ⟨d, d1, d2⟩ := h 0 x rfl
    obtain ⟨ds, a, b, c⟩ := dts_some (Gd := Gd) (xs := xs) (k := k + 1) fun j y e => by
      have := h (j + 1) y (by simpa using e)
      rw [show k + (j + 1) = k + 1 + j by omega] at this
      exact this
    refine ⟨d :: ds, .cons d1 a, by simp [b], fun i e ei => ?_⟩
    cases i with
    | zero => cases ei; exact d2
    | succ i =>
      rw [show k + (i + 1) = k + 1 + i by omega]
      exact c i e (by simpa using ei)
/-- a comprehension whose elements are data, drawn on the way -/
theorem lc_draw (w : Walk J n G Y) {g : TG} {te : TE} {vs : List Nat} {σ : St} {H1 : Hp} {D : Addr} {Qd : Hp → Prop} (Z : Addr → Prop) (I : Hp → Prop) (Gd : Nat → PyData → Prop)
    (hD : H1 D = none) (zD : ¬ Z D) (i0 : I H1) (iS : ∀ H l, I H → ¬ Z D → I (upd H D (.lst l))) (few : n < sizeLine)
    (hG : ∀ H, Fm Z H1 H → G H)
    (hs : ∀ i x H H' (Qk : V → Hp → Prop), i < n → Fm Z H1 H → I H → (∀ p, H p = none → p ≠ D) → Y i H x H' → (∀ y d H4, Fm Z H H4 → I H4 → Dt (Zu Z D) H4 y d → Gd i d → Qk y H4) → g x (wipe σ vs) H' fun σ2 H2 => wipe σ2 vs = wipe σ vs ∧ te σ2 H2 Qk)
    (hd : ∀ H xs ds, Fm Z H1 H → I H → H D = some (.lst xs) → DtAll (Zu Z D) H xs ds → ds.length = n → (∀ i d, ds[i]? = some d → Gd i d) → Qd H) :
    ∃ W : Nat → Nat → Hp → Prop, (∃ m, W 0 m (upd H1 D (.lst []))) ∧ ∀ i m H, W i m H →
      (J.stop i H ∧ Qd H) ∨ (J.go i H ∧ ∃ Nx : Hp → Prop, (∀ H', Nx H' → ∃ m', m' < m ∧ W (i + 1) m' H') ∧ ∀ x H', J.yld i H x H' → g x (wipe σ vs) H' fun σ2 H2 => wipe σ2 vs = wipe σ vs ∧ tYes σ2 H2 fun b H3 =>
        if b = true then te σ2 H3 fun y H4 => ∃ acc, H4 D = some (.lst acc) ∧ acc.length < sizeLine ∧ Nx (upd H4 D (.lst (acc ++ [y]))) else Nx H3) := by
  refine lc_acc w Z I (fun i y H => ∃ d, Dt (Zu Z D) H y d ∧ Gd i d) hD zD i0 iS (fun i y H H' _ r f => ?_) few hG ?_ ?_
  · obtain ⟨d, a, b⟩ := r
    exact ⟨d, a.fr f, b⟩
  · intro i x H H' Qk hi f iH ne y q
    exact hs i x H H' Qk hi f iH ne y fun y d H4 f4 i4 dy gd => q y H4 f4 i4 ⟨d, dy, gd⟩
  · intro H xs f iH hx hl hr
    obtain ⟨ds, a, b, c⟩ := dts_some (Gd := Gd) (k := 0) fun j y e => by
      rw [Nat.zero_add]
      exact hr j y e
    exact hd H xs ds f iH hx a (b.trans hl) fun i d e => by
      have := c i d e
      rw [Nat.zero_add] at this
      exact this
theorem wrongAt_fine {part : PyData → Bool} : ∀ {ds : List PyData} {ns : List Str} {i : Nat}, (∀ d ∈ ds, part d = true) → (ns ++ ds.map nmOf).Nodup → wrongAt part ds ns i = none
  | [], _, _, _, _ => rfl
  | d :: ds, ns, i, h, n => by
    rw [wrongAt]
    have c : inV (.str (nmOf d)) (ns.map V.str) = false := by
      refine Bool.eq_false_iff.mpr fun m => ?_
      have := inV_mem m
      rw [List.map_cons] at n
      exact (List.nodup_append.mp n).2.2 _ this _ List.mem_cons_self rfl
    rw [h d List.mem_cons_self, c]
    exact wrongAt_fine (fun x hx => h x (List.mem_cons_of_mem _ hx)) (by simpa using n)
theorem rowsErr_fine {size : Int} {many : Nat} {zs : List Str} : ∀ {ds : List PyData}, (∀ d ∈ ds, wrongRow size many zs (itemsD (itD d 2)) [] 0 = none) → rowsErr size many zs ds = none
  | [], _ => rfl
  | x :: xs, h => by
    rw [rowsErr, h x List.mem_cons_self]
    exact rowsErr_fine fun d hd => h d (List.mem_cons_of_mem _ hd)
def regNames : List Str := ["s", "p", "rr"]
def modeNames : List Str := ["m", "k", "zz"]
def IsReg (i : Nat) (d : PyData) : Prop := ∃ s c, regNames[i]? = some s ∧ d = .tuple [.str s, .int c] ∧ -2 ≤ c ∧ c ≤ 2
def IsMode (size : Int) (many : Nat) (zs : List Str) (i : Nat) (d : PyData) : Prop := ∃ z r rows, zs[i]? = some z ∧ d = .tuple [.str z, .str r, .list rows] ∧ r ∈ five ∧ (∀ x ∈ rows, RowL size many zs x) ∧ rows.length ≤ 4 ∧ wrongRow size many zs rows [] 0 = none
def IsSm (_ : Nat) (d : PyData) : Prop := ∃ c : Int, d = .int c ∧ -2 ≤ c ∧ c ≤ 2
/-- parts as they are drawn -/
structure Drawn (size b : Int) (many : Nat) (zs : List Str) (regs modes ends goal : List PyData) : Prop where
  s0 : 2 ≤ size
  s1 : size ≤ 10
  b : b = size ∨ b = -size
  m0 : 1 ≤ many
  m1 : many ≤ 3
  z0 : 1 ≤ zs.length
  z : ∃ k, zs = modeNames.take k
  lr : regs.length = many
  regs : ∀ i d, regs[i]? = some d → IsReg i d
  lm : modes.length = zs.length
  modes : ∀ i d, modes[i]? = some d → IsMode size many zs i d
  ends : ∃ es : List Int, ends = es.map PyData.int ∧ es.Pairwise (· < ·) ∧ ∀ e ∈ es, 1 - size ≤ e ∧ e ≤ size - 1
  lg : goal.length = many + 1
  goal : ∀ i d, goal[i]? = some d → IsSm i d
theorem Drawn.names {size b : Int} {many : Nat} {zs : List Str} {regs modes ends goal : List PyData} (h : Drawn size b many zs regs modes ends goal) : modes.map nmOf = zs := by
  refine List.ext_getElem? fun i => ?_
  rw [List.getElem?_map]
  cases e : modes[i]? with
  | none =>
    rw [List.getElem?_eq_none_iff, h.lm] at e
    rw [List.getElem?_eq_none_iff.mpr e]
    rfl
  | some d =>
    obtain ⟨z, r, rows, ez, rfl, _⟩ := h.modes i d e
    rw [ez]
    rfl
theorem Drawn.nodup {size b : Int} {many : Nat} {zs : List Str} {regs modes ends goal : List PyData} (h : Drawn size b many zs regs modes ends goal) : zs.Nodup := by
  obtain ⟨k, rfl⟩ := h.z
  exact (show modeNames.Nodup by decide +kernel).sublist (List.take_sublist _ _)
theorem incAt_of {es : List Int} (h : es.Pairwise (· < ·)) : incAt (es.map PyData.int) 0 = true := by
  unfold incAt
  refine List.all_eq_true.mpr fun j hj => ?_
  have hj := List.mem_range.mp hj
  rw [List.length_map] at hj
  rw [Nat.zero_add, List.getD_eq_getElem?_getD, List.getElem?_map, List.getD_eq_getElem?_getD, List.getElem?_map, List.getElem?_eq_getElem (by omega : j < es.length), List.getElem?_eq_getElem (by omega : j + 1 < es.length)]
  exact decide_eq_true (List.pairwise_iff_getElem.mp h j (j + 1) (by omega) (by omega) (by omega))
theorem RowL.sz {size : Int} {many : Nat} {zs : List Str} {r : PyData} (h : RowL size many zs r) (m : many ≤ 3) (lz : ∀ z ∈ zs, z.length ≤ 1000) : Sz 3 r := by
  obtain ⟨a, b, uss, t, rfl, na, nb, _, _, ht, lu, hb⟩ := h
  have ni : ∀ {d : PyData} {n : Nat}, NI d → Sz n d := fun {d n} h => by
    rcases h with rfl | ⟨i, rfl⟩ <;> cases n <;> first | exact ⟨by show 0 ≤ 1000; decide, fun s e => by cases e⟩ | exact ⟨by show 0 ≤ 1000; decide, fun s e => (by cases e), fun x hx => by cases hx⟩
  refine ⟨by show 4 ≤ 1000; decide, fun s e => (by cases e), fun x hx => ?_⟩
  have hx : x = a ∨ x = b ∨ x = updsD uss ∨ x = t := by simpa [itemsD] using hx
  rcases hx with rfl | rfl | rfl | rfl
  · exact ni na
  · exact ni nb
  · refine ⟨by show (uss.map _).length ≤ 1000; rw [List.length_map, lu]; omega, fun s e => (by cases e), fun y hy => ?_⟩
    obtain ⟨fs, hf, rfl⟩ := List.mem_map.mp hy
    obtain ⟨l2, _⟩ := hb fs hf
    refine ⟨by show (fs.map _).length ≤ 1000; rw [List.length_map, l2]; omega, fun s e => (by cases e), fun w hw => ?_⟩
    obtain ⟨i, _, rfl⟩ := List.mem_map.mp hw
    exact ni (.inr ⟨i, rfl⟩)
  · rcases ht with rfl | ⟨z, rfl, hz⟩
    · exact ni (.inl rfl)
    · exact ⟨by show 0 ≤ 1000; decide, fun s e => by injection e with e; rw [← e]; exact lz z hz, fun x hx => by cases hx⟩
theorem sz_str {s : Str} (h : s.length ≤ 1000) : ∀ n, Sz n (.str s)
  | 0 => ⟨by show 0 ≤ 1000; decide, fun x e => by injection e with e; rw [← e]; exact h⟩
  | _ + 1 => ⟨by show 0 ≤ 1000; decide, fun x e => (by injection e with e; rw [← e]; exact h), fun x hx => by cases hx⟩
theorem sz_int {i : Int} : ∀ n, Sz n (.int i)
  | 0 => ⟨by show 0 ≤ 1000; decide, fun x e => by cases e⟩
  | _ + 1 => ⟨by show 0 ≤ 1000; decide, fun x e => (by cases e), fun x hx => by cases hx⟩
theorem Drawn.lz {size b : Int} {many : Nat} {zs : List Str} {regs modes ends goal : List PyData} (h : Drawn size b many zs regs modes ends goal) : ∀ z ∈ zs, z.length ≤ 1000 := fun z hz => by
  obtain ⟨k, rfl⟩ := h.z
  have := List.mem_of_mem_take hz
  simp only [modeNames, List.mem_cons, List.not_mem_nil, or_false] at this
  rcases this with rfl | rfl | rfl <;> decide +kernel
theorem five_len {r : Str} (h : r ∈ five) : r.length ≤ 1000 := by
  simp only [five, List.mem_cons, List.not_mem_nil, or_false] at h
  rcases h with rfl | rfl | rfl | rfl | rfl <;> decide +kernel
theorem five_rule {r : Str} (h : r ∈ five) : ruleD (.str r) = true := by
  simp only [five, List.mem_cons, List.not_mem_nil, or_false] at h
  rcases h with rfl | rfl | rfl | rfl | rfl <;> decide +kernel
theorem mem_ix {α : Type} {xs : List α} {x : α} (h : x ∈ xs) : ∃ i : Nat, xs[i]? = some x := List.mem_iff_getElem?.mp h
theorem Drawn.ok {size b : Int} {many : Nat} {zs : List Str} {regs modes ends goal : List PyData} (h : Drawn size b many zs regs modes ends goal) : PartsOk (.int b) (.list regs) (.list modes) (.list ends) (.tuple goal) := by
  have s0 := h.s0
  have s1 := h.s1
  have m1 := h.m1
  have eb : sizeD (.int b) = size := by
    show (if b < 0 then -b else b) = size
    rcases h.b with rfl | rfl
    · rw [if_neg (by omega)]
    · rw [if_pos (by omega)]
      omega
  refine ⟨?_, ?_, ?_, ?_, ?_, ?_⟩
  · show (betw (.int b) (-10) 10 && decide (2 ≤ b.natAbs)) = true
    rw [Bool.and_eq_true]
    refine ⟨?_, decide_eq_true (by rcases h.b with e | e <;> omega)⟩
    show (decide (-10 ≤ b) && decide (b ≤ 10)) = true
    rw [Bool.and_eq_true]
    exact ⟨decide_eq_true (by rcases h.b with e | e <;> omega), decide_eq_true (by rcases h.b with e | e <;> omega)⟩
  · unfold partsD
    rw [Bool.and_eq_true]
    constructor
    · show (true && (decide ((1 : Int) ≤ (regs.length : Int)) && decide ((regs.length : Int) ≤ 3))) = true
      rw [h.lr]
      simp only [Bool.true_and, Bool.and_eq_true, decide_eq_true_eq]
      have := h.m0
      omega
    · show (wrongAt regD regs [] 0).isNone = true
      refine Option.isNone_iff_eq_none.mpr (wrongAt_fine (fun d hd => ?_) ?_)
      · obtain ⟨i, ei⟩ := mem_ix hd
        obtain ⟨s, c, es, rfl, c0, c1⟩ := h.regs i d ei
        have hs : nameD (.str s) = true := by
          have := List.mem_of_getElem? es
          simp only [regNames, List.mem_cons, List.not_mem_nil, or_false] at this
          rcases this with rfl | rfl | rfl <;> decide +kernel
        have e : regD (.tuple [.str s, .int c]) = (true && (true && (nameD (.str s) && (true && (true && ((decide (-1000000 ≤ c) && decide (c ≤ 1000000)) && true)))))) := rfl
        rw [e, hs, decide_eq_true (by omega : -1000000 ≤ c), decide_eq_true (by omega : c ≤ 1000000)]
        rfl
      · rw [List.nil_append]
        have : regs.map nmOf = regNames.take many := by
          refine List.ext_getElem? fun i => ?_
          rw [List.getElem?_map]
          cases e : regs[i]? with
          | none =>
            rw [List.getElem?_eq_none_iff, h.lr] at e
            rw [List.getElem?_eq_none_iff.mpr (by rw [List.length_take]; omega)]
            rfl
          | some d =>
            obtain ⟨s, c, es, rfl, _⟩ := h.regs i d e
            have := (List.getElem?_eq_some_iff.mp e).1
            rw [List.getElem?_take, if_pos (by rw [← h.lr]; exact this), es]
            rfl
        rw [this]
        exact (show regNames.Nodup by decide +kernel).sublist (List.take_sublist _ _)
  · unfold partsD
    rw [Bool.and_eq_true]
    constructor
    · show (true && (decide ((1 : Int) ≤ (modes.length : Int)) && decide ((modes.length : Int) ≤ 4))) = true
      rw [h.lm]
      simp only [Bool.true_and, Bool.and_eq_true, decide_eq_true_eq]
      have z0 := h.z0
      obtain ⟨k, e⟩ := h.z
      have : zs.length ≤ 3 := by
        rw [e, List.length_take]
        exact Nat.min_le_right _ _
      omega
    · show (wrongAt modeD modes [] 0).isNone = true
      refine Option.isNone_iff_eq_none.mpr (wrongAt_fine (fun d hd => ?_) ?_)
      · obtain ⟨i, ei⟩ := mem_ix hd
        obtain ⟨z, r, rows, ez, rfl, hr, _⟩ := h.modes i d ei
        have hs : nameD (.str z) = true := by
          obtain ⟨k, e⟩ := h.z
          have := List.mem_of_getElem? ez
          rw [e] at this
          have := List.mem_of_mem_take this
          simp only [modeNames, List.mem_cons, List.not_mem_nil, or_false] at this
          rcases this with rfl | rfl | rfl <;> decide +kernel
        have e : modeD (.tuple [.str z, .str r, .list rows]) = (true && (true && (nameD (.str z) && (ruleD (.str r) && true)))) := rfl
        rw [e, hs, five_rule hr]
        rfl
      · rw [List.nil_append, h.names]
        exact h.nodup
  · rw [eb, show itemsD (.list modes) = modes from rfl, show itemsD (.list regs) = regs from rfl, h.names, h.lr]
    refine rowsErr_fine fun d hd => ?_
    obtain ⟨i, ei⟩ := mem_ix hd
    obtain ⟨z, r, rows, ez, rfl, hr, _, _, hw⟩ := h.modes i d ei
    exact hw
  · obtain ⟨es, rfl, pw, be⟩ := h.ends
    rw [eb]
    show (true && ((es.map PyData.int).all (fun x => remD x size) && incAt (es.map PyData.int) 0)) = true
    rw [incAt_of pw, Bool.and_true, Bool.true_and]
    refine List.all_eq_true.mpr fun x hx => ?_
    obtain ⟨e, he, rfl⟩ := List.mem_map.mp hx
    obtain ⟨b1, b2⟩ := be e he
    show (decide (1 - size ≤ e) && decide (e ≤ size - 1)) = true
    rw [decide_eq_true b1, decide_eq_true b2]
    rfl
  · show (true && (decide ((goal.length : Int) = ((regs.length + 1 : Nat) : Int)) && goal.all fun x => betw x (-1000000) 1000000)) = true
    rw [h.lg, h.lr, Bool.true_and, decide_eq_true rfl, Bool.true_and]
    refine List.all_eq_true.mpr fun x hx => ?_
    obtain ⟨i, ei⟩ := mem_ix hx
    obtain ⟨c, rfl, c0, c1⟩ := h.goal i x ei
    show (decide (-1000000 ≤ c) && decide (c ≤ 1000000)) = true
    rw [decide_eq_true (by omega : -1000000 ≤ c), decide_eq_true (by omega : c ≤ 1000000)]
    rfl
theorem Drawn.sz1 {size b : Int} {many : Nat} {zs : List Str} {regs modes ends goal : List PyData} (h : Drawn size b many zs regs modes ends goal) : Sz 2 (.list regs) := by
  have m1 := h.m1
  refine ⟨by show regs.length ≤ 1000; rw [h.lr]; omega, fun s e => (by cases e), fun x hx => ?_⟩
  obtain ⟨i, ei⟩ := mem_ix hx
  obtain ⟨s, c, es, rfl, _⟩ := h.regs i x ei
  refine ⟨by show 2 ≤ 1000; decide, fun s e => (by cases e), fun y hy => ?_⟩
  have hy : y = .str s ∨ y = .int c := by simpa [itemsD] using hy
  rcases hy with rfl | rfl
  · have := List.mem_of_getElem? es
    simp only [regNames, List.mem_cons, List.not_mem_nil, or_false] at this
    exact sz_str (by rcases this with rfl | rfl | rfl <;> decide +kernel) _
  · exact sz_int _
theorem Drawn.sz2 {size b : Int} {many : Nat} {zs : List Str} {regs modes ends goal : List PyData} (h : Drawn size b many zs regs modes ends goal) : Sz 5 (.list modes) := by
  obtain ⟨k, ek⟩ := h.z
  have lz : zs.length ≤ 3 := by
    rw [ek, List.length_take]
    exact Nat.min_le_right _ _
  refine ⟨by show modes.length ≤ 1000; rw [h.lm]; omega, fun s e => (by cases e), fun x hx => ?_⟩
  obtain ⟨i, ei⟩ := mem_ix hx
  obtain ⟨z, r, rows, ez, rfl, hr, rl, l4, _⟩ := h.modes i x ei
  refine ⟨by show 3 ≤ 1000; decide, fun s e => (by cases e), fun y hy => ?_⟩
  have hy : y = .str z ∨ y = .str r ∨ y = .list rows := by simpa [itemsD] using hy
  rcases hy with rfl | rfl | rfl
  · exact sz_str (h.lz z (List.mem_of_getElem? ez)) _
  · exact sz_str (five_len hr) _
  · exact ⟨by show rows.length ≤ 1000; omega, fun s e => (by cases e), fun w hw => ((rl w hw).sz h.m1 h.lz).less⟩
theorem Drawn.few {size b : Int} {many : Nat} {zs : List Str} {regs modes ends goal : List PyData} (h : Drawn size b many zs regs modes ends goal) : ends.length ≤ 1000 ∧ goal.length ≤ 1000 := h.ok.few
end
/-! ### data without lists stays where lists change -/
section
mutual
def noL : PyData → Bool
  | .list _ => false
  | .tuple ds => noLs ds
  | _ => true
def noLs : List PyData → Bool
  | [] => true
  | d :: ds => noL d && noLs ds
end
theorem noLs_all : ∀ {ds : List PyData}, (∀ d ∈ ds, noL d = true) → noLs ds = true
  | [], _ => by simp [noLs]
  | d :: ds, h => by
    unfold noLs
    rw [h d List.mem_cons_self, noLs_all fun x hx => h x (List.mem_cons_of_mem _ hx)]
    rfl
theorem noLs_mem : ∀ {ds : List PyData}, noLs ds = true → ∀ d ∈ ds, noL d = true
  | [], _, _, h => by cases h
  | d :: ds, e, x, h => by
    unfold noLs at e
    obtain ⟨a, b⟩ := Bool.and_eq_true_iff.mp e
    rcases List.mem_cons.mp h with rfl | h
    · exact a
    · exact noLs_mem b x h
mutual
theorem Dt.offL {Z Z' : Addr → Prop} {H : Hp} (n : ∀ q, Z' q → ∃ xs, H q = some (.lst xs)) {v : V} {d : PyData} (l : noL d = true) (h : Dt Z H v d) : Dt Z' H v d :=
  match h with
  | .non => .non
  | .bl b => .bl b
  | .int i => .int i
  | .str x => .str x
  | .lst e m t => by simp [noL] at l
  | .tup e m t => .tup e (fun z => by
      obtain ⟨xs, g⟩ := n _ z
      rw [e] at g
      cases g) (DtAll.offL n (by simpa [noL] using l) t)
theorem DtAll.offL {Z Z' : Addr → Prop} {H : Hp} (n : ∀ q, Z' q → ∃ xs, H q = some (.lst xs)) {vs : List V} {ds : List PyData} (l : noLs ds = true) (h : DtAll Z H vs ds) : DtAll Z' H vs ds :=
  match h with
  | .nil => .nil
  | .cons a b => by
    have l' := l
    unfold noLs at l'
    obtain ⟨l1, l2⟩ := Bool.and_eq_true_iff.mp l'
    exact .cons (Dt.offL n l1 a) (DtAll.offL n l2 b)
end
theorem NI.noL {d : PyData} (h : NI d) : W1.noL d = true := by
  rcases h with rfl | ⟨i, rfl⟩ <;> simp [W1.noL]
theorem RowL.noL {size : Int} {many : Nat} {zs : List Str} {r : PyData} (h : RowL size many zs r) : W1.noL r = true := by
  obtain ⟨a, b, uss, t, rfl, na, nb, _, _, ht, _⟩ := h
  have u : W1.noL (updsD uss) = true := by
    unfold updsD W1.noL
    refine noLs_all fun d hd => ?_
    obtain ⟨fs, _, rfl⟩ := List.mem_map.mp hd
    unfold W1.noL
    refine noLs_all fun e he => ?_
    obtain ⟨i, _, rfl⟩ := List.mem_map.mp he
    simp [W1.noL]
  have tt : W1.noL t = true := by
    rcases ht with rfl | ⟨z, rfl, _⟩ <;> simp [W1.noL]
  unfold W1.noL
  refine noLs_all fun d hd => ?_
  have hd : d = a ∨ d = b ∨ d = updsD uss ∨ d = t := by simpa using hd
  rcases hd with rfl | rfl | rfl | rfl
  · exact na.noL
  · exact nb.noL
  · exact u
  · exact tt
theorem betw_noL {d : PyData} {lo hi : Int} (h : betw d lo hi = true) : W1.noL d = true := by
  cases d <;> first | cases h | simp [W1.noL]
theorem factD_noL {d : PyData} {n : Int} (h : factD d n = true) : W1.noL d = true := by
  unfold factD at h
  simp only [Bool.and_eq_true] at h
  rw [isTup_eq h.1]
  unfold W1.noL
  exact noLs_all fun x hx => betw_noL (List.all_eq_true.mp h.2.2 x hx)
theorem upsD_noL {d : PyData} {n : Nat} (h : upsD d n = true) : W1.noL d = true := by
  unfold upsD at h
  simp only [Bool.and_eq_true] at h
  rw [isTup_eq h.1]
  unfold W1.noL
  exact noLs_all fun x hx => factD_noL (List.all_eq_true.mp h.2.2 x hx)
theorem rowD_noL {d : PyData} {size : Int} {n : Nat} {zs : List Str} (h : rowD d size n zs = true) : W1.noL d = true := by
  obtain ⟨t, l, n0, n1⟩ := rowD_NI h
  unfold rowD at h
  simp only [Bool.and_eq_true] at h
  obtain ⟨_, _, _, h1, h2⟩ := h
  rw [isTup_eq t, items_of l]
  unfold W1.noL
  refine noLs_all fun x hx => ?_
  have hx : x = itD d 0 ∨ x = itD d 1 ∨ x = itD d 2 ∨ x = itD d 3 := by simpa [List.range, List.range.loop] using hx
  rcases hx with rfl | rfl | rfl | rfl
  · exact n0.noL
  · exact n1.noL
  · exact upsD_noL h1
  · revert h2
    cases itD d 3 <;> intro h2 <;> first | (simp [W1.noL]; done) | cases h2
theorem str_noL {s : Str} : W1.noL (.str s) = true := by simp [W1.noL]
theorem nameD_noL {d : PyData} (h : nameD d = true) : W1.noL d = true := by
  cases d <;> first | cases h | simp [W1.noL]
theorem ruleD_noL {d : PyData} (h : ruleD d = true) : W1.noL d = true := by
  cases d <;> first | cases h | simp [W1.noL]
theorem regD_noL {d : PyData} (h : regD d = true) : W1.noL d = true := by
  unfold regD at h
  simp only [Bool.and_eq_true] at h
  obtain ⟨a, b, c, e⟩ := h
  rw [isTup_eq a, items_of (of_decide_eq_true b)]
  unfold W1.noL
  refine noLs_all fun x hx => ?_
  have hx : x = itD d 0 ∨ x = itD d 1 := by simpa [List.range, List.range.loop] using hx
  rcases hx with rfl | rfl
  · exact nameD_noL c
  · have f := e
    unfold factD at f
    simp only [Bool.and_eq_true] at f
    exact betw_noL (List.all_eq_true.mp f.2.2 (itD d 1) List.mem_cons_self)
theorem PartsOk.rowNoL {d0 d1 d2 d3 d4 : PyData} (h : PartsOk d0 d1 d2 d3 d4) {m : PyData} (hm : m ∈ itemsD d2) : noLs (itemsD (itD m 2)) = true := noLs_all fun r hr =>
  rowD_noL ((wrongRow_rows (rowsErr_none h.rows m hm)).1 r hr)
theorem PartsOk.regsNoL {d0 d1 d2 d3 d4 : PyData} (h : PartsOk d0 d1 d2 d3 d4) : noLs (itemsD d1) = true := noLs_all fun x hx => regD_noL ((partsD_all h.regs).2.2 x hx)
theorem PartsOk.endsNoL {d0 d1 d2 d3 d4 : PyData} (h : PartsOk d0 d1 d2 d3 d4) : noLs (itemsD d3) = true := noLs_all fun x hx => by
  have := h.ends
  unfold endsD at this
  simp only [Bool.and_eq_true] at this
  exact betw_noL (List.all_eq_true.mp this.2.1 x hx)
theorem PartsOk.resNoL {d0 d1 d2 d3 d4 : PyData} (h : PartsOk d0 d1 d2 d3 d4) : noL d4 = true := factD_noL h.result
end
section
variable {P : Program} {w : World} {K : PySem.W.Frag} {mg : Str → Option Value} {base : Heap} {aR : Addr}
abbrev s__law_parts : Stmt := top 56
abbrev N__law_parts : List Str := ["_law_pool_here", "_law_sizes", "_law_most", "_law_size", "_law_many", "_law_names", "_law_registers", "_law_at", "_law_rules", "_law_modes", "_law_name", "_law_finals", "_law_x", "_law_goal", "_law_turn"]
theorem sc__law_parts : FnScope N__law_parts ["_law_pool_here", "_law_sizes", "_law_most"] (defScope s__law_parts) := ⟨rfl, rfl, rfl, by decide +kernel, rfl, by decide +kernel, by decide +kernel⟩
def spLParts : Sp := fun vs H Q _ => ∃ (pp sl : Addr) (sizes : List Int) (most : Int), vs = [.ref pp, .ref sl, .int most] ∧ H sl = some (.lst (sizes.map V.int)) ∧ sl ≠ pp ∧ (∀ s ∈ sizes, 2 ≤ s ∧ s ≤ 10) ∧ 0 < sizes.length ∧ sizes.length < 1000 ∧ 1 ≤ most ∧ most ≤ 3 ∧ PoolAt H pp ∧
  ∀ u size b many zs regs modes ends goal H', H u = none → PoolAt H' pp → Keep pp H H' → Drawn size b many zs regs modes ends goal → Dt (Zp pp) H' (.ref u) (.list [.int b, .list regs, .list modes, .list ends, .tuple goal]) → Q (.ref u) H'
theorem Sm.of {i : Int} (a : -1000000 < i) (b : i < 1000000) : Sm i := by
  have h1 : (-(2 : Int) ^ 600) < -1000000 := by decide +kernel
  have h2 : (1000000 : Int) < 2 ^ 600 := by decide +kernel
  exact ⟨by omega, by omega⟩
theorem Zp.new {H : Hp} {pp D : Addr} (P : PoolAt H pp) (n : H D = none) : ¬ Zp pp D := P.ne n
theorem pool_iS {pp D : Addr} : ∀ (H : Hp) (l : List V), PoolAt H pp → ¬ Zp pp D → PoolAt (upd H D (.lst l)) pp := fun H l P n => P.upd n
theorem ok__law_parts (h : Has K mg "_law_parts" s__law_parts ["_law_pool_here", "_law_sizes", "_law_most"]) (T : Txt K mg aR) (O__law_draw : Ok P w K mg base 1 "_law_draw" ["_law_pool_here", "_law_many"] spDraw) (O__law_choose : Ok P w K mg base 2 "_law_choose" ["_law_pool_here", "_law_items"] (spChoose K))
    (O__law_rows : Ok P w K mg base 4 "_law_rows" ["_law_pool_here", "_law_size", "_law_many", "_law_names"] spLRows) : Ok P w K mg base 5 "_law_parts" ["_law_pool_here", "_law_sizes", "_law_most"] spLParts := by
  obtain ⟨f, fd, g, b, F⟩ := h
  refine ⟨f, fd, g, F.kp, b, F.ok sc__law_parts (fun vs H Q E h => ?_) (fun cdv A outer s H vs Q E hr h => ?_)⟩
  · obtain ⟨pp, sl, sizes, most, rfl, _⟩ := h
    rfl
  · obtain ⟨pp, sl, sizes, most, rfl, hsl, nsl, hsz, sp0, sp1, mo0, mo1, hP, q⟩ := h
    refine ⟨_, (pss_cons (ps_set (i := 3) sc__law_parts.nd rfl (.inr rfl) (pe_cO O__law_choose (hr.mono (by decide)) pass0 rfl (pa_cons (pv 0) (pa_cons (pv 1) pa_nil))))
      (pss_cons (ps_set (i := 4) sc__law_parts.nd rfl (.inr rfl) (pe_op op_add pe_int (pe_cO O__law_draw (hr.mono (by decide)) pass0 rfl (pa_cons (pv 0) (pa_cons pe_int pa_nil)))))
      (pss_cons (ps_set (i := 5) sc__law_parts.nd rfl (.inr rfl) (pe_slice sll (pe_lst (pa_cons pe_str (pa_cons pe_str (pa_cons pe_str pa_nil)))) po_none (po_some (pe_op op_add pe_int (pe_cO O__law_draw (hr.mono (by decide)) pass0 rfl (pa_cons (pv 0) (pa_cons (pv 2) pa_nil)))))))
      (pss_cons (ps_setLc (i := 6) (own := [("_law_at", 7)]) (g := (gName 7)) (tt := tYes) rfl sc__law_parts.nd rfl rfl (sw_true rfl rfl rfl (by decide +kernel)) (pi_range1 (by rfl) T.range (pa_cons (pv 4) pa_nil)) (blkOk_by (N := N__law_parts) (sc := defScope s__law_parts) (by decide +kernel)) (fun _ _ _ _ _ => (pg_name (i := 7) sc__law_parts.nd rfl (by first | exact Or.inl rfl | exact Or.inr rfl))) (fun _ _ _ _ _ => pts_nil) (fun _ _ _ _ _ => (pe_tup (pa_cons (pe_ix ixl (pe_lst (pa_cons pe_str (pa_cons pe_str (pa_cons pe_str pa_nil)))) (pv 7) (fun _ _ => rfl)) (pa_cons (pe_op op_sub (pe_cO O__law_draw (hr.mono (by decide)) pass0 rfl (pa_cons (pv 0) (pa_cons pe_int pa_nil))) pe_int) pa_nil)))))
      (pss_cons (ps_set (i := 8) sc__law_parts.nd rfl (.inr rfl) (pe_lst (pa_cons pe_str (pa_cons pe_str (pa_cons pe_str (pa_cons pe_str (pa_cons pe_str pa_nil)))))))
      (pss_cons (ps_setLc (i := 9) (own := [("_law_name", 10)]) (g := (gName 10)) (tt := tYes) rfl sc__law_parts.nd rfl rfl (sw_true rfl rfl rfl (by decide +kernel)) (pi_seq (pv 5)) (blkOk_by (N := N__law_parts) (sc := defScope s__law_parts) (by decide +kernel)) (fun _ _ _ _ _ => (pg_name (i := 10) sc__law_parts.nd rfl (by first | exact Or.inl rfl | exact Or.inr rfl))) (fun _ _ _ _ _ => pts_nil) (fun _ _ _ _ _ => (pe_tup (pa_cons (pv 10) (pa_cons (pe_cO O__law_choose (hr.mono (by decide)) pass0 rfl (pa_cons (pv 0) (pa_cons (pv 8) pa_nil))) (pa_cons (pe_cO O__law_rows (hr.mono (by decide)) pass0 rfl (pa_cons (pv 0) (pa_cons (pv 3) (pa_cons (pv 4) (pa_cons (pv 5) pa_nil))))) pa_nil))))))
      (pss_cons (ps_setLc (i := 11) (own := [("_law_x", 12)]) (g := (gName 12)) (tt := _) rfl sc__law_parts.nd rfl rfl (sw_true rfl rfl rfl (by decide +kernel)) (pi_range2 (by rfl) T.range (pa_cons (pe_op op_sub pe_int (pv 3)) (pa_cons (pv 3) pa_nil))) (blkOk_by (N := N__law_parts) (sc := defScope s__law_parts) (by decide +kernel)) (fun _ _ _ _ _ => (pg_name (i := 12) sc__law_parts.nd rfl (by first | exact Or.inl rfl | exact Or.inr rfl))) (fun _ _ _ _ _ => (pts_one (PW.pt (pw_or (pt_cmpR op_eq (pv 12) pe_int (nomark _)) (pw_or1 (pt_cmpR op_eq (pe_cO O__law_draw (hr.mono (by decide)) pass0 rfl (pa_cons (pv 0) (pa_cons pe_int pa_nil))) pe_int (nomark _))))))) (fun _ _ _ _ _ => (pv 12)))
      (pss_cons (ps_set (i := 13) sc__law_parts.nd rfl (.inl rfl) (pe_callTy tupT (by rfl) T.tuple bb_tuple (pa_cons (pe_lc (own := [("_law_turn", 14)]) (g := (gName 14)) (tt := tYes) rfl sc__law_parts.nd (pi_range1 (by rfl) T.range (pa_cons (pe_op op_add (pv 4) pe_int) pa_nil)) (blkOk_by (N := N__law_parts) (sc := defScope s__law_parts) (by decide +kernel)) (fun _ _ _ _ _ => (pg_name (i := 14) sc__law_parts.nd rfl (by first | exact Or.inl rfl | exact Or.inr rfl))) (fun _ _ _ _ _ => pts_nil) (fun _ _ _ _ _ => (pe_op op_sub (pe_cO O__law_draw (hr.mono (by decide)) pass0 rfl (pa_cons (pv 0) (pa_cons pe_int pa_nil))) pe_int))) pa_nil)))
      (pss_one (ps_ret (pe_lst (pa_cons (pe_cO O__law_choose (hr.mono (by decide)) pass0 rfl (pa_cons (pv 0) (pa_cons (pe_lst (pa_cons (pv 3) (pa_cons (pv 3) (pa_cons (pe_op op_sub pe_int (pv 3)) pa_nil)))) pa_nil))) (pa_cons (pv 6) (pa_cons (pv 9) (pa_cons (pv 11) (pa_cons (pv 13) pa_nil)))))))))))))))), ?_⟩
    -- the size
    refine ⟨_, rfl, _, rfl, pp, sl, sizes.map V.int, rfl, SqL.of hsl, nsl, by rw [List.length_map]; exact sp0, by rw [List.length_map]; omega, hP, fun v H1 hv P1 k1 => ?_⟩
    obtain ⟨size, hs, rfl⟩ := List.mem_map.mp hv
    obtain ⟨z0, z1⟩ := hsz size hs
    -- many
    refine ⟨_, rfl, pp, 3, rfl, by decide, Sm.of (by decide) (by decide), P1, fun d2 H2 d20 d21 P2 k2 => ⟨_, _, rfl, rfl, ?_⟩⟩
    obtain ⟨m, rfl⟩ : ∃ m : Nat, d2 = m := ⟨d2.toNat, by omega⟩
    show tSeq _ _ _ (List.set _ 4 (some (.int (1 + (m : Int))))) H2
    rw [show (1 + (m : Int)) = ((m + 1 : Nat) : Int) by omega]
    have k02 := k1.trans k2
    -- names
    refine ⟨by show 3 ≤ sizeLine; decide, fun l3 hl3 => ?_⟩
    have s3 : Same H2 (upd H2 l3 (.lst [.str "m", .str "k", .str "zz"])) := Same.new hl3
    have a3 : (upd H2 l3 (.lst [.str "m", .str "k", .str "zz"])) l3 = some (.lst [.str "m", .str "k", .str "zz"]) := upd_same
    have P3 := P2.same s3
    have n3 := P2.ne hl3
    generalize upd H2 l3 (.lst [.str "m", .str "k", .str "zz"]) = H3 at s3 a3 P3 ⊢
    refine ⟨_, rfl, _, rfl, pp, most, rfl, by omega, Sm.of (by omega) (by omega), P3, fun d4 H4 d40 d41 P4 k4 => ⟨_, _, rfl, rfl, _, rfl, ?_⟩⟩
    obtain ⟨nz, rfl⟩ : ∃ nz : Nat, d4 = nz := ⟨d4.toNat, by omega⟩
    refine ⟨l3, _, rfl, k4 _ _ a3 n3, fun l5 hl5 => ?_⟩
    have s5 : Same H4 (upd H4 l5 (.lst (cutV [.str "m", .str "k", .str "zz"] none (some (1 + (nz : Int)))))) := Same.new hl5
    have a5 : (upd H4 l5 (.lst (cutV [.str "m", .str "k", .str "zz"] none (some (1 + (nz : Int)))))) l5 = some (.lst ((modeNames.take (nz + 1)).map V.str)) := by
      rw [upd_same, show (1 + (nz : Int)) = ((nz + 1 : Nat) : Int) by omega, cut_to, List.map_take]
      rfl
    have P5 := P4.same s5
    have n5 := P4.ne hl5
    show tSeq _ _ _ _ (upd H4 l5 (.lst (cutV [.str "m", .str "k", .str "zz"] none (some (1 + (nz : Int))))))
    generalize upd H4 l5 (.lst (cutV [.str "m", .str "k", .str "zz"] none (some (1 + (nz : Int))))) = H5 at s5 a5 P5 ⊢
    have k05 : Keep pp H H5 := ((k02.trans (Same.keep s3)).trans k4).trans (Same.keep s5)
    -- the registers
    refine ⟨_, rfl, ((m + 1 : Nat) : Int), rfl, by omega, by omega, fun D6 hD6 => ?_⟩
    refine lc_draw walk_range (Zp pp) (fun G => PoolAt G pp) IsReg hD6 (Zp.new P5 hD6) P5 pool_iS (by show ((m + 1 : Nat) : Int).toNat < sizeLine; exact Nat.lt_of_lt_of_le (by omega : ((m + 1 : Nat) : Int).toNat < 4) (by decide)) (fun _ _ => True.intro) ?_ ?_
    · intro i x G0 G' Qk hi f iG ne y z
      obtain ⟨rfl, rfl⟩ := y
      refine ⟨rfl, ?_⟩
      refine ⟨by show 3 ≤ sizeLine; decide, fun l7 hl7 => ?_⟩
      have s7 : Same G' (upd G' l7 (.lst [.str "s", .str "p", .str "rr"])) := Same.new hl7
      have a7 : (upd G' l7 (.lst [.str "s", .str "p", .str "rr"])) l7 = some (.lst [.str "s", .str "p", .str "rr"]) := upd_same
      have iG7 := iG.same s7
      generalize upd G' l7 (.lst [.str "s", .str "p", .str "rr"]) = G7 at s7 a7 iG7 ⊢
      have i3 : i < 3 := by omega
      obtain ⟨sn, es⟩ : ∃ sn, regNames[i]? = some sn := ⟨_, List.getElem?_eq_getElem i3⟩
      refine ⟨_, rfl, l7, _, _, .str sn, rfl, rfl, a7, ?_, ?_⟩
      · rw [show (0 : Int) + (i : Int) = ((i : Nat) : Int) by omega]
        refine atI_nat ?_
        show (regNames.map V.str)[i]? = _
        rw [List.getElem?_map, es]
        rfl
      refine ⟨_, rfl, pp, 5, rfl, by decide, Sm.of (by decide) (by decide), iG7, fun d H8 d0 d1 P8 k8 => ⟨_, _, rfl, rfl, by show 2 ≤ sizeLine; decide, fun t nt => ?_⟩⟩
      have fm : Fm (Zp pp) G' (upd H8 t (.tup [.str sn, .int (d - 2)])) := ((Fm.of s7).trans k8.fr).trans (Fm.new nt)
      have nD : t ≠ D6 := fun m => by
        have : G' t = none := by
          cases e : G' t with
          | none => rfl
          | some o =>
            have := k8 _ _ (s7 _ _ e) (P8.ne nt)
            rw [this] at nt
            cases nt
        exact ne t this m
      exact z _ (.tuple [.str sn, .int (d - 2)]) _ fm (P8.same (Same.new nt)) (.tup upd_same (zu_ne (P8.ne nt) nD) (.cons (.str _) (.cons (.int _) .nil))) ⟨sn, d - 2, es, rfl, by omega, by omega⟩
    · intro H7 xs6 regs f7 P7 e6 d6 l6 g6
      have k07 := k05.trans f7.keep
      have dR : Dt (Zp pp) H7 (.ref D6) (.list regs) := .lst e6 (Zp.new P5 hD6) (d6.mono' fun _ m => .inl m)
      have a5' := f7 _ _ a5 n5
      -- the rules
      refine ⟨by show 5 ≤ sizeLine; decide, fun l8 hl8 => ?_⟩
      have s8 : Same H7 (upd H7 l8 (.lst [.str "down", .str "up", .str "zero", .str "positive", .str "near"])) := Same.new hl8
      have a8 : (upd H7 l8 (.lst [.str "down", .str "up", .str "zero", .str "positive", .str "near"])) l8 = some (.lst (five.map V.str)) := upd_same
      have P8 := P7.same s8
      have n8 := P7.ne hl8
      show tSeq _ _ _ _ (upd H7 l8 (.lst [.str "down", .str "up", .str "zero", .str "positive", .str "near"]))
      generalize upd H7 l8 (.lst [.str "down", .str "up", .str "zero", .str "positive", .str "near"]) = H8 at s8 a8 P8 ⊢
      have a58 := s8 _ _ a5'
      have k08 := k07.trans (Same.keep s8)
      have lzs : (modeNames.take (nz + 1)).length = nz + 1 := by
        rw [List.length_take]
        exact Nat.min_eq_left (by show nz + 1 ≤ 3; omega)
      -- the modes
      refine ⟨_, rfl, l5, (modeNames.take (nz + 1)).map V.str, _, rfl, .inl rfl, a58, fun J wk D9 hD9 => ?_⟩
      refine lc_draw wk (Zp pp) (fun G => PoolAt G pp ∧ (G D9 = none ∨ ∃ acc, G D9 = some (.lst acc))) (IsMode size (m + 1) (modeNames.take (nz + 1))) hD9 (Zp.new P8 hD9) ⟨P8, .inl hD9⟩ (fun G l a n => ⟨a.1.upd n, .inr ⟨l, upd_same⟩⟩) (by rw [List.length_map, lzs]; exact Nat.lt_of_lt_of_le (by omega : nz + 1 < 4) (by decide)) (fun G fG => fG _ _ a58 n5) ?_ ?_
      · intro i x G0 G' Qk hi f iG2 ne y z
        obtain ⟨iG, iD⟩ := iG2
        obtain ⟨rfl, ex⟩ := y
        rw [List.getElem?_map] at ex
        obtain ⟨zn, ez, rfl⟩ := Option.map_eq_some_iff.mp ex
        refine ⟨rfl, ?_⟩
        refine ⟨_, rfl, _, rfl, _, rfl, pp, l8, five.map V.str, rfl, SqL.of (f _ _ a8 n8), n8, by decide, by decide, iG, fun v H10 hv P10 k10 => ?_⟩
        obtain ⟨r, hr5, rfl⟩ := List.mem_map.mp hv
        have f10 := f.trans k10.fr
        refine ⟨_, rfl, _, rfl, _, rfl, _, rfl, pp, l5, size, m + 1, modeNames.take (nz + 1), rfl, z0, z1, by omega, f10 _ _ a58 n5, n5, by omega, by omega, P10, fun u rows H11 hu P11 k11 du rl l4 wr => ?_⟩
        refine ⟨by show 3 ≤ sizeLine; decide, fun t nt => ?_⟩
        have back : ∀ {q : Addr}, q ≠ pp → H11 q = none → G' q = none := fun {q} n e => by
          cases e' : G' q with
          | none => rfl
          | some o =>
            have := k11 _ _ (k10 _ _ e' n) n
            rw [this] at e
            cases e
        have uG : G' u = none := by
          cases e' : G' u with
          | none => rfl
          | some o =>
            have := k10 _ _ e' (P10.ne hu)
            rw [this] at hu
            cases hu
        have s12 : Same H11 (upd H11 t (.tup [.str zn, .str r, .ref u])) := Same.new nt
        have nD : t ≠ D9 := ne t (back (P11.ne nt) nt)
        obtain ⟨acc, eD⟩ : ∃ acc, G' D9 = some (.lst acc) := iD.elim (fun h => absurd rfl (ne D9 h)) id
        have nDp : D9 ≠ pp := P8.ne hD9
        have eD11 := k11 _ _ (k10 _ _ eD nDp) nDp
        have uD : u ≠ D9 := ne u uG
        have du2 : Dt (Zu (Zp pp) D9) H11 (.ref u) (.list rows) := by
          cases du with
          | lst e n t' =>
            refine .lst e (zu_ne n uD) (DtAll.offL (fun q m => ?_) (noLs_all fun d hd => (rl d hd).noL) t')
            rcases m with m | m
            · obtain ⟨c, z, _, _, hp⟩ := P11
              exact ⟨_, by rw [show q = pp from m]; exact hp⟩
            · exact ⟨_, by rw [m]; exact eD11⟩
        exact z _ (.tuple [.str zn, .str r, .list rows]) _ ((k10.fr.trans k11.fr).trans (Fm.of s12)) ⟨P11.same s12, .inr ⟨acc, s12 _ _ eD11⟩⟩ (.tup upd_same (zu_ne (P11.ne nt) nD) (.cons (.str _) (.cons (.str _) (.cons (du2.fr (Fm.of s12)) .nil)))) ⟨zn, r, rows, ez, rfl, hr5, rl, l4, wr⟩
      · intro H12 xs9 modes f12 P12' e9 d9 l9 g9
        have P12 := P12'.1
        have k012 := k08.trans f12.keep
        have dR12 := dR.fr ((Fm.of s8).trans f12)
        have dM : Dt (Zp pp) H12 (.ref D9) (.list modes) := .lst e9 (Zp.new P8 hD9) (d9.mono' fun _ m => .inl m)
        -- the ends
        refine ⟨_, rfl, _, _, rfl, rfl, _, rfl, 1 - size, size, rfl, ⟨by omega, by omega, by omega, by omega⟩, fun D13 hD13 => ?_⟩
        have n13 : D13 ≠ pp := P12.ne hD13
        refine lc_range (fun i G => Keep pp H12 G ∧ PoolAt G pp ∧ ∃ es : List Int, G D13 = some (.lst (es.map V.int)) ∧ es.Pairwise (· < ·) ∧ (∀ e ∈ es, 1 - size ≤ e ∧ e < 1 - size + (i : Nat)) ∧ es.length ≤ i) ⟨Same.keep (Same.new hD13), P12.same (Same.new hD13), [], upd_same, .nil, (fun e he => by cases he), Nat.le_refl _⟩ ?_ ?_
        · rintro i G hi ⟨kG, PG, es, hes, pw, be, le⟩
          refine ⟨rfl, ?_⟩
          have lt : (es.map V.int).length < sizeLine := by
            rw [List.length_map]
            exact Nat.lt_of_le_of_lt le (Nat.lt_of_lt_of_le (by omega : i < 20) (by decide))
          have step : ∀ {G2 : Hp}, Keep pp G G2 → PoolAt G2 pp → Keep pp H12 (upd G2 D13 (.lst (es.map V.int ++ [.int (1 - size + (i : Nat))]))) ∧ PoolAt (upd G2 D13 (.lst (es.map V.int ++ [.int (1 - size + (i : Nat))]))) pp ∧ ∃ es' : List Int, (upd G2 D13 (.lst (es.map V.int ++ [.int (1 - size + (i : Nat))]))) D13 = some (.lst (es'.map V.int)) ∧ es'.Pairwise (· < ·) ∧ (∀ e ∈ es', 1 - size ≤ e ∧ e < 1 - size + ((i + 1 : Nat) : Int)) ∧ es'.length ≤ i + 1 := fun k2 P2 => by
            refine ⟨(kG.trans k2).off hD13, P2.upd n13, es ++ [1 - size + (i : Nat)], ?_, ?_, ?_, ?_⟩
            · rw [upd_same, List.map_append]
              rfl
            · refine List.pairwise_append.mpr ⟨pw, by simp, fun a ha b hb => ?_⟩
              rw [List.mem_singleton.mp hb]
              exact (be a ha).2
            · intro e he
              rcases List.mem_append.mp he with he | he
              · have := be e he
                omega
              · rw [List.mem_singleton.mp he]
                omega
            · rw [List.length_append]
              exact Nat.succ_le_succ le
          refine ⟨_, rfl, rfl, _, rfl, ite2 (fun c => ?_) (fun c => ?_)⟩
          · exact iteT ⟨_, rfl, _, hes, lt, step Keep.refl PG⟩
          · refine ⟨_, rfl, pp, 3, rfl, by decide, Sm.of (by decide) (by decide), PG, fun d G2 d0 d1 P2 k2 => ⟨rfl, _, rfl, ite2 (fun c => ?_) (fun c => ?_)⟩⟩
            · exact ⟨_, rfl, _, k2 _ _ hes n13, lt, step k2 P2⟩
            · exact ⟨kG.trans k2, P2, es, k2 _ _ hes n13, pw, fun e he => by have := be e he; omega, Nat.le_succ_of_le le⟩
        · rintro H14 ⟨k14, P14, es, hes, pw, be, le⟩
          have dE : Dt (Zp pp) H14 (.ref D13) (.list (es.map PyData.int)) := .lst hes n13 (DtAll.ints es)
          have dR14 := dR12.fr k14.fr
          have dM14 := dM.fr k14.fr
          have k014 := k012.trans k14
          -- the result
          refine ⟨_, rfl, _, _, rfl, rfl, ((m + 1 : Nat) : Int) + 1, rfl, by omega, by omega, fun D15 hD15 => ?_⟩
          refine lc_draw walk_range (Zp pp) (fun G => PoolAt G pp) IsSm hD15 (Zp.new P14 hD15) P14 pool_iS (by show (((m + 1 : Nat) : Int) + 1).toNat < sizeLine; exact Nat.lt_of_lt_of_le (by omega : (((m + 1 : Nat) : Int) + 1).toNat < 5) (by decide)) (fun _ _ => True.intro) ?_ ?_
          · intro i x G0 G' Qk hi f iG ne y z
            obtain ⟨rfl, rfl⟩ := y
            refine ⟨rfl, ?_⟩
            exact ⟨_, rfl, pp, 5, rfl, by decide, Sm.of (by decide) (by decide), iG, fun d G2 d0 d1 P2 k2 => ⟨_, _, rfl, rfl, z _ (.int (d - 2)) _ k2.fr P2 (.int _) ⟨d - 2, rfl, by omega, by omega⟩⟩⟩
          · intro H16 xs15 goal f16 P16 e15 d15 l15 g15
            refine ⟨D15, _, rfl, .inl ⟨e15, fun l17 hl17 => ?_⟩⟩
            have s17 : Same H16 (upd H16 l17 (.tup xs15)) := Same.new hl17
            have a17 : (upd H16 l17 (.tup xs15)) l17 = some (.tup xs15) := upd_same
            have P17 := P16.same s17
            have n17 := P16.ne hl17
            show tSeq _ _ _ _ (upd H16 l17 (.tup xs15))
            generalize upd H16 l17 (.tup xs15) = H17 at s17 a17 P17 ⊢
            have f17 := f16.trans (Fm.of s17)
            have dG : Dt (Zp pp) H17 (.ref l17) (.tuple goal) := .tup a17 n17 ((d15.fr (Fm.of s17)).mono' fun _ m => .inl m)
            refine ⟨_, rfl, _, rfl, _, rfl, _, rfl, _, _, rfl, rfl, by show 3 ≤ sizeLine; decide, fun l18 hl18 => ?_⟩
            have s18 : Same H17 (upd H17 l18 (.lst [.int size, .int size, .int (0 - size)])) := Same.new hl18
            refine ⟨pp, l18, [.int size, .int size, .int (0 - size)], rfl, SqL.of upd_same, P17.ne hl18, by simp, by simp, P17.same s18, fun v H19 hv P19 k19 => ?_⟩
            obtain ⟨b, rfl, eb⟩ : ∃ b : Int, v = .int b ∧ (b = size ∨ b = -size) := by
              simp only [List.mem_cons, List.not_mem_nil, or_false] at hv
              rcases hv with rfl | rfl | rfl
              · exact ⟨_, rfl, .inl rfl⟩
              · exact ⟨_, rfl, .inl rfl⟩
              · exact ⟨_, rfl, .inr (by omega)⟩
            refine ⟨_, rfl, _, rfl, _, rfl, _, rfl, by show 5 ≤ sizeLine; decide, fun u hu => ?_⟩
            have s20 : Same H19 (upd H19 u (.lst [.int b, .ref D6, .ref D9, .ref D13, .ref l17])) := Same.new hu
            have f1420 : Fm (Zp pp) H14 (upd H19 u (.lst [.int b, .ref D6, .ref D9, .ref D13, .ref l17])) := ((f17.trans (Fm.of s18)).trans k19.fr).trans (Fm.of s20)
            have k020 : Keep pp H (upd H19 u (.lst [.int b, .ref D6, .ref D9, .ref D13, .ref l17])) := k014.trans f1420.keep
            have hun : H u = none := by
              cases e : H u with
              | none => rfl
              | some o =>
                have k019 : Keep pp H H19 := k014.trans (((f17.trans (Fm.of s18)).trans k19.fr).keep)
                rw [k019 _ _ e (P19.ne hu)] at hu
                cases hu
            refine q u size b (m + 1) (modeNames.take (nz + 1)) regs modes (es.map PyData.int) goal _ hun (P19.same s20) k020 ⟨z0, z1, eb, by omega, by omega, by omega, ⟨_, rfl⟩, by rw [l6]; omega, g6, by rw [l9, List.length_map], g9, ⟨es, rfl, pw, fun e he => ?_⟩, by rw [l15]; omega, g15⟩ ?_
            · have := be e he
              omega
            · exact .lst upd_same (P19.ne hu) (.cons (.int b) (.cons (dR14.fr f1420) (.cons (dM14.fr f1420) (.cons (dE.fr f1420) (.cons ((dG.fr ((Fm.of s18).trans k19.fr)).fr (Fm.of s20)) .nil)))))
end
/-! ### what a program tells, what is due -/
section
variable {P : Program} {w : World} {K : PySem.W.Frag} {mg : Str → Option Value} {base : Heap} {aR CP CU : Addr}
/-- what is told of a program with such parts -/
def toldD (b : Int) (d1 d2 d3 d4 : PyData) : PyData := .list ([.int b, .int (if b < 0 then -b else b), .list (itemsD d1), .list (((itemsD d2).map nmOf).map PyData.str), .tuple (itemsD d3), d4] ++ (itemsD d2).map fun md => .tuple [itD md 1, .list (itemsD (itD md 2))])
theorem DtAll.strs {Z : Addr → Prop} {H : Hp} (ns : List Str) : DtAll Z H (ns.map V.str) (ns.map PyData.str) := by
  induction ns with
  | nil => exact .nil
  | cons n ns ih => exact .cons (.str n) ih
abbrev s__law_told : Stmt := top 59
abbrev N__law_told : List Str := ["_law_one", "_law_found", "_law_name"]
theorem sc__law_told : FnScope N__law_told ["_law_one"] (defScope s__law_told) := ⟨rfl, rfl, rfl, by decide +kernel, rfl, by decide +kernel, by decide +kernel⟩
def spTold (P : Program) (w : World) (CP : Addr) : Sp := fun vs H Q _ => ∃ p b d1 d2 d3 d4, vs = [.ref p] ∧ ProgOk P w CP H p b d1 d2 d3 d4 ∧ ∀ u H', Same H H' → H u = none → Dt Z0 H' (.ref u) (toldD b d1 d2 d3 d4) → Q (.ref u) H'

theorem ok__law_told (h : Has K mg "_law_told" s__law_told ["_law_one"]) (C : PCls K mg CP) (pBase : OwnP P w K mg base CP 1 "base" (spPBase P w CP)) (pSize : OwnP P w K mg base CP 1 "size" (spPSize P w CP)) (pEnds : OwnP P w K mg base CP 1 "ends" (spPEnds P w CP)) (pResult : OwnP P w K mg base CP 1 "result" (spPResult P w CP))
    (mRegs : OwnMeth P w K mg base CP 1 "registers" ["self"] (spPRegs P w CP)) (mModes : OwnMeth P w K mg base CP 1 "modes" ["self"] (spPModes P w CP)) (mRule : OwnMeth P w K mg base CP 4 "rule_of" ["self", "mode"] (spPRuleOf P w CP CU)) (mRows : OwnMeth P w K mg base CP 4 "rows_of" ["self", "mode"] (spPRowsOf P w CP CU)) :
    Ok P w K mg base 5 "_law_told" ["_law_one"] (spTold P w CP) := by
  obtain ⟨f, fd, g, b, F⟩ := h
  refine ⟨f, fd, g, F.kp, b, F.ok sc__law_told (fun vs H Q E h => ?_) (fun cdv A outer s H vs Q E hr h => ?_)⟩
  · obtain ⟨p, b1, d1, d2, d3, d4, rfl, _⟩ := h
    rfl
  · obtain ⟨p, b1, d1, d2, d3, d4, rfl, PK, q⟩ := h
    refine ⟨_, (pss_cons (ps_set (i := 1) sc__law_told.nd rfl (.inl rfl) (pe_lst (pa_cons (pe_propO (pv 0) C.cl pBase (hr.mono (by decide)) passL) (pa_cons (pe_propO (pv 0) C.cl pSize (hr.mono (by decide)) passL) (pa_cons (pe_methO0 (pv 0) C.cl mRegs (hr.mono (by decide)) passL) (pa_cons (pe_methO0 (pv 0) C.cl mModes (hr.mono (by decide)) passL) (pa_cons (pe_propO (pv 0) C.cl pEnds (hr.mono (by decide)) passL) (pa_cons (pe_propO (pv 0) C.cl pResult (hr.mono (by decide)) passL) pa_nil))))))))
      (pss_one (ps_ret (pe_op op_cat (pv 1) (pe_lc (own := [("_law_name", 2)]) (g := (gName 2)) (tt := tYes) rfl sc__law_told.nd (pi_seq (pe_methO0 (pv 0) C.cl mModes (hr.mono (by decide)) passL)) (blkOk_by (N := N__law_told) (sc := defScope s__law_told) (by decide +kernel)) (fun _ _ _ _ _ => (pg_name (i := 2) sc__law_told.nd rfl (by first | exact Or.inl rfl | exact Or.inr rfl))) (fun _ _ _ _ _ => pts_nil) (fun _ _ _ _ _ => (pe_tup (pa_cons (pe_methO (pv 0) C.cl mRule (hr.mono (by decide)) passL (pa_cons (pv 2) pa_nil)) (pa_cons (pe_methO (pv 0) C.cl mRows (hr.mono (by decide)) passL (pa_cons (pv 2) pa_nil)) pa_nil))))))))), ?_⟩
    obtain ⟨⟨dx, vr, vm, ve, va, vt, e, _⟩, PO, z1, z2⟩ := id PK
    obtain ⟨sq2, m4, all2⟩ := partsD_all PO.modes
    refine ⟨_, rfl, p, dx, _, rfl, e, p, b1, d1, d2, d3, d4, rfl, PK.1, ?_⟩
    refine ⟨_, rfl, p, dx, _, rfl, e, p, b1, d1, d2, d3, d4, rfl, PK.1, ?_⟩
    refine ⟨_, rfl, p, dx, _, rfl, e, rfl, p, b1, d1, d2, d3, d4, rfl, PK.1, fun ur H1 s1 hur dr => ?_⟩
    refine ⟨_, rfl, p, dx, _, rfl, s1 _ _ e, rfl, p, b1, d1, d2, d3, d4, rfl, PK.same s1, fun um H2 s2 hum em => ?_⟩
    have s02 := s1.trans s2
    refine ⟨_, rfl, p, dx, _, rfl, s02 _ _ e, p, b1, d1, d2, d3, d4, rfl, PK.1.same s02, fun ve' de => ?_⟩
    refine ⟨_, rfl, p, dx, _, rfl, s02 _ _ e, p, b1, d1, d2, d3, d4, rfl, PK.1.same s02, fun va' da => ?_⟩
    refine ⟨by show 6 ≤ sizeLine; decide, fun l hl => ?_⟩
    have s3 : Same H2 (upd H2 l (.lst [.int b1, .int (if b1 < 0 then -b1 else b1), .ref ur, .ref um, ve', va'])) := Same.new hl
    have a3 : (upd H2 l (.lst [.int b1, .int (if b1 < 0 then -b1 else b1), .ref ur, .ref um, ve', va'])) l = some (.lst [.int b1, .int (if b1 < 0 then -b1 else b1), .ref ur, .ref um, ve', va']) := upd_same
    show tSeq _ _ _ _ (upd H2 l (.lst [.int b1, .int (if b1 < 0 then -b1 else b1), .ref ur, .ref um, ve', va']))
    generalize upd H2 l (.lst [.int b1, .int (if b1 < 0 then -b1 else b1), .ref ur, .ref um, ve', va']) = H3 at s3 a3 ⊢
    have s03 := s02.trans s3
    refine ⟨_, rfl, _, rfl, p, dx, _, rfl, s03 _ _ e, rfl, p, b1, d1, d2, d3, d4, rfl, PK.same s03, fun um2 H4 s4 hum2 em2 => ?_⟩
    have s04 := s03.trans s4
    refine ⟨um2, _, _, rfl, .inl rfl, em2, fun J wk D hD => ?_⟩
    refine lc_dat wk Z0 (fun G => G D = none ∨ ∃ acc, G D = some (.lst acc)) ((itemsD d2).map fun md => PyData.tuple [itD md 1, .list (itemsD (itD md 2))]) (by simp) hD id (.inl hD) (fun G l _ _ => .inr ⟨l, upd_same⟩) (by rw [List.length_map, List.length_map]; exact Nat.lt_of_le_of_lt z2.1 (by decide)) (fun G f => f _ _ em2 id) ?_ ?_
    · intro i x dmd G0 G Qk ed f iD ne y z
      obtain ⟨rfl, ex⟩ := y
      rw [List.getElem?_map] at ed
      obtain ⟨md, e3, rfl⟩ := Option.map_eq_some_iff.mp ed
      rw [List.getElem?_map, List.getElem?_map, e3] at ex
      have ex : some (V.str (nmOf md)) = some x := ex
      cases ex
      have mm := List.mem_of_getElem? e3
      have nme : modeOf (itemsD d2) (nmOf md) = some md := modeOf_self PO.names mm
      have s0G := s04.trans f.same
      refine ⟨rfl, ?_⟩
      refine ⟨_, rfl, p, dx, _, rfl, s0G _ _ e, rfl, _, rfl, p, .str (nmOf md), .str (nmOf md), b1, d1, d2, d3, d4, rfl, .str _, PK.same s0G, fun s' md' es em' u1 du1 => ?_, fun hn => absurd (hn _ rfl) (by rw [nme]; simp)⟩
      cases es
      rw [nme] at em'
      cases em'
      refine ⟨_, rfl, p, dx, _, rfl, s0G _ _ e, rfl, _, rfl, p, .str (nmOf md), .str (nmOf md), b1, d1, d2, d3, d4, rfl, .str _, PK.same s0G, fun s' md' es em' u2 H5 s5 hu2 du2 => ?_, fun hn => absurd (hn _ rfl) (by rw [nme]; simp)⟩
      cases es
      rw [nme] at em'
      cases em'
      refine ⟨by show 2 ≤ sizeLine; decide, fun t nt => ?_⟩
      have s6 : Same H5 (upd H5 t (.tup [u1, .ref u2])) := Same.new nt
      have tD : t ≠ D := ne t (s5.free nt)
      have uD : u2 ≠ D := ne u2 hu2
      obtain ⟨acc, eD⟩ : ∃ acc, G D = some (.lst acc) := iD.elim (fun h => absurd rfl (ne D h)) id
      have eD5 := s5 _ _ eD
      have r1 : noL (itD md 1) = true := ruleD_noL (modeD_rule (all2 md mm))
      have hz : ∀ q, Zu Z0 D q → ∃ xs, H5 q = some (.lst xs) := fun q m => m.elim (fun m => m.elim) fun m => ⟨acc, by rw [m]; exact eD5⟩
      have d1' : Dt (Zu Z0 D) H5 u1 (itD md 1) := (du1.fr (Fm.of s5)).offL hz r1
      have d2' : Dt (Zu Z0 D) H5 (.ref u2) (.list (itemsD (itD md 2))) := by
        cases du2 with
        | lst e n t' => exact .lst e (zu_ne id uD) (DtAll.offL hz (PO.rowNoL mm) t')
      exact z _ _ (Fm.of (s5.trans s6)) (.inr ⟨acc, s6 _ _ eD5⟩) (.tup upd_same (zu_ne id tD) (.cons (d1'.fr (Fm.of s6)) (.cons (d2'.fr (Fm.of s6)) .nil)))
    · intro G xs5 f _ eD dD
      have s1G := f.same
      have s0G := s04.trans s1G
      refine ⟨l, D, _, _, rfl, rfl, (s4.trans s1G) _ _ a3, eD, ?_, fun r nr => ?_⟩
      · rw [dD.len, List.length_map]
        exact Nat.le_trans (Nat.add_le_add_left z2.1 6) (show 1006 ≤ sizeLine by decide)
      · have s7 : Same G (upd G r (.lst ([.int b1, .int (if b1 < 0 then -b1 else b1), .ref ur, .ref um, ve', va'] ++ xs5))) := Same.new nr
        have s3G := (s3.trans s4).trans s1G
        refine q r _ (s0G.trans s7) (s0G.free nr) (.lst upd_same id (DtAll.append (.cons (.int _) (.cons (.int _) (.cons ((dr.fr (Fm.of (s2.trans s3G))).fr (Fm.of s7)) (.cons (.lst (s7 _ _ (s3G _ _ em)) id (DtAll.strs _)) (.cons ((de.fr (Fm.of s3G)).fr (Fm.of s7)) (.cons ((da.fr (Fm.of s3G)).fr (Fm.of s7)) .nil)))))) ?_))
        exact (dD.mono' fun _ m => m.elim).fr (Fm.of s7)
end
section
variable {P : Program} {w : World} {K : PySem.W.Frag} {mg : Str → Option Value} {base : Heap} {aR CP CU : Addr}
def dueD (b : Int) (d1 : PyData) (modes ends : List PyData) (d4 : PyData) : PyData := .list ([.int b, .int (if b < 0 then -b else b), d1, .list (modes.map (itD · 0)), .tuple ends, d4] ++ modes.map fun md => .tuple [itD md 1, itD md 2])
theorem parts_inv {Z : Addr → Prop} {H : Hp} {v : V} {b : Int} {d1 d4 : PyData} {modes ends : List PyData} (h : Dt Z H v (.list [.int b, d1, .list modes, .list ends, d4])) : ∃ a v1 am xm ae xe v4, v = .ref a ∧ H a = some (.lst [.int b, v1, .ref am, .ref ae, v4]) ∧ ¬ Z a ∧ Dt Z H v1 d1 ∧ H am = some (.lst xm) ∧ ¬ Z am ∧ DtAll Z H xm modes ∧ H ae = some (.lst xe) ∧ ¬ Z ae ∧ DtAll Z H xe ends ∧ Dt Z H v4 d4 := by
  cases h with
  | lst ea na dx =>
    cases dx with
    | cons x0 dx =>
      cases x0
      cases dx with
      | cons x1 dx =>
        cases dx with
        | cons x2 dx =>
          cases x2 with
          | lst em nm dm =>
            cases dx with
            | cons x3 dx =>
              cases x3 with
              | lst ee ne de =>
                cases dx with
                | cons x4 dx =>
                  cases dx
                  exact ⟨_, _, _, _, _, _, _, rfl, ea, na, x1, em, nm, dm, ee, ne, de, x4⟩
abbrev s__law_due : Stmt := top 60
abbrev N__law_due : List Str := ["_law_parts_here", "_law_found", "_law_mode", "_law_name", "_law_rule", "_law_rows_here"]
theorem sc__law_due : FnScope N__law_due ["_law_parts_here"] (defScope s__law_due) := ⟨rfl, rfl, rfl, by decide +kernel, rfl, by decide +kernel, by decide +kernel⟩
def spDue : Sp := fun vs H Q _ => ∃ v b d1 modes ends d4, vs = [v] ∧ Dt Z0 H v (.list [.int b, d1, .list modes, .list ends, d4]) ∧ modes.length ≤ 1000 ∧ (∀ m ∈ modes, isTup m = true ∧ (itemsD m).length = 3) ∧ ∀ u H', Same H H' → H u = none → Dt Z0 H' (.ref u) (dueD b d1 modes ends d4) → Q (.ref u) H'
theorem ok__law_due (h : Has K mg "_law_due" s__law_due ["_law_parts_here"]) (T : Txt K mg aR) : Ok P w K mg base 1 "_law_due" ["_law_parts_here"] spDue := by
  obtain ⟨f, fd, g, b, F⟩ := h
  refine ⟨f, fd, g, F.kp, b, F.ok sc__law_due (fun vs H Q E h => ?_) (fun cdv A outer s H vs Q E hr h => ?_)⟩
  · obtain ⟨v, b1, d1, modes, ends, d4, rfl, _⟩ := h
    rfl
  · obtain ⟨v, b1, d1, modes, ends, d4, rfl, dv, few, mk, q⟩ := h
    refine ⟨_, (pss_cons (ps_set (i := 1) sc__law_due.nd rfl (.inl rfl) (pe_lst (pa_cons (pe_ix ixl (pv 0) pe_int (fun _ _ => rfl)) (pa_cons (pe_callB call_abs (by rfl) T.abs bb_abs (pa_cons (pe_ix ixl (pv 0) pe_int (fun _ _ => rfl)) pa_nil)) (pa_cons (pe_ix ixl (pv 0) pe_int (fun _ _ => rfl)) (pa_cons (pe_lc (own := [("_law_mode", 2)]) (g := (gName 2)) (tt := tYes) rfl sc__law_due.nd (pi_seq (pe_ix ixl (pv 0) pe_int (fun _ _ => rfl))) (blkOk_by (N := N__law_due) (sc := defScope s__law_due) (by decide +kernel)) (fun _ _ _ _ _ => (pg_name (i := 2) sc__law_due.nd rfl (by first | exact Or.inl rfl | exact Or.inr rfl))) (fun _ _ _ _ _ => pts_nil) (fun _ _ _ _ _ => (pe_ix ixt (pv 2) pe_int (fun _ _ => rfl)))) (pa_cons (pe_callTy tupT (by rfl) T.tuple bb_tuple (pa_cons (pe_ix ixl (pv 0) pe_int (fun _ _ => rfl)) pa_nil)) (pa_cons (pe_ix ixl (pv 0) pe_int (fun _ _ => rfl)) pa_nil))))))))
      (pss_one (ps_ret (pe_op op_cat (pv 1) (pe_lc (own := [("_law_name", 3), ("_law_rule", 4), ("_law_rows_here", 5)]) (g := (gTupT 3 (gCons (gName 3) (gCons (gName 4) (gCons (gName 5) gNil))))) (tt := tYes) rfl sc__law_due.nd (pi_seq (pe_ix ixl (pv 0) pe_int (fun _ _ => rfl))) (blkOk_by (N := N__law_due) (sc := defScope s__law_due) (by decide +kernel)) (fun _ _ _ _ _ => (pgT (n := 3) (by rfl) (pgs_cons (pg_name (i := 3) sc__law_due.nd rfl (by first | exact Or.inl rfl | exact Or.inr rfl)) (pgs_cons (pg_name (i := 4) sc__law_due.nd rfl (by first | exact Or.inl rfl | exact Or.inr rfl)) (pgs_cons (pg_name (i := 5) sc__law_due.nd rfl (by first | exact Or.inl rfl | exact Or.inr rfl)) pgs_nil))))) (fun _ _ _ _ _ => pts_nil) (fun _ _ _ _ _ => (pe_tup (pa_cons (pv 4) (pa_cons (pv 5) pa_nil))))))))), ?_⟩
    obtain ⟨a, v1, am, xm, ae, xe, v4, rfl, ea, _, g1, em, nm, dm, ee, ne, de, g4⟩ := parts_inv dv
    have lm : xm.length = modes.length := dm.len
    refine ⟨_, rfl, a, _, _, _, rfl, rfl, ea, atI0, ?_⟩
    refine ⟨_, rfl, a, _, _, _, rfl, rfl, ea, atI0, _, rfl, ?_⟩
    refine ⟨_, rfl, a, _, _, _, rfl, rfl, ea, atI1, ?_⟩
    refine ⟨_, rfl, a, _, _, _, rfl, rfl, ea, atI_nat (j := 2) rfl, am, xm, _, rfl, .inl rfl, em, fun J wk D hD => ?_⟩
    refine lc_dat wk Z0 (fun _ => True) (modes.map (itD · 0)) (by simp [lm]) hD id True.intro (fun _ _ _ _ => True.intro) (by rw [lm]; exact Nat.lt_of_le_of_lt few (by decide)) (fun G f => f _ _ em id) ?_ ?_
    · intro i x d G0 G Qk ed f _ ne y z
      obtain ⟨rfl, ex⟩ := y
      rw [List.getElem?_map] at ed
      obtain ⟨md, e3, rfl⟩ := Option.map_eq_some_iff.mp ed
      obtain ⟨d', e4, dt⟩ := ((DtAll.off' hD dm).fr (Fm.zu f)).get ex
      rw [e3] at e4
      cases e4
      obtain ⟨t1, t2⟩ := mk md (List.mem_of_getElem? e3)
      obtain ⟨p, ys, rfl, dy, hp, _, _⟩ := dt.tupOf t1
      obtain ⟨y0, y1, y2, c0, c1, c2, rfl, eds, w0, w1, w2⟩ := three_dt dy t2
      have q0 : itD md 0 = c0 := by unfold itD; rw [eds]; rfl
      refine ⟨rfl, _, rfl, p, _, _, _, rfl, rfl, hp, atI0, z _ _ Fm.refl True.intro (q0 ▸ w0)⟩
    · intro G1 xs1 f1 _ eD dD
      have s1 : Same H G1 := f1.same
      refine ⟨_, rfl, a, _, _, _, rfl, rfl, s1 _ _ ea, atI_nat (j := 3) rfl, ae, xe, rfl, .inl ⟨s1 _ _ ee, fun te hte => ?_⟩⟩
      have s2 : Same G1 (upd G1 te (.tup xe)) := Same.new hte
      have a2 : (upd G1 te (.tup xe)) te = some (.tup xe) := upd_same
      generalize upd G1 te (.tup xe) = G2 at s2 a2 ⊢
      have s02 := s1.trans s2
      refine ⟨_, rfl, a, _, _, _, rfl, rfl, s02 _ _ ea, atI_nat (j := 4) rfl, by show 6 ≤ sizeLine; decide, fun l hl => ?_⟩
      have s3 : Same G2 (upd G2 l (.lst [.int b1, .int (if b1 < 0 then -b1 else b1), v1, .ref D, .ref te, v4])) := Same.new hl
      have a3 : (upd G2 l (.lst [.int b1, .int (if b1 < 0 then -b1 else b1), v1, .ref D, .ref te, v4])) l = some (.lst [.int b1, .int (if b1 < 0 then -b1 else b1), v1, .ref D, .ref te, v4]) := upd_same
      show tSeq _ _ _ _ (upd G2 l (.lst [.int b1, .int (if b1 < 0 then -b1 else b1), v1, .ref D, .ref te, v4]))
      generalize upd G2 l (.lst [.int b1, .int (if b1 < 0 then -b1 else b1), v1, .ref D, .ref te, v4]) = G3 at s3 a3 ⊢
      have s03 := s02.trans s3
      have dm3 := dm.fr (Fm.of s03)
      refine ⟨_, rfl, _, rfl, a, _, _, _, rfl, rfl, s03 _ _ ea, atI_nat (j := 2) rfl, am, xm, _, rfl, .inl rfl, s03 _ _ em, fun J2 wk2 D2 hD2 => ?_⟩
      refine lc_dat wk2 Z0 (fun _ => True) (modes.map fun md => PyData.tuple [itD md 1, itD md 2]) (by simp [lm]) hD2 id True.intro (fun _ _ _ _ => True.intro) (by rw [lm]; exact Nat.lt_of_le_of_lt few (by decide)) (fun G f => f _ _ (s03 _ _ em) id) ?_ ?_
      · intro i x d G0 G Qk ed f _ ne y z
        obtain ⟨rfl, ex⟩ := y
        rw [List.getElem?_map] at ed
        obtain ⟨md, e3, rfl⟩ := Option.map_eq_some_iff.mp ed
        obtain ⟨d', e4, dt⟩ := ((DtAll.off' hD2 dm3).fr (Fm.zu f)).get ex
        rw [e3] at e4
        cases e4
        obtain ⟨t1, t2⟩ := mk md (List.mem_of_getElem? e3)
        obtain ⟨p, ys, rfl, dy, hp, _, _⟩ := dt.tupOf t1
        obtain ⟨y0, y1, y2, c0, c1, c2, rfl, eds, w0, w1, w2⟩ := three_dt dy t2
        have q1 : itD md 1 = c1 := by unfold itD; rw [eds]; rfl
        have q2 : itD md 2 = c2 := by unfold itD; rw [eds]; rfl
        refine ⟨p, _, rfl, hp, rfl, _, _, rfl, _, _, rfl, _, _, rfl, rfl, rfl, _, rfl, _, rfl, by show 2 ≤ sizeLine; decide, fun t nt => ?_⟩
        have s4 := Fm.of (Z := Zu Z0 D2) (Same.new (o := .tup [y1, y2]) nt)
        exact z _ _ (Fm.of (Same.new nt)) True.intro (.tup upd_same (zu_ne id (ne t nt)) (q1 ▸ q2 ▸ .cons (w1.fr s4) (.cons (w2.fr s4) .nil)))
      · intro G4 xs2 f4 _ eD2 dD2
        have s4 : Same G3 G4 := f4.same
        have s04 := s03.trans s4
        refine ⟨l, D2, _, _, rfl, rfl, s4 _ _ a3, eD2, ?_, fun r nr => ?_⟩
        · rw [dD2.len, List.length_map]
          exact Nat.le_trans (Nat.add_le_add_left few 6) (show 1006 ≤ sizeLine by decide)
        · have s5 : Same G4 (upd G4 r (.lst ([.int b1, .int (if b1 < 0 then -b1 else b1), v1, .ref D, .ref te, v4] ++ xs2))) := Same.new nr
          have s34 := s3.trans s4
          have up := (s04.trans s5)
          have dDD : DtAll Z0 G1 xs1 (modes.map (itD · 0)) := dD.mono' fun _ m => m.elim
          refine q r _ up (s04.free nr) (.lst upd_same id (DtAll.append (.cons (.int _) (.cons (.int _) (.cons (g1.fr (Fm.of up)) (.cons (.lst (s5 _ _ (s34 _ _ (s2 _ _ eD))) id (dDD.fr (Fm.of ((s2.trans s34).trans s5)))) (.cons (.tup (s5 _ _ (s34 _ _ a2)) id (de.fr (Fm.of up))) (.cons (g4.fr (Fm.of up)) .nil)))))) ?_))
          exact (dD2.mono' fun _ m => m.elim).fr (Fm.of s5)
end
section
variable {P : Program} {w : World} {K : PySem.W.Frag} {mg : Str → Option Value} {base : Heap} {aR CP CU : Addr}
theorem eqv_key {r k : PyData} (h : RowS r) (n : NIK k) : PyData.eqv (keyD r) k = decide (keyL r = keyL k) := by
  obtain ⟨a, b, rfl, n0, n1⟩ := n
  obtain ⟨_, _, r0, r1⟩ := h
  have e1 : keyL (.tuple [a, b]) = [leafD a, leafD b] := rfl
  rw [e1]
  unfold keyL keyD
  by_cases c : PyData.eqv (.tuple [itD r 0, itD r 1]) (.tuple [a, b]) = true
  · rw [c]
    have := eqv_nik (k := .tuple [a, b]) (z := .tuple [itD r 0, itD r 1]) ⟨a, b, rfl, n0, n1⟩ ⟨_, _, rfl, r0, r1⟩ c
    injection this with this
    injection this with h1 this
    injection this with h2 _
    rw [h1, h2]
    exact (decide_eq_true rfl).symm
  · rw [Bool.eq_false_iff.mpr c]
    refine (decide_eq_false fun m => c ?_).symm
    injection m with m1 m
    injection m with m2 _
    rw [leafD_inj r0 n0 m1, leafD_inj r1 n1 m2]
    exact PySem.SeqAt.eqv_refl _ (NIK.shp ⟨a, b, rfl, n0, n1⟩).1
abbrev s__law_line : Stmt := top 58
abbrev N__law_line : List Str := ["_law_rows_here", "_law_sign", "_law_part", "_law_key", "_law_row"]
theorem sc__law_line : FnScope N__law_line ["_law_rows_here", "_law_sign", "_law_part"] (defScope s__law_line) := ⟨rfl, rfl, rfl, by decide +kernel, rfl, by decide +kernel, by decide +kernel⟩
def spLine : Sp := fun vs H Q _ => ∃ v i j rows r, vs = [v, .int i, .int j] ∧ Dt Z0 H v (.list rows) ∧ (∀ r ∈ rows, RowS r) ∧ rowFor rows i j = some r ∧ ∀ u H', Same H H' → Dt Z0 H' u r → r ∈ rows → Q u H'
theorem ok__law_line (h : Has K mg "_law_line" s__law_line ["_law_rows_here", "_law_sign", "_law_part"]) : Ok P w K mg base 1 "_law_line" ["_law_rows_here", "_law_sign", "_law_part"] spLine := by
  obtain ⟨f, fd, g, b, F⟩ := h
  refine ⟨f, fd, g, F.kp, b, F.ok sc__law_line (fun vs H Q E h => ?_) (fun cdv A outer s H vs Q E hr h => ?_)⟩
  · obtain ⟨v, i, j, rows, r, rfl, _⟩ := h
    rfl
  · obtain ⟨v, i, j, rows, r, rfl, dv, rs, er, q⟩ := h
    refine ⟨_, (pss_cons (ps_for PassesOwn.never rfl (pi_seq (pe_lst (pa_cons (pe_tup (pa_cons (pv 1) (pa_cons (pv 2) pa_nil))) (pa_cons (pe_tup (pa_cons pe_non (pa_cons (pv 2) pa_nil))) (pa_cons (pe_tup (pa_cons (pv 1) (pa_cons pe_non pa_nil))) (pa_cons (pe_tup (pa_cons pe_non (pa_cons pe_non pa_nil))) pa_nil)))))) (pg_name (i := 3) sc__law_line.nd rfl (.inl rfl))
        (pss_one (ps_for PassesOwn.never rfl (pi_seq (pv 0)) (pg_name (i := 4) sc__law_line.nd rfl (.inl rfl))
          (pss_one (ps_if (pt_cmpR (eqD hr.units) (pe_slice slt (pv 4) po_none (po_some pe_int)) (pv 3) (nomark _))
            (pss_one (ps_ret (pv 4)))
            pss_nil)))))
      (pss_one (ps_ret pe_non))), ?_⟩
    cases dv with
    | lst ea na dx =>
      rename_i a xs
      refine ⟨_, rfl, _, rfl, by show 2 ≤ sizeLine; decide, fun k1 n1 => ?_⟩
      have s1 : Same H (upd H k1 (.tup [.int i, .int j])) := Same.new n1
      have y1 : (upd H k1 (.tup [.int i, .int j])) k1 = some (.tup [.int i, .int j]) := upd_same
      generalize upd H k1 (.tup [.int i, .int j]) = H1 at s1 y1 ⊢
      refine ⟨_, rfl, by show 2 ≤ sizeLine; decide, fun k2 n2 => ?_⟩
      have s2 : Same H1 (upd H1 k2 (.tup [.non, .int j])) := Same.new n2
      have y2 : (upd H1 k2 (.tup [.non, .int j])) k2 = some (.tup [.non, .int j]) := upd_same
      generalize upd H1 k2 (.tup [.non, .int j]) = H2 at s2 y2 ⊢
      refine ⟨_, rfl, by show 2 ≤ sizeLine; decide, fun k3 n3 => ?_⟩
      have s3 : Same H2 (upd H2 k3 (.tup [.int i, .non])) := Same.new n3
      have y3 : (upd H2 k3 (.tup [.int i, .non])) k3 = some (.tup [.int i, .non]) := upd_same
      generalize upd H2 k3 (.tup [.int i, .non]) = H3 at s3 y3 ⊢
      refine ⟨by show 2 ≤ sizeLine; decide, fun k4 n4 => ?_⟩
      have s4 : Same H3 (upd H3 k4 (.tup [.non, .non])) := Same.new n4
      have y4 : (upd H3 k4 (.tup [.non, .non])) k4 = some (.tup [.non, .non]) := upd_same
      generalize upd H3 k4 (.tup [.non, .non]) = H4 at s4 y4 ⊢
      refine ⟨by show 4 ≤ sizeLine; decide, fun kl nkl => ?_⟩
      have s5 : Same H4 (upd H4 kl (.lst [.ref k1, .ref k2, .ref k3, .ref k4])) := Same.new nkl
      have y5 : (upd H4 kl (.lst [.ref k1, .ref k2, .ref k3, .ref k4])) kl = some (.lst [.ref k1, .ref k2, .ref k3, .ref k4]) := upd_same
      generalize upd H4 kl (.lst [.ref k1, .ref k2, .ref k3, .ref k4]) = H5 at s5 y5 ⊢
      have s05 := (((s1.trans s2).trans s3).trans s4).trans s5
      have ks : DtAll Z0 H5 [.ref k1, .ref k2, .ref k3, .ref k4] [.tuple [.int i, .int j], .tuple [.none, .int j], .tuple [.int i, .none], .tuple [.none, .none]] :=
        .cons (.tup (s5 _ _ (s4 _ _ (s3 _ _ (s2 _ _ y1)))) id (.cons (.int _) (.cons (.int _) .nil))) (.cons (.tup (s5 _ _ (s4 _ _ (s3 _ _ y2))) id (.cons .non (.cons (.int _) .nil))) (.cons (.tup (s5 _ _ (s4 _ _ y3)) id (.cons (.int _) (.cons .non .nil))) (.cons (.tup (s5 _ _ y4) id (.cons .non (.cons .non .nil))) .nil)))
      have kn : ∀ k ∈ [PyData.tuple [.int i, .int j], .tuple [.none, .int j], .tuple [.int i, .none], .tuple [.none, .none]], NIK k := fun k hk => by
        simp only [List.mem_cons, List.not_mem_nil, or_false] at hk
        rcases hk with rfl | rfl | rfl | rfl
        · exact ⟨_, _, rfl, .inr ⟨_, rfl⟩, .inr ⟨_, rfl⟩⟩
        · exact ⟨_, _, rfl, .inl rfl, .inr ⟨_, rfl⟩⟩
        · exact ⟨_, _, rfl, .inr ⟨_, rfl⟩, .inl rfl⟩
        · exact ⟨_, _, rfl, .inl rfl, .inl rfl⟩
      have e0 : [PyData.tuple [.int i, .int j], .tuple [.none, .int j], .tuple [.int i, .none], .tuple [.none, .none]].findSome? (fun k => rowAt rows (keyL k)) = some r := by
        rw [← er]
        unfold rowFor
        have k1 : keyL (.tuple [.int i, .int j]) = [.num i, .num j] := rfl
        have k2 : keyL (.tuple [.none, .int j]) = [.none, .num j] := rfl
        have k3 : keyL (.tuple [.int i, .none]) = [.num i, .none] := rfl
        have k4 : keyL (.tuple [.none, .none]) = [.none, .none] := rfl
        simp only [List.findSome?_cons, List.findSome?_nil, k1, k2, k3, k4]
        cases rowAt rows [.num i, .num j] <;> cases rowAt rows [.none, .num j] <;> cases rowAt rows [.num i, .none] <;> cases rowAt rows [.none, .none] <;> rfl
      generalize [PyData.tuple [.int i, .int j], .tuple [.none, .int j], .tuple [.int i, .none], .tuple [.none, .none]] = KD at ks kn e0
      have lK : KD.length = 4 := ks.len.symm
      refine ⟨kl, _, _, rfl, .inl rfl, y5, fun J wk => for_it wk (fun n σ H' => Same H5 H' ∧ (KD.drop n).findSome? (fun k => rowAt rows (keyL k)) = some r ∧ ∃ w3 w4 : Option V, σ = [some (.ref a), some (.int i), some (.int j), w3, w4]) ⟨Same.refl _, e0, none, none, rfl⟩ (fun n σ H' _ z => z.1 _ _ y5) ?_ ?_⟩
      · rintro n x σ H6 H7 hn ⟨s6, e6, w3, w4, rfl⟩ ⟨rfl, ex⟩
        obtain ⟨kd, ek, dk⟩ := ks.get ex
        have mk := List.mem_of_getElem? ek
        have nk := kn kd mk
        have more : KD.drop n = kd :: KD.drop (n + 1) := by
          obtain ⟨lt, e⟩ := List.getElem?_eq_some_iff.mp ek
          rw [List.drop_eq_getElem_cons lt, e]
        rw [more, List.findSome?_cons] at e6
        have ea6 := s6 _ _ (s05 _ _ ea)
        refine ⟨_, rfl, a, _, _, rfl, .inl rfl, ea6, fun J2 wk2 => for_it wk2 (fun m σ H' => Same H5 H' ∧ rowAt rows (keyL kd) = rowAt (rows.drop m) (keyL kd) ∧ ∃ w4 : Option V, σ = [some (.ref a), some (.int i), some (.int j), some x, w4]) ⟨s6, rfl, w4, rfl⟩ (fun m σ H' _ z => z.1 _ _ (s05 _ _ ea)) ?_ ?_⟩
        · rintro m y σ G G' hm ⟨s7, e7, w4, rfl⟩ ⟨rfl, ey⟩
          obtain ⟨r', er', dr⟩ := dx.get ey
          have mr := List.mem_of_getElem? er'
          have rr := rs r' mr
          have more2 : rows.drop m = r' :: rows.drop (m + 1) := by
            obtain ⟨lt, e⟩ := List.getElem?_eq_some_iff.mp er'
            rw [List.drop_eq_getElem_cons lt, e]
          have drG := dr.fr (Fm.of (s05.trans s7))
          obtain ⟨p, ys, rfl, dy, hp, _, _⟩ := drG.tupOf rr.1
          obtain ⟨x0, x1, x2, x3, c0, c1, c2, c3, rfl, eds, h0, h1, h2, h3⟩ := four_dt dy rr.2.1
          have q0 : itD r' 0 = c0 := by unfold itD; rw [eds]; rfl
          have q1 : itD r' 1 = c1 := by unfold itD; rw [eds]; rfl
          refine ⟨_, rfl, 2, rfl, p, _, rfl, hp, (fun h => absurd (show HT.sIx 4 4 (some 2) = 4 from h.2) (by decide)), fun t nt => ?_⟩
          have s8 : ∀ {o : HO}, Same _ (upd _ t o) := fun {o} => Same.new nt
          have dk2 : Dt Z0 _ (.ref t) (keyD r') := .tup (upd_same (o := .tup [x0, x1])) id (by
            rw [q0, q1]
            exact .cons (h0.fr (Fm.of s8)) (.cons (h1.fr (Fm.of s8)) .nil))
          refine ⟨_, rfl, keyD r', kd, Z0, Z0, dk2, (dk.fr (Fm.of s7)).fr (Fm.of s8), rr.nik.shp.ok, nk.shp.ok, _, rfl, ?_⟩
          rw [eqv_key rr nk]
          rw [more2] at e7
          unfold rowAt at e7
          rw [List.find?_cons] at e7
          by_cases c : keyL r' = keyL kd
          · refine iteP (decide_eq_true c) ?_
            rw [decide_eq_true c] at e7
            have e7 : rowAt rows (keyL kd) = some r' := e7
            rw [e7] at e6
            cases e6
            exact ⟨_, rfl, q _ _ ((s05.trans s7).trans s8) (drG.fr (Fm.of s8)) mr⟩
          · refine iteN (by rw [decide_eq_false c]; decide) ?_
            rw [decide_eq_false c] at e7
            exact ⟨s7.trans s8, e7, _, rfl⟩
        · rintro σ G ⟨s7, e7, w4, rfl⟩
          rw [dx.len, List.drop_length] at e7
          rw [e7] at e6
          exact ⟨s7, e6, _, _, rfl⟩
      · rintro σ H6 ⟨s6, e6, w3, w4, rfl⟩
        rw [show ([V.ref k1, V.ref k2, V.ref k3, V.ref k4].length) = KD.length from lK.symm, List.drop_length] at e6
        cases e6
end
section
variable {P : Program} {w : World} {K : PySem.W.Frag} {mg : Str → Option Value} {base : Heap} {aR CP CU CS CN : Addr}
/-- own __getitem__ -/
def OwnIx (P : Program) (w : World) (K : PySem.W.Frag) (mg : Str → Option Value) (base : Heap) (C : Addr) (k : Nat) (ps : List Str) (sp : Sp) : Prop := ∃ f fd, PySem.W.findIn K (.ref C) "__getitem__" = some (some (.ref f)) ∧ PySem.W.fnIn K f = true ∧ PySem.W.isFn K (.ref f) = true ∧ Binds K fd ps [] ∧ FnOk P w K mg base (L2.CX P w) k f fd ps sp
theorem pe_ixO {X : Cx} {C : Addr} {k : Nat} {ps : List Str} {sp : Sp} {E : XK} {a b : Expr} {ta tb : TE} {pos : Pos} (ha : PE X a ta) (hb : PE X b tb) (m : OwnIx X.prog X.w X.K X.mg X.base C k ps sp) (hr : Room (k + 1) X.A) (hx : Passes (L2.CX X.prog X.w) X E)
    (hsl : ∀ v u : Value, subscripted b true v u = runValue (.builtin "lifetime.subscript" ⟨[v, u], []⟩) := by intro _ _; with_unfolding_all rfl) : PE X (.Subscript a b pos) (tOp (rIxOwn C sp E) ta tb) := by
  obtain ⟨f, fd, h1, h2, h3, h4, F⟩ := m
  exact pe_ixOwn ha hb F hr h4 hx h1 h2 h3 hsl
theorem rowFor_some {rs : List PyData} {i j : Int} (h : ∃ r, rowAt rs [.none, .none] = some r) : ∃ r, rowFor rs i j = some r := by
  obtain ⟨r, e⟩ := h
  unfold rowFor
  rw [e]
  cases rowAt rs [.num i, .num j] <;> cases rowAt rs [.none, .num j] <;> cases rowAt rs [.num i, .none] <;> exact ⟨_, rfl⟩
abbrev s__law_rows_right : Stmt := top 61
abbrev N__law_rows_right : List Str := ["_law_one", "_law_parts_here", "_law_size", "_law_name", "_law_rule", "_law_rows_here", "_law_sign", "_law_part"]
theorem sc__law_rows_right : FnScope N__law_rows_right ["_law_one", "_law_parts_here"] (defScope s__law_rows_right) := ⟨rfl, rfl, rfl, by decide +kernel, rfl, by decide +kernel, by decide +kernel⟩
def spRowsRight (P : Program) (w : World) (CP : Addr) : Sp := fun vs H Q _ => ∃ p v b d1 modes ends d4 r1 r4, vs = [.ref p, v] ∧ ProgOk P w CP H p b d1 (.list modes) (.list ends) d4 ∧ Dt Z0 H v (.list [.int b, r1, .list modes, .list ends, r4]) ∧ (∀ m ∈ modes, ∃ z r rows, m = .tuple [.str z, .str r, .list rows]) ∧ ∀ H', Same H H' → Q (.bl true) H'
theorem ok__law_rows_right (h : Has K mg "_law_rows_right" s__law_rows_right ["_law_one", "_law_parts_here"]) (T : Txt K mg aR) (mIx : OwnIx P w K mg base CP 4 ["self", "at"] (spPGet P w CP CU CS CN)) (O__law_line : Ok P w K mg base 1 "_law_line" ["_law_rows_here", "_law_sign", "_law_part"] spLine) : Ok P w K mg base 6 "_law_rows_right" ["_law_one", "_law_parts_here"] (spRowsRight P w CP) := by
  obtain ⟨f, fd, g, b, F⟩ := h
  refine ⟨f, fd, g, F.kp, b, F.ok sc__law_rows_right (fun vs H Q E h => ?_) (fun cdv A outer s H vs Q E hr h => ?_)⟩
  · obtain ⟨p, v, b1, d1, modes, ends, d4, r1, r4, rfl, _⟩ := h
    rfl
  · obtain ⟨p, v, b1, d1, modes, ends, d4, r1, r4, rfl, PK, dv, mk, q⟩ := h
    refine ⟨_, (pss_cons (ps_set (i := 2) sc__law_rows_right.nd rfl (.inl rfl) (pe_callB call_abs (by rfl) T.abs bb_abs (pa_cons (pe_ix ixl (pv 1) pe_int (fun _ _ => rfl)) pa_nil)))
      (pss_cons (ps_for PassesOwn.never rfl (pi_seq (pe_ix ixl (pv 1) pe_int (fun _ _ => rfl))) (pgT (n := 3) (by rfl) (pgs_cons (pg_name (i := 3) sc__law_rows_right.nd rfl (.inl rfl)) (pgs_cons (pg_name (i := 4) sc__law_rows_right.nd rfl (.inl rfl)) (pgs_cons (pg_name (i := 5) sc__law_rows_right.nd rfl (.inl rfl)) pgs_nil))))
        (pss_one (ps_for PassesOwn.never rfl (pi_seq (pe_lst (pa_cons (pe_un un_neg pe_int) (pa_cons pe_int (pa_cons pe_int pa_nil))))) (pg_name (i := 6) sc__law_rows_right.nd rfl (.inl rfl))
          (pss_one (ps_for PassesOwn.never rfl (pi_range2 (by rfl) T.range (pa_cons (pe_op op_sub pe_int (pv 2)) (pa_cons (pv 2) pa_nil))) (pg_name (i := 7) sc__law_rows_right.nd rfl (.inl rfl))
            (pss_one (ps_if (pt_cmpR (neD hr.units) (pe_ixO (pv 0) (pe_tup (pa_cons (pv 3) (pa_cons (pv 6) (pa_cons (pv 7) pa_nil)))) mIx (hr.mono (by decide)) passL) (pe_slice slt (pe_cO O__law_line (hr.mono (by decide)) pass0 rfl (pa_cons (pv 5) (pa_cons (pv 6) (pa_cons (pv 7) pa_nil)))) (po_some pe_int) po_none) (nomark _))
              (pss_one (ps_ret pe_bl))
              pss_nil)))))))
      (pss_one (ps_ret pe_bl)))), ?_⟩
    obtain ⟨a, v1, am, xm, ae, xe, v4, rfl, ea, _, g1, em, nm, dm, ee, ne, de, g4⟩ := parts_inv dv
    obtain ⟨⟨dx, vr, vm, ve, va, vt, e, _⟩, PO, z1, z2⟩ := id PK
    have hb : 2 ≤ (if b1 < 0 then -b1 else b1) ∧ (if b1 < 0 then -b1 else b1) ≤ 10 := by
      have h : (betw (.int b1) (-10) 10 && decide (2 ≤ b1.natAbs)) = true := PO.base
      obtain ⟨h1, h2⟩ := Bool.and_eq_true_iff.mp h
      have h1 : (decide (-10 ≤ b1) && decide (b1 ≤ 10)) = true := h1
      simp only [Bool.and_eq_true, decide_eq_true_eq] at h1 h2
      split <;> omega
    refine ⟨_, rfl, a, _, _, _, rfl, rfl, ea, atI0, _, rfl, ?_⟩
    have esz : sizeD (.int b1) = (if b1 < 0 then -b1 else b1) := rfl
    show tSeq _ _ _ (List.set _ 2 (some (.int (if b1 < 0 then -b1 else b1)))) H
    generalize hsz : (if b1 < 0 then -b1 else b1) = size at hb esz ⊢
    obtain ⟨hb0, hb1⟩ := hb
    refine ⟨_, rfl, a, _, _, _, rfl, rfl, ea, atI_nat (j := 2) rfl, am, xm, _, rfl, .inl rfl, em, fun J wk => for_it wk (fun n σ H' => Same H H' ∧ ∃ w3 w4 w5 w6 w7 : Option V, σ = [some (.ref p), some (.ref a), some (.int size), w3, w4, w5, w6, w7]) ⟨Same.refl _, none, none, none, none, none, rfl⟩ (fun n σ H' _ z => z.1 _ _ em) ?_ ?_⟩
    · rintro n x σ H1 H1' hn ⟨s1, w3, w4, w5, w6, w7, rfl⟩ ⟨rfl, ex⟩
      obtain ⟨md, emd, dmd⟩ := dm.get ex
      have mm := List.mem_of_getElem? emd
      obtain ⟨z, ru, rows, rfl⟩ := mk md mm
      have dm1 := dmd.fr (Fm.of s1)
      obtain ⟨pm, x0, x1, x2, rfl, hpm, c0, c1, c2⟩ := dm1.three
      cases c0
      cases c1
      refine ⟨pm, _, rfl, hpm, rfl, _, _, rfl, _, _, rfl, _, _, rfl, rfl, ?_⟩
      refine ⟨1, rfl, by show 3 ≤ sizeLine; decide, fun l hl => ?_⟩
      have s2 : Same H1' (upd H1' l (.lst [.int (-1), .int 0, .int 1])) := Same.new hl
      have y2 : (upd H1' l (.lst [.int (-1), .int 0, .int 1])) l = some (.lst [.int (-1), .int 0, .int 1]) := upd_same
      generalize upd H1' l (.lst [.int (-1), .int 0, .int 1]) = H2 at s2 y2 ⊢
      have s02 := s1.trans s2
      refine ⟨l, _, _, rfl, .inl rfl, y2, fun J2 wk2 => for_it wk2 (fun n σ H' => Same H2 H' ∧ ∃ w6 w7 : Option V, σ = [some (.ref p), some (.ref a), some (.int size), some (.str z), some (.str ru), some x2, w6, w7]) ⟨Same.refl _, w6, w7, rfl⟩ (fun n σ H' _ z => z.1 _ _ y2) ?_ ?_⟩
      · rintro n2 y σ H3 H3' hn2 ⟨s3, w6, w7, rfl⟩ ⟨rfl, ey⟩
        obtain ⟨i, rfl, i0, i1⟩ : ∃ i : Int, y = .int i ∧ -1 ≤ i ∧ i ≤ 1 := by
          have := List.mem_of_getElem? ey
          simp only [List.mem_cons, List.not_mem_nil, or_false] at this
          rcases this with rfl | rfl | rfl <;> exact ⟨_, rfl, by decide, by decide⟩
        refine ⟨_, rfl, _, _, rfl, rfl, _, rfl, 1 - size, size, rfl, ⟨by omega, by omega, by omega, by omega⟩, for_range (lo := 1 - size) (n := (size - (1 - size)).toNat) (fun n σ H' => Same H2 H' ∧ ∃ w7 : Option V, σ = [some (.ref p), some (.ref a), some (.int size), some (.str z), some (.str ru), some x2, some (.int i), w7]) ⟨s3, w7, rfl⟩ ?_ ?_⟩
        · rintro n3 σ H4 hn3 ⟨s4, w7, rfl⟩
          have s04 := s02.trans s4
          have PK4 := PK.same s04
          have jb : 1 - size ≤ 1 - size + (n3 : Int) ∧ 1 - size + (n3 : Int) ≤ size - 1 := by omega
          generalize 1 - size + (n3 : Int) = j at jb ⊢
          refine ⟨_, rfl, _, rfl, _, rfl, _, rfl, by show 3 ≤ sizeLine; decide, fun t nt => ?_⟩
          have s5 : Same H4 (upd H4 t (.tup [.str z, .int i, .int j])) := Same.new nt
          have y5 : (upd H4 t (.tup [.str z, .int i, .int j])) t = some (.tup [.str z, .int i, .int j]) := upd_same
          generalize upd H4 t (.tup [.str z, .int i, .int j]) = H5 at s5 y5 ⊢
          have s05 := s04.trans s5
          have nme : modeOf modes z = some (.tuple [.str z, .str ru, .list rows]) := modeOf_self (m := .tuple [.str z, .str ru, .list rows]) PO.names mm
          obtain ⟨row, er⟩ := rowFor_some (i := i) (j := j) (row_last (rowsErr_none PO.rows _ mm))
          have rs := (PO.row mm).1
          have sh := PO.rowShp mm
          refine ⟨p, dx, _, rfl, s05 _ _ e, p, t, .str z, .int i, .int j, .str z, .int i, .int j, b1, d1, .list modes, .list ends, d4, rfl, y5, .str _, .int _, .int _, PK.same s05, fun s' md' i' j' row' es em' ei ej er' u H6 s6 du => ?_, fun hn => absurd (hn _ rfl) (by rw [show itemsD (.list modes) = modes from rfl, nme]; simp), fun hn => ?_, fun hn => ?_⟩
          · cases es
            cases ei
            cases ej
            rw [show itemsD (.list modes) = modes from rfl, nme] at em'
            cases em'
            have er2 : rowFor rows i j = some row := er
            have er' : rowFor rows i j = some row' := er'
            rw [er2] at er'
            cases er'
            have s06 := s05.trans s6
            have s26 := (s4.trans s5).trans s6
            have c26 := (c2.fr (Fm.of s2)).fr (Fm.of s26)
            refine ⟨_, rfl, _, rfl, _, rfl, x2, i, j, rows, row, rfl, c26, rs, er2, fun u2 H7 s7 du2 mr => ?_⟩
            have rr := rs row mr
            obtain ⟨pr, ys, rfl, dy, hp, _, _⟩ := du2.tupOf rr.1
            obtain ⟨y0, y1, y2', y3, f0, f1, f2, f3, rfl, eds, h0, h1, h2, h3⟩ := four_dt dy rr.2.1
            have q2 : itD row 2 = f2 := by unfold itD; rw [eds]; rfl
            have q3 : itD row 3 = f3 := by unfold itD; rw [eds]; rfl
            refine ⟨2, rfl, pr, _, rfl, hp, (fun h => absurd (show HT.sIx 4 0 (some 2) = 0 from h.1) (by decide)), fun t2 nt2 => ?_⟩
            have s8 : Same H7 (upd H7 t2 (.tup (cutV [y0, y1, y2', y3] (some 2) none))) := Same.new nt2
            have y8 : (upd H7 t2 (.tup (cutV [y0, y1, y2', y3] (some 2) none))) t2 = some (.tup [y2', y3]) := by
              rw [upd_same]
              exact congrArg (fun l => some (HO.tup l)) (cut_from 2)
            have dk2 : Dt Z0 (upd H7 t2 (.tup (cutV [y0, y1, y2', y3] (some 2) none))) (.ref t2) (valD row) := .tup y8 id (by
              rw [q2, q3]
              exact .cons (h2.fr (Fm.of s8)) (.cons (h3.fr (Fm.of s8)) .nil))
            refine ⟨valD row, valD row, Z0, Z0, du.fr (Fm.of (s7.trans s8)), dk2, sh row mr, sh row mr, _, rfl, ?_⟩
            rw [PySem.SeqAt.eqv_refl _ (SeqAt.canLay_of_shaped (sh row mr))]
            exact iteN (by decide) ⟨(s26.trans s7).trans s8, _, rfl⟩
          · have : (decide (-1 ≤ i) && decide (i ≤ 1)) = false := hn
            rw [decide_eq_true i0, decide_eq_true i1] at this
            cases this
          · have : (decide (1 - (if b1 < 0 then -b1 else b1) ≤ j) && decide (j ≤ (if b1 < 0 then -b1 else b1) - 1)) = false := hn
            rw [hsz, decide_eq_true jb.1, decide_eq_true jb.2] at this
            cases this
        · rintro σ H4 ⟨s4, w7, rfl⟩
          exact ⟨s4, _, _, rfl⟩
      · rintro σ H3 ⟨s3, w6, w7, rfl⟩
        exact ⟨s02.trans s3, _, _, _, _, _, rfl⟩
    · rintro σ H1 ⟨s1, w3, w4, w5, w6, w7, rfl⟩
      exact q H1 s1
end
section
variable {P : Program} {w : World} {K : PySem.W.Frag} {mg : Str → Option Value} {base : Heap} {aR CP CU CS CN : Addr}
theorem row_is {r : PyData} (h : RowS r) : r = .tuple [itD r 0, itD r 1, itD r 2, itD r 3] := by
  have e := items_of h.2.1
  rw [show (List.range 4).map (itD r) = [itD r 0, itD r 1, itD r 2, itD r 3] from rfl] at e
  rw [← e]
  exact isTup_eq h.1
theorem eqv_rowk {z r : PyData} (h : RowS z) (g : RowS r) (e : PyData.eqv z r = true) : keyL z = keyL r := by
  rw [row_is h, row_is g] at e
  simp only [PyData.eqv, PyData.eqvAll, Bool.and_eq_true] at e
  obtain ⟨a, b, _⟩ := e
  unfold keyL
  rw [eqv_ni h.2.2.1 g.2.2.1 a, eqv_ni h.2.2.2 g.2.2.2 b]
theorem fits_key {o row : PyData} : fitsD (itD row 0) (itD row 1) o = decide (keyL o = keyL row) := by
  unfold fitsD keyL
  rw [Bool.eq_iff_iff, Bool.and_eq_true, decide_eq_true_eq, decide_eq_true_eq, decide_eq_true_eq]
  constructor
  · rintro ⟨a, b⟩
    rw [a, b]
  · intro h
    injection h with a h
    injection h with b _
    exact ⟨a, b⟩
theorem set_in {row : PyData} : ∀ {rows : List PyData}, (rows.map keyL).Nodup → keyL row ∈ rows.map keyL → setRow row rows = rows.map (fun o => if keyL o = keyL row then row else o) ∧ row ∈ rows.map (fun o => if keyL o = keyL row then row else o)
  | [], _, m => by cases m
  | o :: rows, n, m => by
    rw [List.map_cons, List.nodup_cons] at n
    rw [setRow, fits_key]
    by_cases c : keyL o = keyL row
    · rw [if_pos (decide_eq_true c), List.map_cons, if_pos c]
      refine ⟨?_, List.mem_cons_self⟩
      congr 1
      refine (List.map_id' rows).symm.trans (List.map_congr_left fun x hx => ?_)
      rw [if_neg fun e => n.1 (by rw [c, ← e]; exact List.mem_map.mpr ⟨x, hx, rfl⟩)]
    · rw [if_neg (by simpa using c), List.map_cons, if_neg c]
      rw [List.map_cons] at m
      have m' := (List.mem_cons.mp m).resolve_left fun e => c e.symm
      obtain ⟨a, b⟩ := set_in n.2 m'
      exact ⟨by rw [a], List.mem_cons_of_mem _ b⟩
theorem set_out {row : PyData} : ∀ {rows : List PyData}, keyL row ∉ rows.map keyL → setRow row rows = rows ++ [row] ∧ rows.map (fun o => if keyL o = keyL row then row else o) = rows
  | [], _ => ⟨rfl, rfl⟩
  | o :: rows, m => by
    rw [List.map_cons] at m
    have c : keyL o ≠ keyL row := fun e => m (by rw [e]; exact List.mem_cons_self)
    obtain ⟨a, b⟩ := set_out (row := row) (rows := rows) fun h => m (List.mem_cons_of_mem _ h)
    rw [setRow, fits_key, if_neg (by simpa using c), a, List.map_cons, if_neg c, b]
    exact ⟨rfl, rfl⟩
theorem other_eq {rows : List PyData} {row : PyData} (h : ∀ r ∈ rows, RowS r) (g : RowS row) (n : (rows.map keyL).Nodup) (lay : row.canLay0 = true) :
    (if (rows.map fun o => if keyL o = keyL row then row else o).any (fun z => PyData.eqv z row) = true then rows.map fun o => if keyL o = keyL row then row else o else (rows.map fun o => if keyL o = keyL row then row else o) ++ [row]) = setRow row rows := by
  by_cases m : keyL row ∈ rows.map keyL
  · obtain ⟨a, b⟩ := set_in n m
    rw [if_pos ((List.any_eq_true (p := fun z => PyData.eqv z row)).mpr ⟨row, b, PySem.SeqAt.eqv_refl _ lay⟩), a]
  · obtain ⟨a, b⟩ := set_out m
    rw [b, if_neg, a]
    intro e
    obtain ⟨z, hz, ez⟩ := List.any_eq_true.mp e
    exact m (List.mem_map.mpr ⟨z, hz, eqv_rowk (h z hz) g ez⟩)
abbrev s__law_other_row : Stmt := top 62
abbrev N__law_other_row : List Str := ["_law_rows_here", "_law_row", "_law_found", "_law_old"]
theorem sc__law_other_row : FnScope N__law_other_row ["_law_rows_here", "_law_row"] (defScope s__law_other_row) := ⟨rfl, rfl, rfl, by decide +kernel, rfl, by decide +kernel, by decide +kernel⟩
def spOther : Sp := fun vs H Q _ => ∃ v u rows row, vs = [v, u] ∧ Dt Z0 H v (.list rows) ∧ Dt Z0 H u row ∧ (∀ r ∈ rows, RowS r ∧ Shp 4 r) ∧ RowS row ∧ Shp 4 row ∧ (rows.map keyL).Nodup ∧ rows.length ≤ 900 ∧ noLs rows = true ∧ noL row = true ∧ ∀ x H', Same H H' → Dt Z0 H' x (.list (setRow row rows)) → (∃ a, x = .ref a ∧ H a = none) → Q x H'
theorem ok__law_other_row (h : Has K mg "_law_other_row" s__law_other_row ["_law_rows_here", "_law_row"]) : Ok P w K mg base 1 "_law_other_row" ["_law_rows_here", "_law_row"] spOther := by
  obtain ⟨f, fd, g, b, F⟩ := h
  refine ⟨f, fd, g, F.kp, b, F.ok sc__law_other_row (fun vs H Q E h => ?_) (fun cdv A outer s H vs Q E hr h => ?_)⟩
  · obtain ⟨v, u, rows, row, rfl, _⟩ := h
    rfl
  · obtain ⟨v, u, rows, row, rfl, dv, du, rs, rr, shr, nd, few, nl, nlr, q⟩ := h
    refine ⟨_, (pss_cons (ps_setLc (i := 2) (own := [("_law_old", 3)]) (g := (gName 3)) (tt := tYes) rfl sc__law_other_row.nd rfl rfl (sw_true rfl rfl rfl (by decide +kernel)) (pi_seq (pv 0)) (blkOk_by (N := N__law_other_row) (sc := defScope s__law_other_row) (by decide +kernel)) (fun _ _ _ _ _ => (pg_name (i := 3) sc__law_other_row.nd rfl (by first | exact Or.inl rfl | exact Or.inr rfl))) (fun _ _ _ _ _ => pts_nil) (fun _ _ _ _ _ => (pe_ifExp (pt_cmpR (by exact eqD hr.units) (pe_slice slt (pv 3) po_none (po_some pe_int)) (pe_slice slt (pv 1) po_none (po_some pe_int)) (nomark _)) (pv 1) (pv 3))))
      (pss_one (ps_ret (pe_ifExp (pt_cmpR (op_inD (room65 hr)) (pv 1) (pv 2) (by rfl)) (pv 2) (pe_op op_cat (pv 2) (pe_lst (pa_cons (pv 1) pa_nil))))))), ?_⟩
    cases dv with
    | lst ea na dx =>
      rename_i a xs
      have lx : xs.length = rows.length := dx.len
      refine ⟨_, rfl, a, _, _, rfl, .inl rfl, ea, fun J wk D hD => ?_⟩
      refine lc_dat wk Z0 (fun _ => True) (rows.map fun o => if keyL o = keyL row then row else o) (by simp [lx]) hD id True.intro (fun _ _ _ _ => True.intro) (by rw [lx]; exact Nat.lt_of_le_of_lt few (by decide)) (fun G f => f _ _ ea id) ?_ ?_
      · intro i x dd G0 G Qk ed f _ ne y z
        obtain ⟨rfl, ex⟩ := y
        rw [List.getElem?_map] at ed
        obtain ⟨o, e3, rfl⟩ := Option.map_eq_some_iff.mp ed
        obtain ⟨d', e4, dt⟩ := ((DtAll.off' hD dx).fr (Fm.zu f)).get ex
        rw [e3] at e4
        cases e4
        have dr := (du.off hD).fr (Fm.zu f)
        obtain ⟨ro, so⟩ := rs o (List.mem_of_getElem? e3)
        obtain ⟨p1, ys, rfl, dy, hp1, _, _⟩ := dt.tupOf ro.1
        obtain ⟨x0, x1, x2, x3, c0, c1, c2, c3, rfl, eds, h0, h1, h2, h3⟩ := four_dt dy ro.2.1
        obtain ⟨p2, ys2, rfl, dy2, hp2, _, _⟩ := dr.tupOf rr.1
        obtain ⟨y0, y1, y2, y3, b0, b1, b2, b3, rfl, eds2, g0, g1, g2, g3⟩ := four_dt dy2 rr.2.1
        have q0 : itD o 0 = c0 := by unfold itD; rw [eds]; rfl
        have q1 : itD o 1 = c1 := by unfold itD; rw [eds]; rfl
        have r0 : itD row 0 = b0 := by unfold itD; rw [eds2]; rfl
        have r1 : itD row 1 = b1 := by unfold itD; rw [eds2]; rfl
        refine ⟨rfl, ?_⟩
        refine ⟨_, rfl, 2, rfl, p1, _, rfl, hp1, (fun h => absurd (show HT.sIx 4 4 (some 2) = 4 from h.2) (by decide)), fun t1 nt1 => ?_⟩
        have s1 : Same G (upd G t1 (.tup (cutV [x0, x1, x2, x3] none (some 2)))) := Same.new nt1
        have w1 : (upd G t1 (.tup (cutV [x0, x1, x2, x3] none (some 2)))) t1 = some (.tup [x0, x1]) := by
          rw [upd_same]
          exact congrArg (fun l => some (HO.tup l)) (cut_to 2)
        generalize upd G t1 (HO.tup (cutV [x0, x1, x2, x3] none (some 2))) = G1 at s1 w1 ⊢
        refine ⟨_, rfl, 2, rfl, p2, _, rfl, s1 _ _ hp2, (fun h => absurd (show HT.sIx 4 4 (some 2) = 4 from h.2) (by decide)), fun t2 nt2 => ?_⟩
        have s2 : Same G1 (upd G1 t2 (.tup (cutV [y0, y1, y2, y3] none (some 2)))) := Same.new nt2
        have w2 : (upd G1 t2 (.tup (cutV [y0, y1, y2, y3] none (some 2)))) t2 = some (.tup [y0, y1]) := by
          rw [upd_same]
          exact congrArg (fun l => some (HO.tup l)) (cut_to 2)
        generalize upd G1 t2 (HO.tup (cutV [y0, y1, y2, y3] none (some 2))) = G2 at s2 w2 ⊢
        have s12 := Fm.of (Z := Z0) (s1.trans s2)
        have k1 : Dt Z0 G2 (.ref t1) (keyD o) := .tup (s2 _ _ w1) id (q0 ▸ q1 ▸ .cons (h0.z0.fr s12) (.cons (h1.z0.fr s12) .nil))
        have k2 : Dt Z0 G2 (.ref t2) (keyD row) := .tup w2 id (r0 ▸ r1 ▸ .cons (g0.z0.fr s12) (.cons (g1.z0.fr s12) .nil))
        refine ⟨keyD o, keyD row, Z0, Z0, k1, k2, ro.nik.shp.ok, rr.nik.shp.ok, _, rfl, ?_⟩
        rw [eqv_key ro rr.nik, show keyL (keyD row) = keyL row from rfl]
        by_cases c : keyL o = keyL row
        · refine iteP (decide_eq_true c) ⟨_, rfl, z _ _ (Fm.of (s1.trans s2)) True.intro ?_⟩
          rw [if_pos c]
          exact (dr.fr (Fm.of s1)).fr (Fm.of s2)
        · refine iteN (by simpa using c) ⟨_, rfl, z _ _ (Fm.of (s1.trans s2)) True.intro ?_⟩
          rw [if_neg c]
          exact (dt.fr (Fm.of s1)).fr (Fm.of s2)
      · intro G xs5 f _ eD dD
        have s1 : Same H G := f.same
        have du1 := du.fr (Fm.of s1)
        have dF : Dt Z0 G (.ref D) (.list (rows.map fun o => if keyL o = keyL row then row else o)) := .lst eD id (dD.mono' fun _ m => m.elim)
        have shf : ∀ o ∈ rows.map (fun o => if keyL o = keyL row then row else o), Shp 4 o := fun o ho => by
          obtain ⟨o', h', rfl⟩ := List.mem_map.mp ho
          split
          · exact shr
          · exact (rs o' h').2
        have fin := other_eq (fun r hr => (rs r hr).1) rr nd shr.1
        refine ⟨_, rfl, _, rfl, row, _, du1.dp, dF.dp, shr.ok, (shp_list shf).ok, _, rfl, ?_⟩
        by_cases c : (rows.map fun o => if keyL o = keyL row then row else o).any (fun z => PyData.eqv z row) = true
        · rw [if_pos c] at fin
          exact iteP c ⟨_, rfl, q _ _ s1 (fin ▸ dF) ⟨D, rfl, hD⟩⟩
        · rw [if_neg c] at fin
          refine iteN c ⟨_, rfl, _, rfl, by show 1 ≤ sizeLine; decide, fun l hl => ?_⟩
          have s2 : Same G (upd G l (.lst [u])) := Same.new hl
          have y2 : (upd G l (.lst [u])) l = some (.lst [u]) := upd_same
          have eD2 := s2 _ _ eD
          generalize upd G l (.lst [u]) = G2 at s2 y2 eD2 ⊢
          have s12 := s1.trans s2
          refine ⟨D, l, _, _, rfl, rfl, eD2, y2, ?_, fun r nr => ?_⟩
          · rw [dD.len, List.length_map]
            exact Nat.le_trans (Nat.add_le_add_right few 1) (show 901 ≤ sizeLine by decide)
          · have s3 : Same G2 (upd G2 r (.lst (xs5 ++ [u]))) := Same.new nr
            refine q _ _ (s12.trans s3) ?_ ⟨r, rfl, s12.free nr⟩
            rw [← fin]
            exact .lst upd_same id (DtAll.append (((dD.mono' fun _ m => m.elim).fr (Fm.of s2)).fr (Fm.of s3)) (.cons ((du1.fr (Fm.of s2)).fr (Fm.of s3)) .nil))
end
/-! ### changes: the mathematics -/
section
variable {P : Program} {w : World} {K : PySem.W.Frag} {mg : Str → Option Value} {base : Heap} {aR CP CU CS CN : Addr}
theorem told_due {b : Int} {d1 d2 d3 d4 d1' : PyData} {ms ends' : List PyData} {f g : PyData → PyData} (h1 : .list (itemsD d1) = d1') (h3 : itemsD d3 = ends') (e : itemsD d2 = ms.map f)
    (h : ∀ m ∈ ms, itD (g m) 0 = .str (nmOf (f m)) ∧ itD (f m) 1 = itD (g m) 1 ∧ .list (itemsD (itD (f m) 2)) = itD (g m) 2) : toldD b d1 d2 d3 d4 = dueD b d1' (ms.map g) ends' d4 := by
  unfold toldD dueD
  rw [h1, h3, e]
  have a1 : ((ms.map f).map nmOf).map PyData.str = (ms.map g).map (itD · 0) := by
    rw [List.map_map, List.map_map, List.map_map]
    exact List.map_congr_left fun m hm => (h m hm).1.symm
  have a2 : (ms.map f).map (fun md => PyData.tuple [itD md 1, .list (itemsD (itD md 2))]) = (ms.map g).map fun md => PyData.tuple [itD md 1, itD md 2] := by
    rw [List.map_map, List.map_map]
    refine List.map_congr_left fun m hm => ?_
    obtain ⟨_, x, y⟩ := h m hm
    show PyData.tuple [itD (f m) 1, .list (itemsD (itD (f m) 2))] = PyData.tuple [itD (g m) 1, itD (g m) 2]
    rw [x, y]
  rw [a1, a2]
theorem shp_due {b : Int} {d1 d4 : PyData} {modes ends : List PyData} (h1 : Shp 5 d1) (h4 : Shp 5 d4) (he : ∀ e ∈ ends, Shp 4 e) (hm : ∀ m ∈ modes, Shp 4 (itD m 0) ∧ Shp 5 (itD m 1) ∧ Shp 5 (itD m 2)) : Shp 7 (dueD b d1 modes ends d4) := by
  unfold dueD
  refine shp_list fun x hx => ?_
  rcases List.mem_append.mp hx with hx | hx
  · have hx : x = .int b ∨ x = .int (if b < 0 then -b else b) ∨ x = d1 ∨ x = .list (modes.map (itD · 0)) ∨ x = .tuple ends ∨ x = d4 := by simpa using hx
    rcases hx with rfl | rfl | rfl | rfl | rfl | rfl
    · exact shp_int.mono (by decide)
    · exact shp_int.mono (by decide)
    · exact h1.mono (by decide)
    · exact (shp_list fun y hy => by
        obtain ⟨m, hm', rfl⟩ := List.mem_map.mp hy
        exact (hm m hm').1).mono (by decide : 4 + 1 ≤ 6)
    · exact (shp_tup fun y hy => he y hy).mono (by decide : 4 + 1 ≤ 6)
    · exact h4.mono (by decide)
  · obtain ⟨m, hm', rfl⟩ := List.mem_map.mp hx
    obtain ⟨_, a, b⟩ := hm m hm'
    exact shp_tup (n := 5) fun y hy => by
      have hy : y = itD m 1 ∨ y = itD m 2 := by simpa using hy
      rcases hy with rfl | rfl
      · exact a
      · exact b
theorem NI.shp0 {d : PyData} (h : NI d) : Shp 0 d := h.shp
theorem RowL.shp {size : Int} {many : Nat} {zs : List Str} {r : PyData} (h : RowL size many zs r) (sz : ∀ z ∈ zs, PyData.strOk z = true) : Shp 4 r := by
  have e := h.row
  obtain ⟨a, b, uss, t, rfl, na, nb, _, _, ht, _⟩ := h
  unfold rowD at e
  simp only [Bool.and_eq_true] at e
  obtain ⟨_, _, _, h1, h2⟩ := e
  refine shp_tup (n := 3) fun x hx => ?_
  have hx : x = a ∨ x = b ∨ x = updsD uss ∨ x = t := by simpa using hx
  rcases hx with rfl | rfl | rfl | rfl
  · exact na.shp.mono (by decide)
  · exact nb.shp.mono (by decide)
  · exact (upsD_shp h1).mono (by decide)
  · exact (thenD_shp h2 sz).mono (by decide)
theorem RowL.rs {size : Int} {many : Nat} {zs : List Str} {r : PyData} (h : RowL size many zs r) : RowS r := rowD_NI h.row
theorem ProgOk.keepL {Z : Addr → Prop} {H H' : Hp} {p : Addr} {b : Int} {d1 d2 d3 d4 : PyData} (h : ProgOk P w CP H p b d1 d2 d3 d4) (n : ∀ q, Z q → ∃ xs, H q = some (.lst xs)) (f : Fm Z H H') : ProgOk P w CP H' p b d1 d2 d3 d4 := by
  obtain ⟨⟨dx, vr, vm, ve, va, vt, e, a1, a2, a3, a4, kvs, at_k, pr⟩, PO, z1, z2⟩ := h
  have go : ∀ {q : Addr} {o : HO}, H q = some o → (∀ xs, o ≠ .lst xs) → H' q = some o := fun {q o} g k => f q o g fun z => by
    obtain ⟨xs, l⟩ := n q z
    rw [g] at l
    exact k xs (Option.some.inj l)
  have up : ∀ {v : V} {d : PyData}, noL d = true → Dt Z0 H v d → Dt Z0 H' v d := fun l d => ((d.offL n l).fr f).z0
  obtain ⟨_, _, all2⟩ := partsD_all PO.modes
  refine ⟨⟨dx, vr, vm, ve, va, vt, go e (fun _ h => by cases h), up (by unfold noL; exact PO.regsNoL) a1, up (by
    unfold noL
    refine noLs_all fun x hx => ?_
    obtain ⟨md, hm, rfl⟩ := List.mem_map.mp hx
    have mk := all2 md hm
    have h0 : noL (itD md 0) = true := by rw [modeD_name mk]; exact str_noL
    have h1 := ruleD_noL (modeD_rule mk)
    have h2 : noL (.tuple (itemsD (itD md 2))) = true := by unfold noL; exact PO.rowNoL hm
    unfold normM noL noLs noLs noLs noLs
    rw [h0, h1, h2]
    rfl) a2, up (by unfold noL; exact PO.endsNoL) a3, up PO.resNoL a4, kvs, go at_k (fun _ h => by cases h), ?_⟩, PO, z1, z2⟩
  have nol : ∀ md ∈ itemsD d2, ∀ r ∈ itemsD (itD md 2), noL (valD r) = true := fun md hm r hr => by
    have rd := (wrongRow_rows (rowsErr_none PO.rows md hm)).1 r hr
    unfold rowD at rd
    simp only [Bool.and_eq_true] at rd
    obtain ⟨_, _, _, h1, h2⟩ := rd
    have e3 : noL (itD r 3) = true := by
      revert h2
      cases itD r 3 <;> intro h2 <;> first | (simp [noL]; done) | cases h2
    unfold valD noL noLs noLs noLs
    rw [upsD_noL h1, e3]
    rfl
  refine L2.Paired.mapP (pr_mem pr) fun md kv z => ?_
  obtain ⟨⟨e1, D, e2, kbs, ⟨t1, t2⟩, p2⟩, mm, _⟩ := z
  refine ⟨e1, D, e2, kbs, ⟨go t1 (fun _ h => by cases h), fun x hx => go (t2 x hx) (fun _ h => by cases h)⟩, ?_⟩
  exact L2.Paired.mapP (pr_mem p2) fun r x z => ⟨z.1.1, up (nol md mm r z.2.1) z.1.2⟩
theorem ProgOk.keepP {H H' : Hp} {pp p : Addr} {b : Int} {d1 d2 d3 d4 : PyData} (h : ProgOk P w CP H p b d1 d2 d3 d4) (Pl : PoolAt H pp) (k : Keep pp H H') : ProgOk P w CP H' p b d1 d2 d3 d4 := h.keepL (Z := Zp pp) (fun q z => by
  obtain ⟨c, s, _, _, e⟩ := Pl
  exact ⟨_, by rw [show q = pp from z]; exact e⟩) k.fr
end
section
variable {P : Program} {w : World} {K : PySem.W.Frag} {mg : Str → Option Value} {base : Heap} {aR CP CB CG CM CI CE CR CU CS CN : Addr}
theorem ruleM_norm {md : PyData} : normM md = ruleM (itD md 1) md := rfl
theorem PartsOk.chg {b b' : Int} {d1 d2 d3 d4 d3' d4' : PyData} (h : PartsOk (.int b) d1 d2 d3 d4) (hb : baseD (.int b') = true) (hs : sizeD (.int b') = sizeD (.int b)) (he : endsD d3' (sizeD (.int b)) = true) (hr : factD d4' ((itemsD d1).length + 1) = true) : PartsOk (.int b') (.tuple (itemsD d1)) (.tuple ((itemsD d2).map normM)) d3' d4' := by
  obtain ⟨s2, m4, all2⟩ := partsD_all h.modes
  have rs := rowsErr_none h.rows
  have k := h.again (d2' := .tuple ((itemsD d2).map normM)) rfl (List.length_map _) (by
    show ((itemsD d2).map normM).map nmOf = _
    rw [List.map_map]
    exact List.map_congr_left fun m hm => (ruleM_ok (all2 m hm) (modeD_rule (all2 m hm))).2.1) (fun m hm => by
    obtain ⟨md, hm2, rfl⟩ := List.mem_map.mp hm
    exact (ruleM_ok (all2 md hm2) (modeD_rule (all2 md hm2))).1) (fun m hm => by
    obtain ⟨md, hm2, rfl⟩ := List.mem_map.mp hm
    exact rs md hm2)
  exact ⟨hb, k.regs, k.modes, by rw [hs]; exact k.rows, by rw [hs]; exact he, hr⟩
theorem eqv_str {a b : Str} : PyData.eqv (.str a) (.str b) = decide (a = b) := by
  by_cases c : a = b
  · subst c
    simp [PyData.eqv]
  · simp [PyData.eqv, c]
/-- the methods of a program that a law calls -/
structure PMeth (P : Program) (w : World) (K : PySem.W.Frag) (mg : Str → Option Value) (base : Heap) (CP CU : Addr) : Prop where
  C : PCls K mg CP
  wRule : OwnMeth P w K mg base CP 11 "with_rule" ["self", "mode", "rule"] (spPWithRule P w CP)
  under : OwnMeth P w K mg base CP 10 "under" ["self", "rule"] (spPUnder P w CP CU)
  wRow : OwnMeth P w K mg base CP 11 "with_row" ["self", "mode", "sign", "remainder", "updates", "then"] (spPWithRow P w CP)
  chg : OwnChg P w K mg base CP
abbrev s__law_changes_right : Stmt := top 63
abbrev N__law_changes_right : List Str := ["_law_pool_here", "_law_one", "_law_parts_here", "_law_names", "_law_mode", "_law_name", "_law_rule", "_law_row", "_law_modes", "_law_old", "_law_rows_here", "_law_sevens", "_law_other"]
theorem sc__law_changes_right : FnScope N__law_changes_right ["_law_pool_here", "_law_one", "_law_parts_here"] (defScope s__law_changes_right) := ⟨rfl, rfl, rfl, by decide +kernel, rfl, by decide +kernel, by decide +kernel⟩
def spChanges (P : Program) (w : World) (CP : Addr) : Sp := fun vs H Q _ => ∃ pp p v size b many zs regs modes ends goal, vs = [.ref pp, .ref p, v] ∧ PoolAt H pp ∧ Drawn size b many zs regs modes ends goal ∧ ProgOk P w CP H p b (.list regs) (.list modes) (.list ends) (.tuple goal) ∧ Dt (Zp pp) H v (.list [.int b, .list regs, .list modes, .list ends, .tuple goal]) ∧
  ∀ H', PoolAt H' pp → Keep pp H H' → Q (.bl true) H'
abbrev qCh : Str := "_law_changes_right"
/-- what stays while changed programs are asked -/
structure ChS (P : Program) (w : World) (CP : Addr) (size b1 : Int) (many : Nat) (zs : List Str) (regs modes ends goal : List PyData) (p a rt : Addr) (s' r : Str) (row : PyData) (H : Hp) : Prop where
  DR : Drawn size b1 many zs regs modes ends goal
  PK : ProgOk P w CP H p b1 (.list regs) (.list modes) (.list ends) (.tuple goal)
  dv : Dt Z0 H (.ref a) (.list [.int b1, .list regs, .list modes, .list ends, .tuple goal])
  drow : Dt Z0 H (.ref rt) row
  RL : RowL size many zs row
  hs : s' ∈ zs
  hr : r ∈ five
section
variable {size b1 : Int} {many : Nat} {zs : List Str} {regs modes ends goal : List PyData} {p a rt : Addr} {s' r : Str} {row : PyData} {H H' : Hp}
theorem ChS.same (h : ChS P w CP size b1 many zs regs modes ends goal p a rt s' r row H) (s : Same H H') : ChS P w CP size b1 many zs regs modes ends goal p a rt s' r row H' := ⟨h.DR, h.PK.same s, h.dv.fr (Fm.of s), h.drow.fr (Fm.of s), h.RL, h.hs, h.hr⟩
theorem Drawn.lz3 (DR : Drawn size b1 many zs regs modes ends goal) : zs.length ≤ 3 := by
  obtain ⟨k, e⟩ := DR.z
  rw [e, List.length_take]
  exact Nat.min_le_right _ _
theorem Drawn.sOk (DR : Drawn size b1 many zs regs modes ends goal) : ∀ z ∈ zs, PyData.strOk z = true := by
  have := DR.ok.strs
  rw [show itemsD (.list modes) = modes from rfl, DR.names] at this
  exact this
theorem Drawn.shape (DR : Drawn size b1 many zs regs modes ends goal) {m : PyData} (hm : m ∈ modes) : ∃ z r rows, m = .tuple [.str z, .str r, .list rows] ∧ r ∈ five ∧ (∀ x ∈ rows, RowL size many zs x) ∧ rows.length ≤ 4 ∧ wrongRow size many zs rows [] 0 = none ∧ z ∈ zs := by
  obtain ⟨i, ei⟩ := mem_ix hm
  obtain ⟨z, r, rows, ez, e, a, b, c, d⟩ := DR.modes i m ei
  exact ⟨z, r, rows, e, a, b, c, d, List.mem_of_getElem? ez⟩
theorem Drawn.mode (DR : Drawn size b1 many zs regs modes ends goal) {s' : Str} (hs : s' ∈ zs) : ∃ md0, modeOf modes s' = some md0 ∧ ∀ m ∈ modes, nmOf m = s' → m = md0 := by
  obtain ⟨i, ei⟩ := mem_ix hs
  rw [← DR.names, List.getElem?_map] at ei
  obtain ⟨md0, e0, rfl⟩ := Option.map_eq_some_iff.mp ei
  have nd : (modes.map nmOf).Nodup := DR.ok.names
  have e1 := modeOf_self nd (List.mem_of_getElem? e0)
  refine ⟨md0, e1, fun m hm e => ?_⟩
  have := modeOf_self nd hm
  rw [e] at this
  exact Option.some.inj (this.symm.trans e1)
theorem Drawn.shRegs (DR : Drawn size b1 many zs regs modes ends goal) : Shp 5 (.list regs) := (show Shp 2 (.list regs) from shp_list fun x hx => regD_shp ((partsD_all DR.ok.regs).2.2 x hx)).mono (by decide)
theorem Drawn.shGoal (DR : Drawn size b1 many zs regs modes ends goal) : Shp 5 (.tuple goal) := DR.ok.resShp.mono (by decide)
theorem Drawn.shEnds (DR : Drawn size b1 many zs regs modes ends goal) : ∀ e ∈ ends, Shp 4 e := fun e he => by
  obtain ⟨es, rfl, _, _⟩ := DR.ends
  obtain ⟨i, _, rfl⟩ := List.mem_map.mp he
  exact shp_int.mono (by decide)
theorem Drawn.shRows (DR : Drawn size b1 many zs regs modes ends goal) {rows : List PyData} (h : ∀ x ∈ rows, RowL size many zs x) : Shp 5 (.list rows) := shp_list fun x hx => (h x hx).shp DR.sOk
theorem Drawn.shName (DR : Drawn size b1 many zs regs modes ends goal) {z : Str} (h : z ∈ zs) : Shp 0 (.str z) := shp_str (DR.sOk z h)
theorem shRule {r : Str} (h : r ∈ five) : Shp 0 (.str r) := ruleD_shp (five_rule h)
end
end
section
variable {P : Program} {w : World} {K : PySem.W.Frag} {mg : Str → Option Value} {base : Heap} {aR CP CB CG CM CI CE CR CU CS CN : Addr} {f : Addr} {cdv : Value} {A : Around} {outer : List Env} {s : Shared} {H0 : Hp} {E : XK}
theorem flat_one {α : Type} {x : α} (n : Nat) : (List.replicate n [x]).flatten = List.replicate n x := by
  induction n with
  | zero => rfl
  | succ n ih => rw [List.replicate_succ, List.flatten_cons, ih, List.replicate_succ]; rfl
theorem DtAll.rep {Z : Addr → Prop} {H : Hp} {v : V} {d : PyData} (h : Dt Z H v d) : ∀ n, DtAll Z H (List.replicate n v) (List.replicate n d)
  | 0 => .nil
  | n + 1 => .cons h (DtAll.rep h n)
theorem sevens_fact (n : Nat) (k : Int) (hk : -1000000 ≤ k ∧ k ≤ 1000000) : factD (.tuple (List.replicate n (.int k))) n = true := by
  show (true && (decide (((List.replicate n (PyData.int k)).length : Int) = (n : Int)) && (List.replicate n (PyData.int k)).all fun x => betw x (-1000000) 1000000)) = true
  rw [List.length_replicate, decide_eq_true rfl, Bool.true_and, Bool.true_and]
  refine List.all_eq_true.mpr fun x hx => ?_
  rw [List.eq_of_mem_replicate hx]
  show (decide (-1000000 ≤ k) && decide (k ≤ 1000000)) = true
  rw [decide_eq_true hk.1, decide_eq_true hk.2]
  rfl
theorem zero_ends {d : PyData} {n : Int} (h : d = .list [.int 0] ∨ d = .tuple [.int 0]) (hn : 1 ≤ n) : endsD d n = true := by
  have e : endsD d n = (true && (((decide (1 - n ≤ 0) && decide ((0 : Int) ≤ n - 1)) && true) && true)) := by
    rcases h with rfl | rfl <;> rfl
  rw [e, decide_eq_true (by omega : 1 - n ≤ 0), decide_eq_true (by omega : (0 : Int) ≤ n - 1)]
  rfl
theorem ends_tup {es : List PyData} {n : Int} (h : endsD (.list es) n = true) : endsD (.tuple es) n = true := h
theorem size_neg {b : Int} : sizeD (.int (0 - b)) = sizeD (.int b) := by
  show (if 0 - b < 0 then -(0 - b) else 0 - b) = (if b < 0 then -b else b)
  split <;> split <;> omega
theorem base_neg {b : Int} (h : baseD (.int b) = true) : baseD (.int (0 - b)) = true := by
  have h : (betw (.int b) (-10) 10 && decide (2 ≤ b.natAbs)) = true := h
  show (betw (.int (0 - b)) (-10) 10 && decide (2 ≤ (0 - b).natAbs)) = true
  obtain ⟨h1, h2⟩ := Bool.and_eq_true_iff.mp h
  have h1 : (decide (-10 ≤ b) && decide (b ≤ 10)) = true := h1
  simp only [Bool.and_eq_true, decide_eq_true_eq] at h1 h2
  rw [Bool.and_eq_true]
  refine ⟨?_, decide_eq_true (by omega)⟩
  show (decide (-10 ≤ 0 - b) && decide (0 - b ≤ 10)) = true
  rw [decide_eq_true (by omega : -10 ≤ 0 - b), decide_eq_true (by omega : 0 - b ≤ 10)]
  rfl
theorem ch4 (hr : Room 11 (A.deeper (PyProof.Rows.envOfC "_law_changes_right" (defScope s__law_changes_right) s.heap.objs.size f cdv))) (T : Txt K mg aR) (M : PMeth P w K mg base CP CU) (O__law_told : Ok P w K mg base 5 "_law_told" ["_law_one"] (spTold P w CP)) (O__law_due : Ok P w K mg base 1 "_law_due" ["_law_parts_here"] spDue) (O__law_other_row : Ok P w K mg base 1 "_law_other_row" ["_law_rows_here", "_law_row"] spOther) :
    ∃ t, PSs (cxOf CX0 P w K mg base N__law_changes_right "_law_changes_right" (defScope s__law_changes_right) f cdv A outer s H0 E).nox ((defBody s__law_changes_right).drop 9) t ∧ ∀ {size b1 : Int} {many : Nat} {zs : List Str} {regs modes ends goal : List PyData} {pp p a rt : Addr} {s' r : Str} {row : PyData} {H : Hp} {Q : VK}, ChS P w CP size b1 many zs regs modes ends goal p a rt s' r row H → (∀ H', Same H H' → Q (.bl true) H') → ∀ v3 v4 v8 v9 v10 v11 v12 : Option V,
      t { nx := fun _ H' => Q .non H', rt := Q } [some (.ref pp), some (.ref p), some (.ref a), v3, v4, some (.str s'), some (.str r), some (.ref rt), v8, v9, v10, v11, v12] H := by
  have C := M.C
  have mWRule := M.wRule
  have mUnder := M.under
  have mWRow := M.wRow
  have mChg := M.chg
  refine ⟨_, pss_cons (ps_set (i := 11) sc__law_changes_right.nd rfl (.inl rfl) (pe_op (op_repT) (pe_tup (pa_cons pe_int pa_nil)) (pe_callB lenT (by rfl) T.len bb_len (pa_cons (pe_ix ixl (pv 2) pe_int (fun _ _ => rfl)) pa_nil))))
    (pss_cons (ps_set (i := 12) sc__law_changes_right.nd rfl (.inl rfl) (pe_chgR (pe_chgE (pe_chgB (pv 1) C.cl mChg (hr.mono (by decide)) passL (pe_op op_sub pe_int (pe_ix ixl (pv 2) pe_int (fun _ _ => rfl)))) C.cl mChg (hr.mono (by decide)) passL (pe_lst (pa_cons pe_int pa_nil))) C.cl mChg (hr.mono (by decide)) passL (pv 11)))
    (pss_one (ps_ret (pe_cmpR (eqD hr.units) (pe_cO O__law_told (hr.mono (by decide)) pass0 rfl (pa_cons (pv 12) pa_nil)) (pe_cO O__law_due (hr.mono (by decide)) pass0 rfl (pa_cons (pe_lst (pa_cons (pe_op op_sub pe_int (pe_ix ixl (pv 2) pe_int (fun _ _ => rfl))) (pa_cons (pe_ix ixl (pv 2) pe_int (fun _ _ => rfl)) (pa_cons (pe_ix ixl (pv 2) pe_int (fun _ _ => rfl)) (pa_cons (pe_lst (pa_cons pe_int pa_nil)) (pa_cons (pe_op (op_repT) (pe_tup (pa_cons pe_int pa_nil)) (pe_callB lenT (by rfl) T.len bb_len (pa_cons (pe_ix ixl (pv 2) pe_int (fun _ _ => rfl)) pa_nil))) pa_nil)))))) pa_nil)) (nomark _))))), ?_⟩
  intro size b1 many zs regs modes ends goal pp p a rt s' r row H Q S fin v3 v4 v8 v9 v10 v11 v12
  have DR := S.DR
  have PO := DR.ok
  have m1 := DR.m1
  have lnz := DR.lz3
  have lm := DR.lm
  obtain ⟨a2, v1, am, xm, ae, xe, v4', ea2, ea, _, g1, em, _, dm, ee, _, de, g4⟩ := parts_inv S.dv
  cases ea2
  obtain ⟨ag, xg, rfl, eg, _, dg⟩ := g4.tup_inv
  have lg : xg.length = many + 1 := by rw [dg.len, DR.lg]
  have lg' : ((xg.length : Nat) : Int).toNat = many + 1 := by rw [lg]; rfl
  -- sevens
  refine ⟨by show 1 ≤ sizeLine; decide, fun t1 nt1 => ?_⟩
  have s1 : Same H (upd H t1 (.tup [.int 7])) := Same.new nt1
  have y1 : (upd H t1 (.tup [.int 7])) t1 = some (.tup [.int 7]) := upd_same
  generalize upd H t1 (HO.tup [.int 7]) = H1 at s1 y1 ⊢
  have m0 := DR.m0
  refine ⟨_, rfl, a, _, _, _, rfl, rfl, s1 _ _ ea, atI_nat (j := 4) rfl, ag, xg, rfl, .inr (s1 _ _ eg), t1, _, [.int 7], rfl, rfl, SqT.of y1, by simp, by omega, by omega, by decide, fun sv hsv => ?_⟩
  have s2 : Same H1 (upd H1 sv (.tup (List.replicate ((xg.length : Nat) : Int).toNat [V.int 7]).flatten)) := Same.new hsv
  have y2 : (upd H1 sv (.tup (List.replicate ((xg.length : Nat) : Int).toNat [V.int 7]).flatten)) sv = some (.tup (List.replicate (many + 1) (.int 7))) := by
    rw [upd_same, lg', flat_one]
  show tSeq _ _ _ _ (upd H1 sv (.tup (List.replicate ((xg.length : Nat) : Int).toNat [V.int 7]).flatten))
  generalize upd H1 sv (HO.tup (List.replicate ((xg.length : Nat) : Int).toNat [V.int 7]).flatten) = H2 at s2 y2 ⊢
  have s02 := s1.trans s2
  have PK2 := S.PK.same s02
  obtain ⟨⟨dx, _, _, _, _, _, e, _⟩, _⟩ := id PK2
  -- other: the base
  refine ⟨_, rfl, p, dx, _, rfl, e, rfl, _, rfl, a, _, _, _, rfl, rfl, s02 _ _ ea, atI0, _, _, rfl, rfl, rfl, ?_⟩
  have PO1 : PartsOk (.int (0 - b1)) (.tuple regs) (.tuple (modes.map normM)) (.tuple ends) (.tuple goal) := PO.chg (base_neg PO.base) size_neg (ends_tup PO.ends) PO.result
  refine ⟨p, .int (0 - b1), .non, .non, b1, .list regs, .list modes, .list ends, .tuple goal, 0 - b1, .tuple ends, .tuple goal, rfl, PK2, .inr ⟨(fun z => by cases z), .int _⟩, .inl ⟨rfl, rfl⟩, .inl ⟨rfl, rfl⟩, PO1, fun c3 H3 hc3 s3 PK3 => ?_⟩
  obtain ⟨⟨dx3, _, _, _, _, _, e3, _⟩, _⟩ := id PK3
  -- the ends
  refine ⟨c3, dx3, _, rfl, e3, rfl, by show 1 ≤ sizeLine; decide, fun l4 hl4 => ?_⟩
  have s4 : Same H3 (upd H3 l4 (.lst [.int 0])) := Same.new hl4
  have y4 : (upd H3 l4 (.lst [.int 0])) l4 = some (.lst [.int 0]) := upd_same
  generalize upd H3 l4 (HO.lst [.int 0]) = H4 at s4 y4 ⊢
  have d4 : Dt Z0 H4 (.ref l4) (.list [.int 0]) := .lst y4 id (.cons (.int 0) .nil)
  have sz1 : 1 ≤ sizeD (.int (0 - b1)) := by
    have := DR.s0
    have e : sizeD (.int b1) = size := by
      show (if b1 < 0 then -b1 else b1) = size
      rcases DR.b with h | h <;> split <;> omega
    rw [size_neg, e]
    omega
  have PO2 : PartsOk (.int (0 - b1)) (.tuple regs) (.tuple ((modes.map normM).map normM)) (.list [.int 0]) (.tuple goal) := PO1.chg PO1.base rfl (zero_ends (.inl rfl) sz1) PO1.result
  refine ⟨rfl, c3, .non, .ref l4, .non, 0 - b1, .tuple regs, .tuple (modes.map normM), .tuple ends, .tuple goal, 0 - b1, .list [.int 0], .tuple goal, rfl, PK3.same s4, .inl ⟨rfl, rfl⟩, .inr ⟨(fun z => by cases z), d4⟩, .inl ⟨rfl, rfl⟩, PO2, fun c5 H5 hc5 s5 PK5 => ?_⟩
  obtain ⟨⟨dx5, _, _, _, _, _, e5, _⟩, _⟩ := id PK5
  -- the result
  refine ⟨c5, dx5, _, rfl, e5, rfl, _, rfl, ?_⟩
  have s35 := s4.trans s5
  have s25 := s3.trans s35
  have d7 : Dt Z0 H5 (.ref sv) (.tuple (List.replicate (many + 1) (.int 7))) := .tup (s25 _ _ y2) id (DtAll.rep (.int 7) _)
  have lr := DR.lr
  have PO3 : PartsOk (.int (0 - b1)) (.tuple regs) (.tuple (((modes.map normM).map normM).map normM)) (.tuple [.int 0]) (.tuple (List.replicate (many + 1) (.int 7))) := PO2.chg PO2.base rfl (zero_ends (.inr rfl) sz1) (by
    show factD _ (((regs.length : Nat) : Int) + 1) = true
    rw [lr]
    exact sevens_fact (many + 1) 7 (by decide))
  refine ⟨rfl, c5, .non, .non, .ref sv, 0 - b1, .tuple regs, .tuple ((modes.map normM).map normM), .list [.int 0], .tuple goal, 0 - b1, .tuple [.int 0], .tuple (List.replicate (many + 1) (.int 7)), rfl, PK5, .inl ⟨rfl, rfl⟩, .inl ⟨rfl, rfl⟩, .inr ⟨(fun z => by cases z), d7⟩, PO3, fun c6 H6 hc6 s6 PK6 => ?_⟩
  have s06 := (s02.trans s25).trans s6
  -- told, due
  refine ⟨_, rfl, c6, 0 - b1, _, _, _, _, rfl, PK6, fun u H7 s7 hu du => ?_⟩
  have s07 := s06.trans s7
  have ea7 := s07 _ _ ea
  refine ⟨_, rfl, a, _, _, _, rfl, rfl, ea7, atI0, _, _, rfl, rfl, ?_⟩
  refine ⟨_, rfl, a, _, _, _, rfl, rfl, ea7, atI1, ?_⟩
  refine ⟨_, rfl, a, _, _, _, rfl, rfl, ea7, atI_nat (j := 2) rfl, ?_⟩
  refine ⟨by show 1 ≤ sizeLine; decide, fun l8 hl8 => ?_⟩
  have s8 : Same H7 (upd H7 l8 (.lst [.int 0])) := Same.new hl8
  have y8 : (upd H7 l8 (.lst [.int 0])) l8 = some (.lst [.int 0]) := upd_same
  generalize upd H7 l8 (HO.lst [.int 0]) = H8 at s8 y8 ⊢
  refine ⟨by show 1 ≤ sizeLine; decide, fun t9 nt9 => ?_⟩
  have s9 : Same H8 (upd H8 t9 (.tup [.int 7])) := Same.new nt9
  have y9 : (upd H8 t9 (.tup [.int 7])) t9 = some (.tup [.int 7]) := upd_same
  generalize upd H8 t9 (HO.tup [.int 7]) = H9 at s9 y9 ⊢
  have s79 := s8.trans s9
  have s09 := s07.trans s79
  refine ⟨_, rfl, a, _, _, _, rfl, rfl, s09 _ _ ea, atI_nat (j := 4) rfl, ag, xg, rfl, .inr (s09 _ _ eg), t9, _, [.int 7], rfl, rfl, SqT.of y9, by simp, by omega, by omega, by decide, fun sv2 hsv2 => ?_⟩
  have s10 : Same H9 (upd H9 sv2 (.tup (List.replicate ((xg.length : Nat) : Int).toNat [V.int 7]).flatten)) := Same.new hsv2
  have y10 : (upd H9 sv2 (.tup (List.replicate ((xg.length : Nat) : Int).toNat [V.int 7]).flatten)) sv2 = some (.tup (List.replicate (many + 1) (.int 7))) := by
    rw [upd_same, lg', flat_one]
  generalize upd H9 sv2 (HO.tup (List.replicate ((xg.length : Nat) : Int).toNat [V.int 7]).flatten) = H10 at s10 y10 ⊢
  refine ⟨by show 5 ≤ sizeLine; decide, fun lx hlx => ?_⟩
  have s11 : Same H10 (upd H10 lx (.lst [.int (0 - b1), v1, .ref am, .ref l8, .ref sv2])) := Same.new hlx
  have y11 : (upd H10 lx (.lst [.int (0 - b1), v1, .ref am, .ref l8, .ref sv2])) lx = some (.lst [.int (0 - b1), v1, .ref am, .ref l8, .ref sv2]) := upd_same
  generalize upd H10 lx (HO.lst [.int (0 - b1), v1, .ref am, .ref l8, .ref sv2]) = H11 at s11 y11 ⊢
  have s711 := (s79.trans s10).trans s11
  have s011 := s07.trans s711
  have dX : Dt Z0 H11 (.ref lx) (.list [.int (0 - b1), .list regs, .list modes, .list [.int 0], .tuple (List.replicate (many + 1) (.int 7))]) := .lst y11 id (.cons (.int _) (.cons (g1.fr (Fm.of s011)) (.cons ((Dt.lst em id dm).fr (Fm.of s011)) (.cons (.lst (((s9.trans s10).trans s11) _ _ y8) id (.cons (.int 0) .nil)) (.cons (.tup (s11 _ _ y10) id (DtAll.rep (.int 7) _)) .nil)))))
  refine ⟨.ref lx, 0 - b1, .list regs, modes, [.int 0], .tuple (List.replicate (many + 1) (.int 7)), rfl, dX, by omega, fun m hm => ?_, fun u2 H12 s12 hu2 du2 => ?_⟩
  · obtain ⟨z, r, rows, rfl, _⟩ := DR.shape hm
    exact ⟨rfl, rfl⟩
  · have fin2 := fin H12 (s011.trans s12)
    have eq : toldD (0 - b1) (.tuple regs) (.tuple (((modes.map normM).map normM).map normM)) (.tuple [.int 0]) (.tuple (List.replicate (many + 1) (.int 7))) = dueD (0 - b1) (.list regs) (modes.map fun m => m) [.int 0] (.tuple (List.replicate (many + 1) (.int 7))) := told_due (ms := modes) (f := fun m => normM (normM (normM m))) (g := fun m => m) rfl rfl (by
      show ((modes.map normM).map normM).map normM = _
      rw [List.map_map, List.map_map]
      rfl) (fun m hm => by
      obtain ⟨z, r, rows, rfl, _⟩ := DR.shape hm
      exact ⟨rfl, rfl, rfl⟩)
    rw [List.map_id'] at eq
    have sh : SeqAt.shaped (dueD (0 - b1) (.list regs) modes [.int 0] (.tuple (List.replicate (many + 1) (.int 7)))) = true := (shp_due DR.shRegs (PO3.resShp.mono (by decide)) (fun e he => by
      rw [List.mem_singleton.mp he]
      exact shp_int.mono (by decide)) (fun m hm => by
      obtain ⟨z, r, rows, rfl, hr5, rl, _, _, hz⟩ := DR.shape hm
      exact ⟨(DR.shName hz).mono (by decide), (shRule hr5).mono (by decide), DR.shRows rl⟩)).ok
    have du' := du.fr (Fm.of (s711.trans s12))
    have eq' : toldD (0 - b1) (.tuple (itemsD (.tuple regs))) (.tuple ((itemsD (.tuple ((modes.map normM).map normM))).map normM)) (.tuple [.int 0]) (.tuple (List.replicate (many + 1) (.int 7))) = dueD (0 - b1) (.list regs) modes [.int 0] (.tuple (List.replicate (many + 1) (.int 7))) := eq
    rw [eq'] at du'
    refine ⟨_, _, Z0, Z0, du', du2, sh, sh, ?_⟩
    rw [PySem.SeqAt.eqv_refl _ (SeqAt.canLay_of_shaped sh)]
    exact fin2
end
section
variable {P : Program} {w : World} {K : PySem.W.Frag} {mg : Str → Option Value} {base : Heap} {aR CP CB CG CM CI CE CR CU CS CN : Addr} {f : Addr} {cdv : Value} {A : Around} {outer : List Env} {s : Shared} {H0 : Hp} {E : XK}
theorem ch3 (hr : Room 11 (A.deeper (PyProof.Rows.envOfC "_law_changes_right" (defScope s__law_changes_right) s.heap.objs.size f cdv))) (T : Txt K mg aR) (M : PMeth P w K mg base CP CU) (O__law_told : Ok P w K mg base 5 "_law_told" ["_law_one"] (spTold P w CP)) (O__law_due : Ok P w K mg base 1 "_law_due" ["_law_parts_here"] spDue) (O__law_other_row : Ok P w K mg base 1 "_law_other_row" ["_law_rows_here", "_law_row"] spOther) :
    ∃ t, PSs (cxOf CX0 P w K mg base N__law_changes_right "_law_changes_right" (defScope s__law_changes_right) f cdv A outer s H0 E).nox ((defBody s__law_changes_right).drop 7) t ∧ ∀ {size b1 : Int} {many : Nat} {zs : List Str} {regs modes ends goal : List PyData} {pp p a rt : Addr} {s' r : Str} {row : PyData} {H : Hp} {Q : VK}, ChS P w CP size b1 many zs regs modes ends goal p a rt s' r row H → (∀ H', Same H H' → Q (.bl true) H') → ∀ v3 v4 v8 v9 v10 v11 v12 : Option V,
      t { nx := fun _ H' => Q .non H', rt := Q } [some (.ref pp), some (.ref p), some (.ref a), v3, v4, some (.str s'), some (.str r), some (.ref rt), v8, v9, v10, v11, v12] H := by
  have C := M.C
  have mWRule := M.wRule
  have mUnder := M.under
  have mWRow := M.wRow
  have mChg := M.chg
  obtain ⟨tN, TN, qN⟩ := ch4 (E := E) (H0 := H0) (outer := outer) hr T M O__law_told O__law_due O__law_other_row
  refine ⟨_, pss_cons (ps_setLc (i := 8) (own := [("_law_mode", 4), ("_law_old", 9), ("_law_rows_here", 10)]) (g := (gTupT 3 (gCons (gName 4) (gCons (gName 9) (gCons (gName 10) gNil))))) (tt := tYes) rfl sc__law_changes_right.nd rfl rfl (sw_true rfl rfl rfl (by decide +kernel)) (pi_seq (pe_ix ixl (pv 2) pe_int (fun _ _ => rfl))) (blkOk_by (N := N__law_changes_right) (sc := defScope s__law_changes_right) (by decide +kernel)) (fun _ _ _ _ _ => (pgT (n := 3) (by rfl) (pgs_cons (pg_name (i := 4) sc__law_changes_right.nd rfl (by first | exact Or.inl rfl | exact Or.inr rfl)) (pgs_cons (pg_name (i := 9) sc__law_changes_right.nd rfl (by first | exact Or.inl rfl | exact Or.inr rfl)) (pgs_cons (pg_name (i := 10) sc__law_changes_right.nd rfl (by first | exact Or.inl rfl | exact Or.inr rfl)) pgs_nil))))) (fun _ _ _ _ _ => pts_nil) (fun _ _ _ _ _ => (pe_tup (pa_cons (pv 4) (pa_cons (pv 9) (pa_cons (pe_ifExp (pt_cmpR (eqD hr.units) (pv 4) (pv 5) (nomark _)) (pe_cO O__law_other_row (hr.mono (by decide)) pass0 rfl (pa_cons (pv 10) (pa_cons (pv 7) pa_nil))) (pv 10)) pa_nil))))))
    (pss_cons (ps_if (pt_cmpR (neD hr.units) (pe_cO O__law_told (hr.mono (by decide)) pass0 rfl (pa_cons (pe_methO (pv 1) C.cl mWRow (hr.mono (by decide)) passL (pa_cons (pv 5) (pa_cons (pe_ix ixt (pv 7) pe_int (fun _ _ => rfl)) (pa_cons (pe_ix ixt (pv 7) pe_int (fun _ _ => rfl)) (pa_cons (pe_ix ixt (pv 7) pe_int (fun _ _ => rfl)) (pa_cons (pe_ix ixt (pv 7) pe_int (fun _ _ => rfl)) pa_nil)))))) pa_nil)) (pe_cO O__law_due (hr.mono (by decide)) pass0 rfl (pa_cons (pe_op op_cat (pe_op op_cat (pe_slice sll (pv 2) po_none (po_some pe_int)) (pe_lst (pa_cons (pv 8) pa_nil))) (pe_slice sll (pv 2) (po_some pe_int) po_none)) pa_nil)) (nomark _))
        (pss_one (ps_ret pe_bl))
        pss_nil)
    TN), ?_⟩
  intro size b1 many zs regs modes ends goal pp p a rt s' r row H Q S fin v3 v4 v8 v9 v10 v11 v12
  have DR := S.DR
  have PO := DR.ok
  have m1 := DR.m1
  have lnz := DR.lz3
  have lm := DR.lm
  obtain ⟨md0, em0, uniq⟩ := DR.mode S.hs
  obtain ⟨a', v1', am', xm', ae', xe', v4', ea1, ea', _, g1', em', _, dm', ee', _, de', g4'⟩ := parts_inv S.dv
  cases ea1
  have lxm' : xm'.length = modes.length := dm'.len
  refine ⟨_, rfl, a, _, _, _, rfl, rfl, ea', atI_nat (j := 2) rfl, am', xm', _, rfl, .inl rfl, em', fun J wk D hD => ?_⟩
  refine lc_dat wk Z0 (fun G => G D = none ∨ ∃ acc, G D = some (.lst acc)) (modes.map (fun m => PyData.tuple [itD m 0, itD m 1, if nmOf m = s' then .list (setRow row (itemsD (itD m 2))) else itD m 2])) (by simp [lxm']) hD id (.inl hD) (fun G l _ _ => .inr ⟨l, upd_same⟩) (by rw [lxm', lm]; exact Nat.lt_of_le_of_lt lnz (by decide)) (fun G f => f _ _ em' id) ?_ ?_
  · intro i x dd G0 G Qk ed f iD ne y zq
    obtain ⟨rfl, ex⟩ := y
    rw [List.getElem?_map] at ed
    obtain ⟨m, e3, rfl⟩ := Option.map_eq_some_iff.mp ed
    obtain ⟨d', e4, dt⟩ := ((DtAll.off' hD dm').fr (Fm.zu f)).get ex
    rw [e3] at e4
    cases e4
    have mm := List.mem_of_getElem? e3
    obtain ⟨zn, ru, rows, rfl, hru, rl, l4, wr, hzn⟩ := DR.shape mm
    obtain ⟨pm, ys, rfl, dy, hpm, _, _⟩ := dt.tupOf rfl
    obtain ⟨x0, x1, x2, c0, c1, c2, rfl, eds, w0, w1, w2⟩ := three_dt dy rfl
    have eds : [PyData.str zn, .str ru, .list rows] = [c0, c1, c2] := eds
    injection eds with q0 eds
    injection eds with q1 eds
    injection eds with q2 eds
    subst q0 q1 q2
    cases w0
    cases w1
    obtain ⟨acc, eD⟩ : ∃ acc, G D = some (.lst acc) := iD.elim (fun h => absurd rfl (ne D h)) id
    refine ⟨pm, _, rfl, hpm, rfl, _, _, rfl, _, _, rfl, _, _, rfl, rfl, rfl, ?_⟩
    refine ⟨_, rfl, _, rfl, _, rfl, _, rfl, .str zn, .str s', Z0, Z0, .str _, .str _, (DR.shName hzn).ok, (DR.shName S.hs).ok, _, rfl, ?_⟩
    rw [eqv_str]
    by_cases c : zn = s'
    · refine iteP (decide_eq_true c) ?_
      have sG : Same H G := f.same
      have nd : (rows.map keyL).Nodup := (PO.row mm).2
      refine ⟨_, rfl, _, rfl, x2, .ref rt, rows, row, rfl, w2.z0, S.drow.fr (Fm.of sG), fun q hq => ⟨(rl q hq).rs, (rl q hq).shp DR.sOk⟩, S.RL.rs, S.RL.shp DR.sOk, nd, by omega, noLs_all fun q hq => (rl q hq).noL, S.RL.noL, fun x3 Hn sN dx3 nx3 => ?_⟩
      obtain ⟨a3, rfl, na3⟩ := nx3
      refine ⟨by show 3 ≤ sizeLine; decide, fun t nt => ?_⟩
      have sT : Same Hn (upd Hn t (.tup [.str zn, .str ru, .ref a3])) := Same.new nt
      have sNT := sN.trans sT
      refine zq _ _ (Fm.of sNT) (.inr ⟨acc, sNT _ _ eD⟩) (.tup upd_same (zu_ne id (ne t (sN.free nt))) (.cons (.str _) (.cons (.str _) (.cons ?_ .nil))))
      rw [if_pos (show nmOf (.tuple [.str zn, .str ru, .list rows]) = s' from c)]
      have dx4 := dx3.fr (Fm.of sT)
      cases dx4 with
      | lst ez nz tz =>
        refine .lst ez (zu_ne id (ne a3 na3)) (DtAll.offL (fun q m => ?_) (noLs_all fun q hq => ?_) tz)
        · exact m.elim (fun m => m.elim) fun m => ⟨acc, by rw [m]; exact sNT _ _ eD⟩
        · rcases setRow_mem hq with rfl | hq
          · exact S.RL.noL
          · exact (rl q hq).noL
    · refine iteN (by simpa using c) ⟨_, rfl, by show 3 ≤ sizeLine; decide, fun t nt => ?_⟩
      have sN : Same G (upd G t (.tup [.str zn, .str ru, x2])) := Same.new nt
      refine zq _ _ (Fm.of sN) (.inr ⟨acc, sN _ _ eD⟩) (.tup upd_same (zu_ne id (ne t nt)) (.cons (.str _) (.cons (.str _) (.cons ?_ .nil))))
      rw [if_neg (show ¬ nmOf (.tuple [.str zn, .str ru, .list rows]) = s' from c)]
      exact w2.fr (Fm.of sN)
  intro H1 xsM fM _ eM dM0
  have s1 : Same H H1 := fM.same
  have dMl : Dt Z0 H1 (.ref D) (.list (modes.map (fun m => PyData.tuple [itD m 0, itD m 1, if nmOf m = s' then .list (setRow row (itemsD (itD m 2))) else itD m 2]))) := .lst eM id (dM0.mono' fun _ m => m.elim)
  clear dM0 em' dm' wk g1' ea' ee' de' g4'
  have S1 := S.same s1
  obtain ⟨⟨dx, _, _, _, _, _, e, _⟩, _⟩ := id S1.PK
  obtain ⟨a0, b0, uss, t0, er, na0, nb0, _⟩ := id S.RL
  have drow1 := S1.drow
  rw [er] at drow1
  cases drow1 with
  | tup hrt nrt d4 =>
  rename_i ys
  obtain ⟨y0, y1, y2, y3, c0, c1, c2, c3, rfl, eds, h0, h1, h2, h3⟩ := four_dt d4 rfl
  cases eds
  obtain ⟨mm0, mn0⟩ := modeOf_some em0
  obtain ⟨zn0, ru0, rows0, emd0, hru0, rl0, l40, wr0, hz0⟩ := DR.shape mm0
  have esz : sizeD (.int b1) = size := by
    have := DR.s0
    show (if b1 < 0 then -b1 else b1) = size
    rcases DR.b with h | h <;> split <;> omega
  have rok : rowD (.tuple [a0, b0, updsD uss, t0]) (sizeD (.int b1)) (itemsD (.list regs)).length ((itemsD (.list modes)).map nmOf) = true := by
    rw [esz, show (itemsD (.list regs)).length = many from DR.lr, show (itemsD (.list modes)).map nmOf = zs from DR.names, ← er]
    exact S.RL.row
  have szr : Sz 3 (.tuple (setRow (.tuple [a0, b0, updsD uss, t0]) (itemsD (itD md0 2)))) := by
    rw [← er, emd0]
    refine ⟨?_, fun s e => (by cases e), fun x hx => ?_⟩
    · show (setRow row rows0).length ≤ 1000
      rw [setRow_eq, List.length_append, List.length_cons, List.length_take, List.length_drop]
      omega
    · rcases setRow_mem hx with rfl | hx
      · exact (S.RL.sz m1 DR.lz).less
      · exact ((rl0 x hx).sz m1 DR.lz).less
  refine ⟨_, rfl, p, dx, _, rfl, e, rfl, _, rfl, _, rfl, rt, _, _, _, rfl, rfl, hrt, atI0, _, rfl, rt, _, _, _, rfl, rfl, hrt, atI1, _, rfl, rt, _, _, _, rfl, rfl, hrt, atI_nat (j := 2) rfl, _, rfl, rt, _, _, _, rfl, rfl, hrt, atI_nat (j := 3) rfl, p, s', y0, y1, y2, y3, a0, b0, updsD uss, t0, md0, b1, .list regs, .list modes, .list ends, .tuple goal, rfl, S1.PK, em0, h0, h1, h2, h3, rok, szr, fun c H2 hc s2 PKc => ?_⟩
  rw [← er] at PKc
  refine ⟨c, b1, _, _, _, _, rfl, PKc, fun u H3 s3 hu du => ?_⟩
  have s23 := s2.trans s3
  have s03 := s1.trans s23
  obtain ⟨a2, v12, am2, xm2, ae2, xe2, v42, ea2, ea2', _, g12, em2, _, dm2, ee2, _, de2, g42⟩ := parts_inv (S1.same s23).dv
  cases ea2
  refine ⟨_, rfl, 2, rfl, a, _, rfl, ea2', fun l1 hl1 => ?_⟩
  have t1 : Same H3 (upd H3 l1 (.lst (cutV [.int b1, v12, .ref am2, .ref ae2, v42] none (some 2)))) := Same.new hl1
  have z1 : (upd H3 l1 (.lst (cutV [.int b1, v12, .ref am2, .ref ae2, v42] none (some 2)))) l1 = some (.lst [.int b1, v12]) := by
    rw [upd_same]
    exact congrArg (fun l => some (HO.lst l)) (cut_to 2)
  generalize upd H3 l1 (HO.lst (cutV [.int b1, v12, .ref am2, .ref ae2, v42] none (some 2))) = X1 at t1 z1 ⊢
  refine ⟨_, rfl, by show 1 ≤ sizeLine; decide, fun l2 hl2 => ?_⟩
  have t2 : Same X1 (upd X1 l2 (.lst [.ref D])) := Same.new hl2
  have z2 : (upd X1 l2 (.lst [.ref D])) l2 = some (.lst [.ref D]) := upd_same
  generalize upd X1 l2 (HO.lst [.ref D]) = X2 at t2 z2 ⊢
  refine ⟨l1, l2, _, _, rfl, rfl, t2 _ _ z1, z2, by show 3 ≤ sizeLine; decide, fun l3 hl3 => ?_⟩
  have t3 : Same X2 (upd X2 l3 (.lst ([.int b1, v12] ++ [.ref D]))) := Same.new hl3
  have z3 : (upd X2 l3 (.lst ([.int b1, v12] ++ [.ref D]))) l3 = some (.lst [.int b1, v12, .ref D]) := upd_same
  generalize upd X2 l3 (HO.lst ([.int b1, v12] ++ [.ref D])) = X3 at t3 z3 ⊢
  refine ⟨_, rfl, 3, rfl, a, _, rfl, t3 _ _ (t2 _ _ (t1 _ _ ea2')), fun l4 hl4 => ?_⟩
  have t4 : Same X3 (upd X3 l4 (.lst (cutV [.int b1, v12, .ref am2, .ref ae2, v42] (some 3) none))) := Same.new hl4
  have z4 : (upd X3 l4 (.lst (cutV [.int b1, v12, .ref am2, .ref ae2, v42] (some 3) none))) l4 = some (.lst [.ref ae2, v42]) := by
    rw [upd_same]
    exact congrArg (fun l => some (HO.lst l)) (cut_from 3)
  generalize upd X3 l4 (HO.lst (cutV [.int b1, v12, .ref am2, .ref ae2, v42] (some 3) none)) = X4 at t4 z4 ⊢
  refine ⟨l3, l4, _, _, rfl, rfl, t4 _ _ z3, z4, by show 5 ≤ sizeLine; decide, fun lx hlx => ?_⟩
  have t5 : Same X4 (upd X4 lx (.lst ([.int b1, v12, .ref D] ++ [.ref ae2, v42]))) := Same.new hlx
  have z5 : (upd X4 lx (.lst ([.int b1, v12, .ref D] ++ [.ref ae2, v42]))) lx = some (.lst [.int b1, v12, .ref D, .ref ae2, v42]) := upd_same
  generalize upd X4 lx (HO.lst ([.int b1, v12, .ref D] ++ [.ref ae2, v42])) = HX at t5 z5 ⊢
  have t15 := (((t1.trans t2).trans t3).trans t4).trans t5
  have dX : Dt Z0 HX (.ref lx) (.list [.int b1, .list regs, .list (modes.map (fun m => PyData.tuple [itD m 0, itD m 1, if nmOf m = s' then .list (setRow row (itemsD (itD m 2))) else itD m 2])), .list ends, .tuple goal]) := .lst z5 id (.cons (.int _) (.cons (g12.fr (Fm.of t15)) (.cons (dMl.fr (Fm.of (s23.trans t15))) (.cons ((Dt.lst ee2 id de2).fr (Fm.of t15)) (.cons (g42.fr (Fm.of t15)) .nil)))))
  refine ⟨.ref lx, b1, .list regs, modes.map (fun m => PyData.tuple [itD m 0, itD m 1, if nmOf m = s' then .list (setRow row (itemsD (itD m 2))) else itD m 2]), ends, .tuple goal, rfl, dX, by rw [List.length_map]; omega, fun m hm => ?_, fun u2 HZ sZ hu2 du2 => ?_⟩
  · obtain ⟨m', _, rfl⟩ := List.mem_map.mp hm
    exact ⟨rfl, rfl⟩
  · have eq : toldD b1 (.tuple (itemsD (.list regs))) (.list ((itemsD (.list modes)).map (withM s' (itD md0 1) (.tuple (setRow row (itemsD (itD md0 2))))))) (.tuple (itemsD (.list ends))) (.tuple goal) = dueD b1 (.list regs) (modes.map (fun m => PyData.tuple [itD m 0, itD m 1, if nmOf m = s' then .list (setRow row (itemsD (itD m 2))) else itD m 2])) ends (.tuple goal) := told_due (ms := modes) (f := (withM s' (itD md0 1) (.tuple (setRow row (itemsD (itD md0 2)))))) (g := (fun m => PyData.tuple [itD m 0, itD m 1, if nmOf m = s' then .list (setRow row (itemsD (itD m 2))) else itD m 2])) rfl rfl rfl (fun m hm => by
      obtain ⟨z, ru, rows, rfl, _⟩ := DR.shape hm
      skip
      unfold withM
      by_cases c : z = s'
      · have := uniq _ hm c
        rw [if_pos (show nmOf (.tuple [.str z, .str ru, .list rows]) = s' from c), if_pos (show nmOf (.tuple [.str z, .str ru, .list rows]) = s' from c), ← this, c]
        exact ⟨rfl, rfl, rfl⟩
      · rw [if_neg (show ¬ nmOf (.tuple [.str z, .str ru, .list rows]) = s' from c), if_neg (show ¬ nmOf (.tuple [.str z, .str ru, .list rows]) = s' from c)]
        exact ⟨rfl, rfl, rfl⟩)
    have sh : SeqAt.shaped (dueD b1 (.list regs) (modes.map (fun m => PyData.tuple [itD m 0, itD m 1, if nmOf m = s' then .list (setRow row (itemsD (itD m 2))) else itD m 2])) ends (.tuple goal)) = true := (shp_due DR.shRegs DR.shGoal DR.shEnds (fun m' hm' => by
      obtain ⟨m, hm, rfl⟩ := List.mem_map.mp hm'
      obtain ⟨z, ru, rows, rfl, hru, rl, l4, _, hz⟩ := DR.shape hm
      refine ⟨(DR.shName hz).mono (by decide), (shRule hru).mono (by decide), ?_⟩
      show Shp 5 (if nmOf (.tuple [.str z, .str ru, .list rows]) = s' then .list (setRow row rows) else .list rows)
      split
      · exact DR.shRows fun x hx => by
          rcases setRow_mem hx with rfl | hx
          · exact S.RL
          · exact rl x hx
      · exact DR.shRows rl)).ok
    have du' := du.fr (Fm.of (t15.trans sZ))
    rw [eq] at du'
    refine ⟨_, _, Z0, Z0, du', du2, sh, sh, _, rfl, ?_⟩
    rw [PySem.SeqAt.eqv_refl _ (SeqAt.canLay_of_shaped sh)]
    have sF := (s03.trans t15).trans sZ
    exact iteN (by decide) (qN (S.same sF) (fun H' s' => fin H' (sF.trans s')) _ _ _ _ _ _ _)
end
section
variable {P : Program} {w : World} {K : PySem.W.Frag} {mg : Str → Option Value} {base : Heap} {aR CP CB CG CM CI CE CR CU CS CN : Addr} {f : Addr} {cdv : Value} {A : Around} {outer : List Env} {s : Shared} {H0 : Hp} {E : XK}
theorem ch2 (hr : Room 11 (A.deeper (PyProof.Rows.envOfC "_law_changes_right" (defScope s__law_changes_right) s.heap.objs.size f cdv))) (T : Txt K mg aR) (M : PMeth P w K mg base CP CU) (O__law_told : Ok P w K mg base 5 "_law_told" ["_law_one"] (spTold P w CP)) (O__law_due : Ok P w K mg base 1 "_law_due" ["_law_parts_here"] spDue) (O__law_other_row : Ok P w K mg base 1 "_law_other_row" ["_law_rows_here", "_law_row"] spOther) :
    ∃ t, PSs (cxOf CX0 P w K mg base N__law_changes_right "_law_changes_right" (defScope s__law_changes_right) f cdv A outer s H0 E).nox ((defBody s__law_changes_right).drop 5) t ∧ ∀ {size b1 : Int} {many : Nat} {zs : List Str} {regs modes ends goal : List PyData} {pp p a rt : Addr} {s' r : Str} {row : PyData} {H : Hp} {Q : VK}, ChS P w CP size b1 many zs regs modes ends goal p a rt s' r row H → (∀ H', Same H H' → Q (.bl true) H') → ∀ v3 v4 v8 v9 v10 v11 v12 : Option V,
      t { nx := fun _ H' => Q .non H', rt := Q } [some (.ref pp), some (.ref p), some (.ref a), v3, v4, some (.str s'), some (.str r), some (.ref rt), v8, v9, v10, v11, v12] H := by
  have C := M.C
  have mWRule := M.wRule
  have mUnder := M.under
  have mWRow := M.wRow
  have mChg := M.chg
  obtain ⟨tN, TN, qN⟩ := ch3 (E := E) (H0 := H0) (outer := outer) hr T M O__law_told O__law_due O__law_other_row
  refine ⟨_, pss_cons (ps_setLc (i := 8) (own := [("_law_mode", 4), ("_law_old", 9), ("_law_rows_here", 10)]) (g := (gTupT 3 (gCons (gName 4) (gCons (gName 9) (gCons (gName 10) gNil))))) (tt := tYes) rfl sc__law_changes_right.nd rfl rfl (sw_true rfl rfl rfl (by decide +kernel)) (pi_seq (pe_ix ixl (pv 2) pe_int (fun _ _ => rfl))) (blkOk_by (N := N__law_changes_right) (sc := defScope s__law_changes_right) (by decide +kernel)) (fun _ _ _ _ _ => (pgT (n := 3) (by rfl) (pgs_cons (pg_name (i := 4) sc__law_changes_right.nd rfl (by first | exact Or.inl rfl | exact Or.inr rfl)) (pgs_cons (pg_name (i := 9) sc__law_changes_right.nd rfl (by first | exact Or.inl rfl | exact Or.inr rfl)) (pgs_cons (pg_name (i := 10) sc__law_changes_right.nd rfl (by first | exact Or.inl rfl | exact Or.inr rfl)) pgs_nil))))) (fun _ _ _ _ _ => pts_nil) (fun _ _ _ _ _ => (pe_tup (pa_cons (pv 4) (pa_cons (pv 6) (pa_cons (pv 10) pa_nil))))))
    (pss_cons (ps_if (pt_cmpR (neD hr.units) (pe_cO O__law_told (hr.mono (by decide)) pass0 rfl (pa_cons (pe_methO (pv 1) C.cl mUnder (hr.mono (by decide)) passL (pa_cons (pv 6) pa_nil)) pa_nil)) (pe_cO O__law_due (hr.mono (by decide)) pass0 rfl (pa_cons (pe_op op_cat (pe_op op_cat (pe_slice sll (pv 2) po_none (po_some pe_int)) (pe_lst (pa_cons (pv 8) pa_nil))) (pe_slice sll (pv 2) (po_some pe_int) po_none)) pa_nil)) (nomark _))
        (pss_one (ps_ret pe_bl))
        pss_nil)
    TN), ?_⟩
  intro size b1 many zs regs modes ends goal pp p a rt s' r row H Q S fin v3 v4 v8 v9 v10 v11 v12
  have DR := S.DR
  have PO := DR.ok
  have m1 := DR.m1
  have lnz := DR.lz3
  have lm := DR.lm
  obtain ⟨md0, em0, uniq⟩ := DR.mode S.hs
  obtain ⟨a', v1', am', xm', ae', xe', v4', ea1, ea', _, g1', em', _, dm', ee', _, de', g4'⟩ := parts_inv S.dv
  cases ea1
  have lxm' : xm'.length = modes.length := dm'.len
  refine ⟨_, rfl, a, _, _, _, rfl, rfl, ea', atI_nat (j := 2) rfl, am', xm', _, rfl, .inl rfl, em', fun J wk D hD => ?_⟩
  refine lc_dat wk Z0 (fun G => G D = none ∨ ∃ acc, G D = some (.lst acc)) (modes.map (fun m => PyData.tuple [itD m 0, .str r, itD m 2])) (by simp [lxm']) hD id (.inl hD) (fun G l _ _ => .inr ⟨l, upd_same⟩) (by rw [lxm', lm]; exact Nat.lt_of_le_of_lt lnz (by decide)) (fun G f => f _ _ em' id) ?_ ?_
  · intro i x dd G0 G Qk ed f iD ne y zq
    obtain ⟨rfl, ex⟩ := y
    rw [List.getElem?_map] at ed
    obtain ⟨m, e3, rfl⟩ := Option.map_eq_some_iff.mp ed
    obtain ⟨d', e4, dt⟩ := ((DtAll.off' hD dm').fr (Fm.zu f)).get ex
    rw [e3] at e4
    cases e4
    have mm := List.mem_of_getElem? e3
    obtain ⟨zn, ru, rows, rfl, hru, rl, l4, wr, hzn⟩ := DR.shape mm
    obtain ⟨pm, ys, rfl, dy, hpm, _, _⟩ := dt.tupOf rfl
    obtain ⟨x0, x1, x2, c0, c1, c2, rfl, eds, w0, w1, w2⟩ := three_dt dy rfl
    have eds : [PyData.str zn, .str ru, .list rows] = [c0, c1, c2] := eds
    injection eds with q0 eds
    injection eds with q1 eds
    injection eds with q2 eds
    subst q0 q1 q2
    cases w0
    cases w1
    obtain ⟨acc, eD⟩ : ∃ acc, G D = some (.lst acc) := iD.elim (fun h => absurd rfl (ne D h)) id
    refine ⟨pm, _, rfl, hpm, rfl, _, _, rfl, _, _, rfl, _, _, rfl, rfl, rfl, ?_⟩
    refine ⟨_, rfl, _, rfl, _, rfl, by show 3 ≤ sizeLine; decide, fun t nt => ?_⟩
    have sN : Same G (upd G t (.tup [.str zn, .str r, x2])) := Same.new nt
    exact zq _ _ (Fm.of sN) (.inr ⟨acc, sN _ _ eD⟩) (.tup upd_same (zu_ne id (ne t nt)) (.cons (.str _) (.cons (.str _) (.cons (w2.fr (Fm.of sN)) .nil))))
  intro H1 xsM fM _ eM dM0
  have s1 : Same H H1 := fM.same
  have dMl : Dt Z0 H1 (.ref D) (.list (modes.map (fun m => PyData.tuple [itD m 0, .str r, itD m 2]))) := .lst eM id (dM0.mono' fun _ m => m.elim)
  clear dM0 em' dm' wk g1' ea' ee' de' g4'
  have S1 := S.same s1
  obtain ⟨⟨dx, _, _, _, _, _, e, _⟩, _⟩ := id S1.PK
  refine ⟨_, rfl, p, dx, _, rfl, e, rfl, _, rfl, p, r, b1, .list regs, .list modes, .list ends, .tuple goal, rfl, S1.PK, five_len S.hr, five_rule S.hr, fun c H2 hc s2 PKc => ?_⟩
  refine ⟨c, b1, _, _, _, _, rfl, PKc, fun u H3 s3 hu du => ?_⟩
  have s23 := s2.trans s3
  have s03 := s1.trans s23
  obtain ⟨a2, v12, am2, xm2, ae2, xe2, v42, ea2, ea2', _, g12, em2, _, dm2, ee2, _, de2, g42⟩ := parts_inv (S1.same s23).dv
  cases ea2
  refine ⟨_, rfl, 2, rfl, a, _, rfl, ea2', fun l1 hl1 => ?_⟩
  have t1 : Same H3 (upd H3 l1 (.lst (cutV [.int b1, v12, .ref am2, .ref ae2, v42] none (some 2)))) := Same.new hl1
  have z1 : (upd H3 l1 (.lst (cutV [.int b1, v12, .ref am2, .ref ae2, v42] none (some 2)))) l1 = some (.lst [.int b1, v12]) := by
    rw [upd_same]
    exact congrArg (fun l => some (HO.lst l)) (cut_to 2)
  generalize upd H3 l1 (HO.lst (cutV [.int b1, v12, .ref am2, .ref ae2, v42] none (some 2))) = X1 at t1 z1 ⊢
  refine ⟨_, rfl, by show 1 ≤ sizeLine; decide, fun l2 hl2 => ?_⟩
  have t2 : Same X1 (upd X1 l2 (.lst [.ref D])) := Same.new hl2
  have z2 : (upd X1 l2 (.lst [.ref D])) l2 = some (.lst [.ref D]) := upd_same
  generalize upd X1 l2 (HO.lst [.ref D]) = X2 at t2 z2 ⊢
  refine ⟨l1, l2, _, _, rfl, rfl, t2 _ _ z1, z2, by show 3 ≤ sizeLine; decide, fun l3 hl3 => ?_⟩
  have t3 : Same X2 (upd X2 l3 (.lst ([.int b1, v12] ++ [.ref D]))) := Same.new hl3
  have z3 : (upd X2 l3 (.lst ([.int b1, v12] ++ [.ref D]))) l3 = some (.lst [.int b1, v12, .ref D]) := upd_same
  generalize upd X2 l3 (HO.lst ([.int b1, v12] ++ [.ref D])) = X3 at t3 z3 ⊢
  refine ⟨_, rfl, 3, rfl, a, _, rfl, t3 _ _ (t2 _ _ (t1 _ _ ea2')), fun l4 hl4 => ?_⟩
  have t4 : Same X3 (upd X3 l4 (.lst (cutV [.int b1, v12, .ref am2, .ref ae2, v42] (some 3) none))) := Same.new hl4
  have z4 : (upd X3 l4 (.lst (cutV [.int b1, v12, .ref am2, .ref ae2, v42] (some 3) none))) l4 = some (.lst [.ref ae2, v42]) := by
    rw [upd_same]
    exact congrArg (fun l => some (HO.lst l)) (cut_from 3)
  generalize upd X3 l4 (HO.lst (cutV [.int b1, v12, .ref am2, .ref ae2, v42] (some 3) none)) = X4 at t4 z4 ⊢
  refine ⟨l3, l4, _, _, rfl, rfl, t4 _ _ z3, z4, by show 5 ≤ sizeLine; decide, fun lx hlx => ?_⟩
  have t5 : Same X4 (upd X4 lx (.lst ([.int b1, v12, .ref D] ++ [.ref ae2, v42]))) := Same.new hlx
  have z5 : (upd X4 lx (.lst ([.int b1, v12, .ref D] ++ [.ref ae2, v42]))) lx = some (.lst [.int b1, v12, .ref D, .ref ae2, v42]) := upd_same
  generalize upd X4 lx (HO.lst ([.int b1, v12, .ref D] ++ [.ref ae2, v42])) = HX at t5 z5 ⊢
  have t15 := (((t1.trans t2).trans t3).trans t4).trans t5
  have dX : Dt Z0 HX (.ref lx) (.list [.int b1, .list regs, .list (modes.map (fun m => PyData.tuple [itD m 0, .str r, itD m 2])), .list ends, .tuple goal]) := .lst z5 id (.cons (.int _) (.cons (g12.fr (Fm.of t15)) (.cons (dMl.fr (Fm.of (s23.trans t15))) (.cons ((Dt.lst ee2 id de2).fr (Fm.of t15)) (.cons (g42.fr (Fm.of t15)) .nil)))))
  refine ⟨.ref lx, b1, .list regs, modes.map (fun m => PyData.tuple [itD m 0, .str r, itD m 2]), ends, .tuple goal, rfl, dX, by rw [List.length_map]; omega, fun m hm => ?_, fun u2 HZ sZ hu2 du2 => ?_⟩
  · obtain ⟨m', _, rfl⟩ := List.mem_map.mp hm
    exact ⟨rfl, rfl⟩
  · have eq : toldD b1 (.tuple (itemsD (.list regs))) (.list ((itemsD (.list modes)).map (ruleM (.str r)))) (.tuple (itemsD (.list ends))) (.tuple goal) = dueD b1 (.list regs) (modes.map (fun m => PyData.tuple [itD m 0, .str r, itD m 2])) ends (.tuple goal) := told_due (ms := modes) (f := (ruleM (.str r))) (g := (fun m => PyData.tuple [itD m 0, .str r, itD m 2])) rfl rfl rfl (fun m hm => by
      obtain ⟨z, ru, rows, rfl, _⟩ := DR.shape hm
      exact ⟨rfl, rfl, rfl⟩)
    have sh : SeqAt.shaped (dueD b1 (.list regs) (modes.map (fun m => PyData.tuple [itD m 0, .str r, itD m 2])) ends (.tuple goal)) = true := (shp_due DR.shRegs DR.shGoal DR.shEnds (fun m' hm' => by
      obtain ⟨m, hm, rfl⟩ := List.mem_map.mp hm'
      obtain ⟨z, ru, rows, rfl, hru, rl, l4, _, hz⟩ := DR.shape hm
      exact ⟨(DR.shName hz).mono (by decide), (shRule S.hr).mono (by decide), DR.shRows rl⟩)).ok
    have du' := du.fr (Fm.of (t15.trans sZ))
    rw [eq] at du'
    refine ⟨_, _, Z0, Z0, du', du2, sh, sh, _, rfl, ?_⟩
    rw [PySem.SeqAt.eqv_refl _ (SeqAt.canLay_of_shaped sh)]
    have sF := (s03.trans t15).trans sZ
    exact iteN (by decide) (qN (S.same sF) (fun H' s' => fin H' (sF.trans s')) _ _ _ _ _ _ _)
end
section
variable {P : Program} {w : World} {K : PySem.W.Frag} {mg : Str → Option Value} {base : Heap} {aR CP CB CG CM CI CE CR CU CS CN : Addr} {f : Addr} {cdv : Value} {A : Around} {outer : List Env} {s : Shared} {H0 : Hp} {E : XK}
theorem ch1 (hr : Room 11 (A.deeper (PyProof.Rows.envOfC "_law_changes_right" (defScope s__law_changes_right) s.heap.objs.size f cdv))) (T : Txt K mg aR) (M : PMeth P w K mg base CP CU) (O__law_told : Ok P w K mg base 5 "_law_told" ["_law_one"] (spTold P w CP)) (O__law_due : Ok P w K mg base 1 "_law_due" ["_law_parts_here"] spDue) (O__law_other_row : Ok P w K mg base 1 "_law_other_row" ["_law_rows_here", "_law_row"] spOther) :
    ∃ t, PSs (cxOf CX0 P w K mg base N__law_changes_right "_law_changes_right" (defScope s__law_changes_right) f cdv A outer s H0 E).nox ((defBody s__law_changes_right).drop 3) t ∧ ∀ {size b1 : Int} {many : Nat} {zs : List Str} {regs modes ends goal : List PyData} {pp p a rt : Addr} {s' r : Str} {row : PyData} {H : Hp} {Q : VK}, ChS P w CP size b1 many zs regs modes ends goal p a rt s' r row H → (∀ H', Same H H' → Q (.bl true) H') → ∀ v3 v4 v8 v9 v10 v11 v12 : Option V,
      t { nx := fun _ H' => Q .non H', rt := Q } [some (.ref pp), some (.ref p), some (.ref a), v3, v4, some (.str s'), some (.str r), some (.ref rt), v8, v9, v10, v11, v12] H := by
  have C := M.C
  have mWRule := M.wRule
  have mUnder := M.under
  have mWRow := M.wRow
  have mChg := M.chg
  obtain ⟨tN, TN, qN⟩ := ch2 (E := E) (H0 := H0) (outer := outer) hr T M O__law_told O__law_due O__law_other_row
  refine ⟨_, pss_cons (ps_setLc (i := 8) (own := [("_law_mode", 4), ("_law_old", 9), ("_law_rows_here", 10)]) (g := (gTupT 3 (gCons (gName 4) (gCons (gName 9) (gCons (gName 10) gNil))))) (tt := tYes) rfl sc__law_changes_right.nd rfl rfl (sw_true rfl rfl rfl (by decide +kernel)) (pi_seq (pe_ix ixl (pv 2) pe_int (fun _ _ => rfl))) (blkOk_by (N := N__law_changes_right) (sc := defScope s__law_changes_right) (by decide +kernel)) (fun _ _ _ _ _ => (pgT (n := 3) (by rfl) (pgs_cons (pg_name (i := 4) sc__law_changes_right.nd rfl (by first | exact Or.inl rfl | exact Or.inr rfl)) (pgs_cons (pg_name (i := 9) sc__law_changes_right.nd rfl (by first | exact Or.inl rfl | exact Or.inr rfl)) (pgs_cons (pg_name (i := 10) sc__law_changes_right.nd rfl (by first | exact Or.inl rfl | exact Or.inr rfl)) pgs_nil))))) (fun _ _ _ _ _ => pts_nil) (fun _ _ _ _ _ => (pe_tup (pa_cons (pv 4) (pa_cons (pe_ifExp (pt_cmpR (eqD hr.units) (pv 4) (pv 5) (nomark _)) (pv 6) (pv 9)) (pa_cons (pv 10) pa_nil))))))
    (pss_cons (ps_if (pt_cmpR (neD hr.units) (pe_cO O__law_told (hr.mono (by decide)) pass0 rfl (pa_cons (pe_methO (pv 1) C.cl mWRule (hr.mono (by decide)) passL (pa_cons (pv 5) (pa_cons (pv 6) pa_nil))) pa_nil)) (pe_cO O__law_due (hr.mono (by decide)) pass0 rfl (pa_cons (pe_op op_cat (pe_op op_cat (pe_slice sll (pv 2) po_none (po_some pe_int)) (pe_lst (pa_cons (pv 8) pa_nil))) (pe_slice sll (pv 2) (po_some pe_int) po_none)) pa_nil)) (nomark _))
        (pss_one (ps_ret pe_bl))
        pss_nil)
    TN), ?_⟩
  intro size b1 many zs regs modes ends goal pp p a rt s' r row H Q S fin v3 v4 v8 v9 v10 v11 v12
  have DR := S.DR
  have PO := DR.ok
  have m1 := DR.m1
  have lnz := DR.lz3
  have lm := DR.lm
  obtain ⟨md0, em0, uniq⟩ := DR.mode S.hs
  obtain ⟨a', v1', am', xm', ae', xe', v4', ea1, ea', _, g1', em', _, dm', ee', _, de', g4'⟩ := parts_inv S.dv
  cases ea1
  have lxm' : xm'.length = modes.length := dm'.len
  refine ⟨_, rfl, a, _, _, _, rfl, rfl, ea', atI_nat (j := 2) rfl, am', xm', _, rfl, .inl rfl, em', fun J wk D hD => ?_⟩
  refine lc_dat wk Z0 (fun G => G D = none ∨ ∃ acc, G D = some (.lst acc)) (modes.map (fun m => PyData.tuple [itD m 0, if nmOf m = s' then .str r else itD m 1, itD m 2])) (by simp [lxm']) hD id (.inl hD) (fun G l _ _ => .inr ⟨l, upd_same⟩) (by rw [lxm', lm]; exact Nat.lt_of_le_of_lt lnz (by decide)) (fun G f => f _ _ em' id) ?_ ?_
  · intro i x dd G0 G Qk ed f iD ne y zq
    obtain ⟨rfl, ex⟩ := y
    rw [List.getElem?_map] at ed
    obtain ⟨m, e3, rfl⟩ := Option.map_eq_some_iff.mp ed
    obtain ⟨d', e4, dt⟩ := ((DtAll.off' hD dm').fr (Fm.zu f)).get ex
    rw [e3] at e4
    cases e4
    have mm := List.mem_of_getElem? e3
    obtain ⟨zn, ru, rows, rfl, hru, rl, l4, wr, hzn⟩ := DR.shape mm
    obtain ⟨pm, ys, rfl, dy, hpm, _, _⟩ := dt.tupOf rfl
    obtain ⟨x0, x1, x2, c0, c1, c2, rfl, eds, w0, w1, w2⟩ := three_dt dy rfl
    have eds : [PyData.str zn, .str ru, .list rows] = [c0, c1, c2] := eds
    injection eds with q0 eds
    injection eds with q1 eds
    injection eds with q2 eds
    subst q0 q1 q2
    cases w0
    cases w1
    obtain ⟨acc, eD⟩ : ∃ acc, G D = some (.lst acc) := iD.elim (fun h => absurd rfl (ne D h)) id
    refine ⟨pm, _, rfl, hpm, rfl, _, _, rfl, _, _, rfl, _, _, rfl, rfl, rfl, ?_⟩
    refine ⟨_, rfl, _, rfl, _, rfl, .str zn, .str s', Z0, Z0, .str _, .str _, (DR.shName hzn).ok, (DR.shName S.hs).ok, _, rfl, ?_⟩
    rw [eqv_str]
    by_cases c : zn = s'
    · refine iteP (decide_eq_true c) ⟨_, rfl, _, rfl, by show 3 ≤ sizeLine; decide, fun t nt => ?_⟩
      have sN : Same G (upd G t (.tup [.str zn, .str r, x2])) := Same.new nt
      refine zq _ _ (Fm.of sN) (.inr ⟨acc, sN _ _ eD⟩) (.tup upd_same (zu_ne id (ne t nt)) (.cons (.str _) (.cons ?_ (.cons (w2.fr (Fm.of sN)) .nil))))
      rw [if_pos (show nmOf (.tuple [.str zn, .str ru, .list rows]) = s' from c)]
      exact .str _
    · refine iteN (by simpa using c) ⟨_, rfl, _, rfl, by show 3 ≤ sizeLine; decide, fun t nt => ?_⟩
      have sN : Same G (upd G t (.tup [.str zn, .str ru, x2])) := Same.new nt
      refine zq _ _ (Fm.of sN) (.inr ⟨acc, sN _ _ eD⟩) (.tup upd_same (zu_ne id (ne t nt)) (.cons (.str _) (.cons ?_ (.cons (w2.fr (Fm.of sN)) .nil))))
      rw [if_neg (show ¬ nmOf (.tuple [.str zn, .str ru, .list rows]) = s' from c)]
      exact .str _
  intro H1 xsM fM _ eM dM0
  have s1 : Same H H1 := fM.same
  have dMl : Dt Z0 H1 (.ref D) (.list (modes.map (fun m => PyData.tuple [itD m 0, if nmOf m = s' then .str r else itD m 1, itD m 2]))) := .lst eM id (dM0.mono' fun _ m => m.elim)
  clear dM0 em' dm' wk g1' ea' ee' de' g4'
  have S1 := S.same s1
  obtain ⟨⟨dx, _, _, _, _, _, e, _⟩, _⟩ := id S1.PK
  refine ⟨_, rfl, p, dx, _, rfl, e, rfl, _, rfl, _, rfl, p, s', r, md0, b1, .list regs, .list modes, .list ends, .tuple goal, rfl, S1.PK, em0, five_len S.hr, five_rule S.hr, fun c H2 hc s2 PKc => ?_⟩
  refine ⟨c, b1, _, _, _, _, rfl, PKc, fun u H3 s3 hu du => ?_⟩
  have s23 := s2.trans s3
  have s03 := s1.trans s23
  obtain ⟨a2, v12, am2, xm2, ae2, xe2, v42, ea2, ea2', _, g12, em2, _, dm2, ee2, _, de2, g42⟩ := parts_inv (S1.same s23).dv
  cases ea2
  refine ⟨_, rfl, 2, rfl, a, _, rfl, ea2', fun l1 hl1 => ?_⟩
  have t1 : Same H3 (upd H3 l1 (.lst (cutV [.int b1, v12, .ref am2, .ref ae2, v42] none (some 2)))) := Same.new hl1
  have z1 : (upd H3 l1 (.lst (cutV [.int b1, v12, .ref am2, .ref ae2, v42] none (some 2)))) l1 = some (.lst [.int b1, v12]) := by
    rw [upd_same]
    exact congrArg (fun l => some (HO.lst l)) (cut_to 2)
  generalize upd H3 l1 (HO.lst (cutV [.int b1, v12, .ref am2, .ref ae2, v42] none (some 2))) = X1 at t1 z1 ⊢
  refine ⟨_, rfl, by show 1 ≤ sizeLine; decide, fun l2 hl2 => ?_⟩
  have t2 : Same X1 (upd X1 l2 (.lst [.ref D])) := Same.new hl2
  have z2 : (upd X1 l2 (.lst [.ref D])) l2 = some (.lst [.ref D]) := upd_same
  generalize upd X1 l2 (HO.lst [.ref D]) = X2 at t2 z2 ⊢
  refine ⟨l1, l2, _, _, rfl, rfl, t2 _ _ z1, z2, by show 3 ≤ sizeLine; decide, fun l3 hl3 => ?_⟩
  have t3 : Same X2 (upd X2 l3 (.lst ([.int b1, v12] ++ [.ref D]))) := Same.new hl3
  have z3 : (upd X2 l3 (.lst ([.int b1, v12] ++ [.ref D]))) l3 = some (.lst [.int b1, v12, .ref D]) := upd_same
  generalize upd X2 l3 (HO.lst ([.int b1, v12] ++ [.ref D])) = X3 at t3 z3 ⊢
  refine ⟨_, rfl, 3, rfl, a, _, rfl, t3 _ _ (t2 _ _ (t1 _ _ ea2')), fun l4 hl4 => ?_⟩
  have t4 : Same X3 (upd X3 l4 (.lst (cutV [.int b1, v12, .ref am2, .ref ae2, v42] (some 3) none))) := Same.new hl4
  have z4 : (upd X3 l4 (.lst (cutV [.int b1, v12, .ref am2, .ref ae2, v42] (some 3) none))) l4 = some (.lst [.ref ae2, v42]) := by
    rw [upd_same]
    exact congrArg (fun l => some (HO.lst l)) (cut_from 3)
  generalize upd X3 l4 (HO.lst (cutV [.int b1, v12, .ref am2, .ref ae2, v42] (some 3) none)) = X4 at t4 z4 ⊢
  refine ⟨l3, l4, _, _, rfl, rfl, t4 _ _ z3, z4, by show 5 ≤ sizeLine; decide, fun lx hlx => ?_⟩
  have t5 : Same X4 (upd X4 lx (.lst ([.int b1, v12, .ref D] ++ [.ref ae2, v42]))) := Same.new hlx
  have z5 : (upd X4 lx (.lst ([.int b1, v12, .ref D] ++ [.ref ae2, v42]))) lx = some (.lst [.int b1, v12, .ref D, .ref ae2, v42]) := upd_same
  generalize upd X4 lx (HO.lst ([.int b1, v12, .ref D] ++ [.ref ae2, v42])) = HX at t5 z5 ⊢
  have t15 := (((t1.trans t2).trans t3).trans t4).trans t5
  have dX : Dt Z0 HX (.ref lx) (.list [.int b1, .list regs, .list (modes.map (fun m => PyData.tuple [itD m 0, if nmOf m = s' then .str r else itD m 1, itD m 2])), .list ends, .tuple goal]) := .lst z5 id (.cons (.int _) (.cons (g12.fr (Fm.of t15)) (.cons (dMl.fr (Fm.of (s23.trans t15))) (.cons ((Dt.lst ee2 id de2).fr (Fm.of t15)) (.cons (g42.fr (Fm.of t15)) .nil)))))
  refine ⟨.ref lx, b1, .list regs, modes.map (fun m => PyData.tuple [itD m 0, if nmOf m = s' then .str r else itD m 1, itD m 2]), ends, .tuple goal, rfl, dX, by rw [List.length_map]; omega, fun m hm => ?_, fun u2 HZ sZ hu2 du2 => ?_⟩
  · obtain ⟨m', _, rfl⟩ := List.mem_map.mp hm
    exact ⟨rfl, rfl⟩
  · have eq : toldD b1 (.tuple (itemsD (.list regs))) (.list ((itemsD (.list modes)).map (withM s' (.str r) (.tuple (itemsD (itD md0 2)))))) (.tuple (itemsD (.list ends))) (.tuple goal) = dueD b1 (.list regs) (modes.map (fun m => PyData.tuple [itD m 0, if nmOf m = s' then .str r else itD m 1, itD m 2])) ends (.tuple goal) := told_due (ms := modes) (f := (withM s' (.str r) (.tuple (itemsD (itD md0 2))))) (g := (fun m => PyData.tuple [itD m 0, if nmOf m = s' then .str r else itD m 1, itD m 2])) rfl rfl rfl (fun m hm => by
      obtain ⟨z, ru, rows, rfl, _⟩ := DR.shape hm
      skip
      unfold withM
      by_cases c : z = s'
      · have := uniq _ hm c
        rw [if_pos (show nmOf (.tuple [.str z, .str ru, .list rows]) = s' from c), if_pos (show nmOf (.tuple [.str z, .str ru, .list rows]) = s' from c), ← this, c]
        exact ⟨rfl, rfl, rfl⟩
      · rw [if_neg (show ¬ nmOf (.tuple [.str z, .str ru, .list rows]) = s' from c), if_neg (show ¬ nmOf (.tuple [.str z, .str ru, .list rows]) = s' from c)]
        exact ⟨rfl, rfl, rfl⟩)
    have sh : SeqAt.shaped (dueD b1 (.list regs) (modes.map (fun m => PyData.tuple [itD m 0, if nmOf m = s' then .str r else itD m 1, itD m 2])) ends (.tuple goal)) = true := (shp_due DR.shRegs DR.shGoal DR.shEnds (fun m' hm' => by
      obtain ⟨m, hm, rfl⟩ := List.mem_map.mp hm'
      obtain ⟨z, ru, rows, rfl, hru, rl, l4, _, hz⟩ := DR.shape hm
      refine ⟨(DR.shName hz).mono (by decide), ?_, DR.shRows rl⟩
      show Shp 5 (if nmOf (.tuple [.str z, .str ru, .list rows]) = s' then .str r else .str ru)
      split
      · exact (shRule S.hr).mono (by decide)
      · exact (shRule hru).mono (by decide))).ok
    have du' := du.fr (Fm.of (t15.trans sZ))
    rw [eq] at du'
    refine ⟨_, _, Z0, Z0, du', du2, sh, sh, _, rfl, ?_⟩
    rw [PySem.SeqAt.eqv_refl _ (SeqAt.canLay_of_shaped sh)]
    have sF := (s03.trans t15).trans sZ
    exact iteN (by decide) (qN (S.same sF) (fun H' s' => fin H' (sF.trans s')) _ _ _ _ _ _ _)
end
section
variable {P : Program} {w : World} {K : PySem.W.Frag} {mg : Str → Option Value} {base : Heap} {aR CP CB CG CM CI CE CR CU CS CN : Addr}
theorem ok__law_changes_right (h : Has K mg "_law_changes_right" s__law_changes_right ["_law_pool_here", "_law_one", "_law_parts_here"]) (T : Txt K mg aR) (M : PMeth P w K mg base CP CU) (O__law_choose : Ok P w K mg base 2 "_law_choose" ["_law_pool_here", "_law_items"] (spChoose K)) (O__law_updates : Ok P w K mg base 2 "_law_updates" ["_law_pool_here", "_law_many", "_law_greatest"] spUpdates)
    (O__law_then : Ok P w K mg base 3 "_law_then" ["_law_pool_here", "_law_names"] spThen) (O__law_told : Ok P w K mg base 5 "_law_told" ["_law_one"] (spTold P w CP)) (O__law_due : Ok P w K mg base 1 "_law_due" ["_law_parts_here"] spDue) (O__law_other_row : Ok P w K mg base 1 "_law_other_row" ["_law_rows_here", "_law_row"] spOther) :
    Ok P w K mg base 12 "_law_changes_right" ["_law_pool_here", "_law_one", "_law_parts_here"] (spChanges P w CP) := by
  obtain ⟨f, fd, g, b, F⟩ := h
  have C := M.C
  have mWRule := M.wRule
  have mUnder := M.under
  have mWRow := M.wRow
  have mChg := M.chg
  refine ⟨f, fd, g, F.kp, b, F.ok sc__law_changes_right (fun vs H Q E h => ?_) (fun cdv A outer s H vs Q E hr h => ?_)⟩
  · obtain ⟨pp, p, v, size, b1, many, zs, regs, modes, ends, goal, rfl, _⟩ := h
    rfl
  · obtain ⟨pp, p, v, size, b1, many, zs, regs, modes, ends, goal, rfl, hP, DR, PK, dv, q⟩ := h
    obtain ⟨tN, TN, qN⟩ := ch1 (E := E) (H0 := H) (outer := outer) hr T M O__law_told O__law_due O__law_other_row
    refine ⟨_, pss_cons (ps_setLc (i := 3) (own := [("_law_mode", 4)]) (g := (gName 4)) (tt := tYes) rfl sc__law_changes_right.nd rfl rfl (sw_true rfl rfl rfl (by decide +kernel)) (pi_seq (pe_ix ixl (pv 2) pe_int (fun _ _ => rfl))) (blkOk_by (N := N__law_changes_right) (sc := defScope s__law_changes_right) (by decide +kernel)) (fun _ _ _ _ _ => (pg_name (i := 4) sc__law_changes_right.nd rfl (by first | exact Or.inl rfl | exact Or.inr rfl))) (fun _ _ _ _ _ => pts_nil) (fun _ _ _ _ _ => (pe_ix ixt (pv 4) pe_int (fun _ _ => rfl))))
      (pss_cons (ps_asg (pe_tup (pa_cons (pe_cO O__law_choose (hr.mono (by decide)) pass0 rfl (pa_cons (pv 0) (pa_cons (pv 3) pa_nil))) (pa_cons (pe_cO O__law_choose (hr.mono (by decide)) pass0 rfl (pa_cons (pv 0) (pa_cons (pe_lst (pa_cons pe_str (pa_cons pe_str (pa_cons pe_str (pa_cons pe_str (pa_cons pe_str pa_nil)))))) pa_nil))) pa_nil))) (pgT (n := 2) (by rfl) (pgs_cons (pg_name (i := 5) sc__law_changes_right.nd rfl (.inr rfl)) (pgs_cons (pg_name (i := 6) sc__law_changes_right.nd rfl (.inr rfl)) pgs_nil))))
      (pss_cons (ps_set (i := 7) sc__law_changes_right.nd rfl (.inr rfl) (pe_tup (pa_cons (pe_cO O__law_choose (hr.mono (by decide)) pass0 rfl (pa_cons (pv 0) (pa_cons (pe_lst (pa_cons pe_non (pa_cons (pe_un un_neg pe_int) (pa_cons pe_int (pa_cons pe_int pa_nil))))) pa_nil))) (pa_cons (pe_cO O__law_choose (hr.mono (by decide)) pass0 rfl (pa_cons (pv 0) (pa_cons (pe_lst (pa_cons pe_non (pa_cons pe_int (pa_cons pe_int pa_nil)))) pa_nil))) (pa_cons (pe_cO O__law_updates (hr.mono (by decide)) pass0 rfl (pa_cons (pv 0) (pa_cons (pe_callB lenT (by rfl) T.len bb_len (pa_cons (pe_ix ixl (pv 2) pe_int (fun _ _ => rfl)) pa_nil)) (pa_cons pe_int pa_nil)))) (pa_cons (pe_cO O__law_then (hr.mono (by decide)) pass0 rfl (pa_cons (pv 0) (pa_cons (pv 3) pa_nil))) pa_nil))))))
      TN)), ?_⟩
    have m1 := DR.m1
    have lnz : zs.length ≤ 3 := by
      obtain ⟨k, e⟩ := DR.z
      rw [e, List.length_take]
      exact Nat.min_le_right _ _
    have lm := DR.lm
    have PO := PK.2.1
    have nm := DR.names
    have z0 := DR.z0
    obtain ⟨a, v1, am, xm, ae, xe, v4, rfl, ea, na, g1, em, nam, dm, ee, nae, de, g4⟩ := parts_inv dv
    have lxm : xm.length = modes.length := dm.len
    -- the names
    refine ⟨_, rfl, a, _, _, _, rfl, rfl, ea, atI_nat (j := 2) rfl, am, xm, _, rfl, .inl rfl, em, fun J wk D hD => ?_⟩
    refine lc_vals wk Z0 (fun _ => True) (zs.map V.str) (by simp [lxm, lm]) hD id True.intro (fun _ _ _ _ => True.intro) (by rw [lxm, lm]; exact Nat.lt_of_le_of_lt lnz (by decide)) (fun G f => f _ _ em id) ?_ ?_
    · intro i y k G0 G Qk ek f _ _ yy zq
      obtain ⟨rfl, ex⟩ := yy
      obtain ⟨md, emd, dmd⟩ := dm.get ex
      obtain ⟨zn, ru, rows, ez, rfl, _⟩ := DR.modes i md emd
      have dmG := dmd.z0.fr f
      obtain ⟨pm, x0, x1, x2, rfl, hpm, c0, c1, c2⟩ := dmG.three
      cases c0
      rw [List.getElem?_map, ez] at ek
      cases ek
      exact ⟨rfl, _, rfl, pm, _, _, _, rfl, rfl, hpm, atI0, zq _ Fm.refl True.intro⟩
    intro H1 f1 _ eD
    have s1 : Same H H1 := f1.same
    have P1 := hP.same s1
    have nD : D ≠ pp := hP.ne hD
    -- name, rule
    refine ⟨_, rfl, _, rfl, pp, D, zs.map V.str, rfl, SqL.of eD, nD, by rw [List.length_map]; exact z0, by rw [List.length_map]; omega, P1, fun v2 H2 hv2 P2 k2 => ?_⟩
    obtain ⟨s', hs, rfl⟩ := List.mem_map.mp hv2
    refine ⟨_, rfl, by show 5 ≤ sizeLine; decide, fun l3 hl3 => ?_⟩
    refine ⟨pp, l3, five.map V.str, rfl, SqL.of upd_same, P2.ne hl3, by decide, by decide, P2.same (Same.new hl3), fun v3 H3 hv3 P3 k3' => ?_⟩
    have k3 : Keep pp H2 H3 := (Same.keep (Same.new hl3)).trans k3'
    obtain ⟨r, hr5, rfl⟩ := List.mem_map.mp hv3
    refine ⟨by show 2 ≤ sizeLine; decide, fun t4 nt4 => ?_⟩
    have s4 : Same H3 (upd H3 t4 (.tup [.str s', .str r])) := Same.new nt4
    refine ⟨t4, _, rfl, upd_same, rfl, _, _, rfl, _, _, rfl, rfl, ?_⟩
    have P4 := P3.same s4
    have k14 : Keep pp H1 (upd H3 t4 (.tup [.str s', .str r])) := (k2.trans k3).trans (Same.keep s4)
    show tSeq _ _ _ _ (upd H3 t4 (.tup [.str s', .str r]))
    generalize upd H3 t4 (.tup [.str s', .str r]) = H4 at k14 P4 ⊢
    have k04 := (Same.keep s1).trans k14
    -- the row
    refine ⟨_, rfl, 1, rfl, by show 4 ≤ sizeLine; decide, fun l5 hl5 => ?_⟩
    refine ⟨pp, l5, [.non, .int (-1), .int 0, .int 1], rfl, SqL.of upd_same, P4.ne hl5, by decide, by decide, P4.same (Same.new hl5), fun v5 H5 hv5 P5 k5' => ?_⟩
    have k5 : Keep pp H4 H5 := (Same.keep (Same.new hl5)).trans k5'
    obtain ⟨a0, na0, oa0, da0⟩ := pick_sign hv5
    refine ⟨_, rfl, by show 3 ≤ sizeLine; decide, fun l6 hl6 => ?_⟩
    refine ⟨pp, l6, [.non, .int 0, .int 1], rfl, SqL.of upd_same, P5.ne hl6, by decide, by decide, P5.same (Same.new hl6), fun v6 H6 hv6 P6 k6' => ?_⟩
    have k6 : Keep pp H5 H6 := (Same.keep (Same.new hl6)).trans k6'
    obtain ⟨b0, nb0, ob0, db0⟩ := pick_rem (size := size) DR.s0 (v := v6) (by
      simp only [List.mem_cons, List.not_mem_nil, or_false] at hv6 ⊢
      rcases hv6 with rfl | rfl | rfl <;> simp)
    have k06 := (k04.trans k5).trans k6
    obtain ⟨ar, xr, erV, ear, nar, dxr⟩ : ∃ ar xr, v1 = .ref ar ∧ H ar = some (.lst xr) ∧ ar ≠ pp ∧ DtAll (Zp pp) H xr regs := by
      obtain ⟨ar, xr, e1, e2, e3, e4⟩ := g1.lst_inv
      exact ⟨ar, xr, e1, e2, e3, e4⟩
    subst erV
    refine ⟨_, rfl, _, rfl, a, _, _, _, rfl, rfl, k06 _ _ ea na, atI1, ar, xr, rfl, .inl (k06 _ _ ear nar), ?_⟩
    refine ⟨pp, xr.length, 9, rfl, by rw [dxr.len, DR.lr]; exact m1, by decide, by decide, P6, fun u us uss H7 P7 k7 hu hus lu hb7 => ?_⟩
    refine ⟨_, rfl, _, rfl, pp, D, zs, rfl, P7, ((k14.trans k5).trans k6 |>.trans k7) _ _ eD nD, nD, by omega, by omega, fun v8 H8 hv8 P8 k8 => ?_⟩
    obtain ⟨t0, ht0, dt0⟩ := then_dt hv8
    refine ⟨by show 4 ≤ sizeLine; decide, fun rt nrt => ?_⟩
    have s9 : Same H8 (upd H8 rt (.tup [v5, v6, .ref u, v8])) := Same.new nrt
    have y9 : (upd H8 rt (.tup [v5, v6, .ref u, v8])) rt = some (.tup [v5, v6, .ref u, v8]) := upd_same
    have P9 := P8.same s9
    show tSeq _ _ _ _ (upd H8 rt (.tup [v5, v6, .ref u, v8]))
    generalize upd H8 rt (.tup [v5, v6, .ref u, v8]) = H9 at s9 y9 P9 ⊢
    have k09 := ((k06.trans k7).trans k8).trans (Same.keep s9)
    have hus9 := (hus.keep k8 P7).keep (Same.keep s9) P8
    have hu9 : H9 u = some (.tup (us.map V.ref)) := s9 _ _ (k8 _ _ hu (P7.nep hu))
    have du9 : Dt Z0 H9 (.ref u) (updsD uss) := .tup hu9 id ((hus9.dt P9).mono' fun _ m => m.elim)
    have drow : Dt Z0 H9 (.ref rt) (.tuple [a0, b0, updsD uss, t0]) := .tup y9 id (.cons (da0 _ _) (.cons (db0 _ _) (.cons du9 (.cons (dt0 _ _) .nil))))
    have RL : RowL size many zs (.tuple [a0, b0, updsD uss, t0]) := ⟨a0, b0, uss, t0, rfl, na0, nb0, oa0, ob0, ht0, by rw [lu, dxr.len, DR.lr], fun fs hf => ⟨by rw [(hb7 fs hf).1, dxr.len, DR.lr], fun x hx => by have := (hb7 fs hf).2 x hx; omega⟩⟩
    have PK9 := PK.keepP hP k09
    have dv9 : Dt Z0 H9 (.ref a) (.list [.int b1, .list regs, .list modes, .list ends, .tuple goal]) := (dv.fr k09.fr).z0
    exact qN ⟨DR, PK9, dv9, drow, RL, hs, hr5⟩ (fun H' s' => q H' (P9.same s') (k09.trans (Same.keep s'))) _ _ _ _ _ _ _
end
/-! ### programs that are equal, or not: the mathematics -/
section
theorem nd_rev {α : Type} {l : List α} (h : l.Nodup) : l.reverse.Nodup := by
  unfold List.Nodup
  rw [List.pairwise_reverse]
  exact List.Pairwise.imp (fun a => Ne.symm a) h
theorem progEq_eq {b b' : Int} {d1 d2 d3 d4 d1' d2' d3' d4' : PyData} : progEq b d1 d2 d3 d4 b' d1' d2' d3' d4' = (PyData.eqv (.int b) (.int b') && (PyData.eqv (.tuple (itemsD d1)) (.tuple (itemsD d1')) && (modesEq (itemsD d2) (itemsD d2') && (PyData.eqv (.tuple (itemsD d3)) (.tuple (itemsD d3')) && (PyData.eqv d4 d4' && true))))) := rfl
theorem modeEq_eq {m m' : PyData} : modeEq m m' = (PyData.eqv (itD m 0) (itD m' 0) && (PyData.eqv (itD m 1) (itD m' 1) && (rowEq (itemsD (itD m 2)) (itemsD (itD m' 2)) && true))) := rfl
theorem rowEq_rev {rs : List PyData} (n : (rs.map keyL).Nodup) (sh : ∀ r ∈ rs, SeqAt.shaped (valD r) = true) {rs' : List PyData} (n' : (rs'.map keyL).Nodup) (l : rs.length = rs'.length) (mem : ∀ r ∈ rs, r ∈ rs') : rowEq rs rs' = true := by
  unfold rowEq
  rw [show (rs.length == rs'.length) = true by simpa using l, Bool.true_and]
  refine List.all_eq_true.mpr fun r hr => ?_
  rw [rowAt_self n' (mem r hr)]
  exact PySem.SeqAt.eqv_refl _ (SeqAt.canLay_of_shaped (sh r hr))
theorem modesEq_map {ms : List PyData} {g : PyData → PyData} : modesEq ms (ms.map g) = ms.all fun m => modeEq m (g m) := by
  unfold modesEq
  rw [List.length_map, show (ms.length == ms.length) = true by simp, Bool.true_and, Bool.eq_iff_iff, List.all_eq_true, List.all_eq_true]
  constructor
  · intro h m hm
    obtain ⟨i, ei⟩ := List.mem_iff_getElem?.mp hm
    have lt := (List.getElem?_eq_some_iff.mp ei).1
    have := h i (List.mem_range.mpr lt)
    rw [List.getD_eq_getElem?_getD, ei, List.getD_eq_getElem?_getD, List.getElem?_map, ei] at this
    exact this
  · intro h i hi
    have lt := List.mem_range.mp hi
    obtain ⟨m, em⟩ : ∃ m, ms[i]? = some m := ⟨_, List.getElem?_eq_getElem lt⟩
    rw [List.getD_eq_getElem?_getD, em, List.getD_eq_getElem?_getD, List.getElem?_map, em]
    exact h m (List.mem_of_getElem? em)
/-- a mode with its rows turned round, as a tuple -/
def spinM (m : PyData) : PyData := .tuple [itD m 0, itD m 1, .tuple (itemsD (itD m 2)).reverse]
theorem PartsOk.spin {d0 d1 d2 d3 d4 : PyData} (h : PartsOk d0 d1 d2 d3 d4) : PartsOk d0 (.tuple (itemsD d1)) (.tuple ((itemsD d2).map spinM)) (.tuple (itemsD d3)) d4 := by
  obtain ⟨s2, m4, all2⟩ := partsD_all h.modes
  have rs := rowsErr_none h.rows
  have mk : ∀ m ∈ itemsD d2, modeD (spinM m) = true ∧ nmOf (spinM m) = nmOf m := fun m hm => by
    obtain ⟨a, b, _⟩ := ruleM_ok (all2 m hm) (modeD_rule (all2 m hm))
    refine ⟨?_, by unfold spinM; rw [modeD_name (all2 m hm)]; rfl⟩
    have e : modeD (ruleM (itD m 1) m) = (true && (true && (nameD (itD m 0) && (ruleD (itD m 1) && true)))) := rfl
    have e' : modeD (spinM m) = (true && (true && (nameD (itD m 0) && (ruleD (itD m 1) && true)))) := rfl
    rw [e', ← e]
    exact a
  refine h.again (d2' := .tuple ((itemsD d2).map spinM)) rfl (List.length_map _) ?_ ?_ ?_
  · show ((itemsD d2).map spinM).map nmOf = _
    rw [List.map_map]
    exact List.map_congr_left fun m hm => (mk m hm).2
  · intro m hm
    obtain ⟨md, hm2, rfl⟩ := List.mem_map.mp hm
    exact (mk md hm2).1
  · intro m hm
    obtain ⟨md, hm2, rfl⟩ := List.mem_map.mp hm
    have w := rs md hm2
    obtain ⟨w1, w2⟩ := wrongRow_rows w
    have w2 : ((itemsD (itD md 2)).map keyD).Nodup := by simpa using w2 List.nodup_nil
    have w3 := wrongRow_none w
    rw [List.nil_append] at w3
    show wrongRow _ _ _ (itemsD (itD md 2)).reverse [] 0 = none
    refine wrongRow_of (fun x hx => w1 x (List.mem_reverse.mp hx)) (fun z hz => by cases hz) ?_ ?_
    · rw [List.nil_append, List.map_reverse]
      exact nd_rev w2
    · rw [List.nil_append, List.map_reverse]
      unfold keyIn at w3 ⊢
      rw [List.any_reverse]
      exact w3
theorem lay_refl {d : PyData} {n : Nat} (h : Shp n d) : PyData.eqv d d = true := PySem.SeqAt.eqv_refl _ h.1
theorem eqv_int {i j : Int} : PyData.eqv (.int i) (.int j) = decide (i = j) := by
  by_cases c : i = j
  · subst c
    simp [PyData.eqv]
  · simp [PyData.eqv, c]
theorem PartsOk.nameRefl {d0 d1 d2 d3 d4 : PyData} (h : PartsOk d0 d1 d2 d3 d4) {m : PyData} (hm : m ∈ itemsD d2) : PyData.eqv (itD m 0) (itD m 0) = true ∧ PyData.eqv (itD m 1) (itD m 1) = true := by
  have k := (partsD_all h.modes).2.2 m hm
  have r := modeD_rule k
  unfold modeD at k
  simp only [Bool.and_eq_true] at k
  exact ⟨lay_refl (nameD_shp k.2.2.1), lay_refl (ruleD_shp r)⟩
theorem PartsOk.rowsRefl {d0 d1 d2 d3 d4 : PyData} (h : PartsOk d0 d1 d2 d3 d4) {m : PyData} (hm : m ∈ itemsD d2) : rowEq (itemsD (itD m 2)) (itemsD (itD m 2)) = true := rowEq_rev (h.row hm).2 (h.rowShp hm) (h.row hm).2 rfl fun _ h => h
theorem PartsOk.eqRegs {d0 d1 d2 d3 d4 : PyData} (h : PartsOk d0 d1 d2 d3 d4) : PyData.eqv (.tuple (itemsD d1)) (.tuple (itemsD d1)) = true := lay_refl h.regsShp
theorem PartsOk.eqEnds {d0 d1 d2 d3 d4 : PyData} (h : PartsOk d0 d1 d2 d3 d4) : PyData.eqv (.tuple (itemsD d3)) (.tuple (itemsD d3)) = true := lay_refl h.endsShp
theorem PartsOk.eqRes {d0 d1 d2 d3 d4 : PyData} (h : PartsOk d0 d1 d2 d3 d4) : PyData.eqv d4 d4 = true := lay_refl h.resShp
theorem eq_spin {b : Int} {d1 d2 d3 d4 : PyData} (h : PartsOk (.int b) d1 d2 d3 d4) : progEq b d1 d2 d3 d4 b (.tuple (itemsD d1)) (.tuple ((itemsD d2).map spinM)) (.tuple (itemsD d3)) d4 = true := by
  rw [progEq_eq, eqv_int, decide_eq_true rfl, show itemsD (.tuple (itemsD d1)) = itemsD d1 from rfl, show itemsD (.tuple ((itemsD d2).map spinM)) = (itemsD d2).map spinM from rfl, show itemsD (.tuple (itemsD d3)) = itemsD d3 from rfl, h.eqRegs, h.eqEnds, h.eqRes, modesEq_map]
  simp only [Bool.true_and, Bool.and_true]
  refine List.all_eq_true.mpr fun m hm => ?_
  rw [modeEq_eq]
  have e0 : itD (spinM m) 0 = itD m 0 := rfl
  have e1 : itD (spinM m) 1 = itD m 1 := rfl
  have e2 : itemsD (itD (spinM m) 2) = (itemsD (itD m 2)).reverse := rfl
  obtain ⟨a, b⟩ := h.nameRefl hm
  have n := (h.row hm).2
  rw [e0, e1, e2, a, b, rowEq_rev n (h.rowShp hm) (by rw [List.map_reverse]; exact nd_rev n) (by rw [List.length_reverse]) (fun r hr => List.mem_reverse.mpr hr)]
  rfl
theorem eq_norm {b : Int} {d1 d2 d3 d4 : PyData} (h : PartsOk (.int b) d1 d2 d3 d4) (b' : Int) (d3' d4' : PyData) : progEq b d1 d2 d3 d4 b' (.tuple (itemsD d1)) (.tuple ((itemsD d2).map normM)) d3' d4' = (decide (b = b') && (PyData.eqv (.tuple (itemsD d3)) (.tuple (itemsD d3')) && PyData.eqv d4 d4')) := by
  rw [progEq_eq, eqv_int, show itemsD (.tuple (itemsD d1)) = itemsD d1 from rfl, show itemsD (.tuple ((itemsD d2).map normM)) = (itemsD d2).map normM from rfl, h.eqRegs, modesEq_map]
  have e : ((itemsD d2).all fun m => modeEq m (normM m)) = true := List.all_eq_true.mpr fun m hm => by
    rw [modeEq_eq]
    have e0 : itD (normM m) 0 = itD m 0 := rfl
    have e1 : itD (normM m) 1 = itD m 1 := rfl
    have e2 : itemsD (itD (normM m) 2) = itemsD (itD m 2) := rfl
    obtain ⟨a, b⟩ := h.nameRefl hm
    rw [e0, e1, e2, a, b, h.rowsRefl hm]
    rfl
  rw [e]
  simp only [Bool.true_and, Bool.and_true]
theorem eqvAll_rep {r : PyData} : ∀ {xs : List PyData}, PyData.eqvAll xs (List.replicate xs.length r) = xs.all fun x => PyData.eqv x r
  | [] => by simp [PyData.eqvAll]
  | x :: xs => by
    rw [List.length_cons, List.replicate_succ, List.all_cons]
    simp only [PyData.eqvAll]
    rw [eqvAll_rep]
theorem eq_under {b : Int} {d1 d2 d3 d4 r : PyData} (h : PartsOk (.int b) d1 d2 d3 d4) : progEq b d1 d2 d3 d4 b (.tuple (itemsD d1)) (.list ((itemsD d2).map (ruleM r))) (.tuple (itemsD d3)) d4 = PyData.eqv (.list ((itemsD d2).map (itD · 1))) (.list (List.replicate (itemsD d2).length r)) := by
  rw [progEq_eq, eqv_int, decide_eq_true rfl, show itemsD (.tuple (itemsD d1)) = itemsD d1 from rfl, show itemsD (.list ((itemsD d2).map (ruleM r))) = (itemsD d2).map (ruleM r) from rfl, show itemsD (.tuple (itemsD d3)) = itemsD d3 from rfl, h.eqRegs, h.eqEnds, h.eqRes, modesEq_map]
  simp only [Bool.true_and, Bool.and_true]
  have e : PyData.eqv (.list ((itemsD d2).map (itD · 1))) (.list (List.replicate (itemsD d2).length r)) = PyData.eqvAll ((itemsD d2).map (itD · 1)) (List.replicate ((itemsD d2).map (itD · 1)).length r) := by
    rw [List.length_map]
    simp only [PyData.eqv]
  rw [e, eqvAll_rep, List.all_map, Bool.eq_iff_iff, List.all_eq_true, List.all_eq_true]
  have st : ∀ m ∈ itemsD d2, modeEq m (ruleM r m) = PyData.eqv (itD m 1) r := fun m hm => by
    rw [modeEq_eq]
    have e0 : itD (ruleM r m) 0 = itD m 0 := rfl
    have e1 : itD (ruleM r m) 1 = r := rfl
    have e2 : itemsD (itD (ruleM r m) 2) = itemsD (itD m 2) := rfl
    obtain ⟨a, _⟩ := h.nameRefl hm
    rw [e0, e1, e2, a, h.rowsRefl hm]
    simp only [Bool.true_and, Bool.and_true]
  refine ⟨fun k m hm => ?_, fun k m hm => ?_⟩
  · have := k m hm
    rw [st m hm] at this
    exact this
  · rw [st m hm]
    exact k m hm
theorem not_nines {gs : List PyData} (l : 1 ≤ gs.length) (h : ∀ g ∈ gs, ∃ c : Int, g = .int c ∧ c ≤ 2) : PyData.eqv (.tuple gs) (.tuple (List.replicate gs.length (.int 9))) = false := by
  cases gs with
  | nil => simp at l
  | cons g gs =>
    obtain ⟨c, rfl, hc⟩ := h g List.mem_cons_self
    rw [List.length_cons, List.replicate_succ]
    simp only [PyData.eqv, PyData.eqvAll]
    rw [show (c == 9) = false by simp; omega]
    rfl
end
section
variable {P : Program} {w : World} {K : PySem.W.Frag} {mg : Str → Option Value} {base : Heap} {aR CP CB CG CM CI CE CR CU CS CN : Addr}
abbrev s_law : Stmt := top 64
abbrev N_law : List Str := ["_law_script", "_law_k", "_law_pool_here", "_law_parts_here", "_law_handed", "_law_name", "_law_rule", "_law_rows_here", "_law_one", "_law_held", "_law_spun", "_law_near", "_law_mode"]
theorem sc_law : FnScope N_law ["_law_script"] (defScope s_law) := ⟨rfl, rfl, rfl, by decide +kernel, rfl, by decide +kernel, by decide +kernel⟩
def forBody : Stmt → List Stmt
  | .For (body := b) .. => b
  | _ => []
def lawFor : List Stmt := forBody ((defBody s_law).getD 0 (.Pass ⟨0, 0, 0, 0⟩))
structure NfP (K : PySem.W.Frag) (CP : Addr) : Prop where
  l : PySem.W.notFirst K CP (.type "list") = true
  n : PySem.W.notFirst K CP (.type "NoneType") = true
  i : PySem.W.notFirst K CP (.type "int") = true
/-- what the law calls -/
structure LawB (P : Program) (w : World) (K : PySem.W.Frag) (mg : Str → Option Value) (base : Heap) (CP CB CG CM CI CE CR CU : Addr) : Prop where
  M : PMeth P w K mg base CP CU
  mkp : MkP P w K mg base CP CB CG CM CI CE CR
  eq : OwnM P w K mg base CP 2 "__eq__" ["self", "other"] (spPEq P w CP)
  NE : NeO K CP
  nf : NfP K CP
  regs : OwnMeth P w K mg base CP 1 "registers" ["self"] (spPRegs P w CP)
  modes : OwnMeth P w K mg base CP 1 "modes" ["self"] (spPModes P w CP)
  rows : OwnMeth P w K mg base CP 4 "rows_of" ["self", "mode"] (spPRowsOf P w CP CU)
  told : Ok P w K mg base 5 "_law_told" ["_law_one"] (spTold P w CP)
  due : Ok P w K mg base 1 "_law_due" ["_law_parts_here"] spDue
  right : Ok P w K mg base 6 "_law_rows_right" ["_law_one", "_law_parts_here"] (spRowsRight P w CP)
  changes : Ok P w K mg base 12 "_law_changes_right" ["_law_pool_here", "_law_one", "_law_parts_here"] (spChanges P w CP)
  pool : Ok P w K mg base 1 "_law_pool" ["_law_script", "_law_k"] (spPool K)
  parts : Ok P w K mg base 5 "_law_parts" ["_law_pool_here", "_law_sizes", "_law_most"] spLParts
theorem DtAll.rev {Z : Addr → Prop} {H : Hp} : ∀ {vs : List V} {ds : List PyData}, DtAll Z H vs ds → DtAll Z H vs.reverse ds.reverse
  | _, _, .nil => .nil
  | _, _, .cons a b => by
    rw [List.reverse_cons, List.reverse_cons]
    exact DtAll.append (DtAll.rev b) (.cons a .nil)
theorem lst_is {P : Program} {w : World} {H : Hp} {b : Addr} {xs : List V} (eb : H b = some (.lst xs)) : ∀ h : Heap, HOk P w H h → ∃ o : Obj, h.get? b = some o ∧ o.cls = .type "list" := fun h ok => by
  obtain ⟨z, its, n, r, e⟩ := (show ObjOk P w H h b (.lst xs) from ok b _ eb)
  exact ⟨_, e, rfl⟩
/-- what stays at the end of a turn -/
structure LawS (P : Program) (w : World) (CP : Addr) (size b1 : Int) (many : Nat) (zs : List Str) (regs modes ends goal : List PyData) (p a : Addr) (H : Hp) : Prop where
  DR : Drawn size b1 many zs regs modes ends goal
  PK : ProgOk P w CP H p b1 (.list regs) (.list modes) (.list ends) (.tuple goal)
  dv : Dt Z0 H (.ref a) (.list [.int b1, .list regs, .list modes, .list ends, .tuple goal])
theorem LawS.same {size b1 : Int} {many : Nat} {zs : List Str} {regs modes ends goal : List PyData} {p a : Addr} {H H' : Hp} (h : LawS P w CP size b1 many zs regs modes ends goal p a H) (s : Same H H') : LawS P w CP size b1 many zs regs modes ends goal p a H' := ⟨h.DR, h.PK.same s, h.dv.fr (Fm.of s)⟩
end
section
variable {P : Program} {w : World} {K : PySem.W.Frag} {mg : Str → Option Value} {base : Heap} {aR CP CB CG CM CI CE CR CU CS CN : Addr} {f : Addr} {cdv : Value} {A : Around} {outer : List Env} {s : Shared} {H0 : Hp} {E : XK}
theorem lawC (hr : Room 12 (A.deeper (PyProof.Rows.envOfC "law" (defScope s_law) s.heap.objs.size f cdv))) (T : Txt K mg aR) (B : LawB P w K mg base CP CB CG CM CI CE CR CU) :
    ∃ t, PSs (cxOf CX0 P w K mg base N_law "law" (defScope s_law) f cdv A outer s H0 E).nox (lawFor.drop 7) t ∧ ∀ {size b1 : Int} {many : Nat} {zs : List Str} {regs modes ends goal : List PyData} {a0 pp p a : Addr} {H : Hp} {Dn : Ends}, LawS P w CP size b1 many zs regs modes ends goal p a H → (∀ σ' H', Same H H' → (∃ w1 w2 w3 w4 w5 w6 w7 w8 w9 w10 w11 w12 : Option V, σ' = [some (.ref a0), w1, w2, w3, w4, w5, w6, w7, w8, w9, w10, w11, w12]) → Dn.nx σ' H') → ∀ v1 v4 v5 v6 v7 v9 v10 v11 v12 : Option V,
      t Dn [some (.ref a0), v1, some (.ref pp), some (.ref a), v4, v5, v6, v7, some (.ref p), v9, v10, v11, v12] H := by
  have C := B.M.C
  have mk := B.mkp
  have mEq := B.eq
  have NE := B.NE
  have nf := B.nf
  have mUnder := B.M.under
  have mChg := B.M.chg
  have O__law_told := B.told
  have O__law_due := B.due
  have O__law_rows_right := B.right
  have O__law_changes_right := B.changes
  refine ⟨_, pss_cons (ps_setLc (i := 10) (own := [("_law_name", 5), ("_law_rule", 6), ("_law_rows_here", 7)]) (g := (gTupT 3 (gCons (gName 5) (gCons (gName 6) (gCons (gName 7) gNil))))) (tt := tYes) rfl sc_law.nd rfl rfl (sw_true rfl rfl rfl (by decide +kernel)) (pi_seq (pe_ix ixl (pv 3) pe_int (fun _ _ => rfl))) (blkOk_by (N := N_law) (sc := defScope s_law) (by decide +kernel)) (fun _ _ _ _ _ => (pgT (n := 3) (by rfl) (pgs_cons (pg_name (i := 5) sc_law.nd rfl (by first | exact Or.inl rfl | exact Or.inr rfl)) (pgs_cons (pg_name (i := 6) sc_law.nd rfl (by first | exact Or.inl rfl | exact Or.inr rfl)) (pgs_cons (pg_name (i := 7) sc_law.nd rfl (by first | exact Or.inl rfl | exact Or.inr rfl)) pgs_nil))))) (fun _ _ _ _ _ => pts_nil) (fun _ _ _ _ _ => (pe_tup (pa_cons (pv 5) (pa_cons (pv 6) (pa_cons (pe_callTy tupT (by rfl) T.tuple bb_tuple (pa_cons (pe_rev (pv 7) (pe_un un_neg pe_int)) pa_nil)) pa_nil))))))
    (pss_cons (ps_if (pt_cmpR (op_ne2O NE mEq (hr.mono (by decide)) passL) (pv 8) (pe_mkP mk C.at_ (hr.mono (by decide)) passL rfl (pa_cons (pe_ix ixl (pv 3) pe_int (fun _ _ => rfl)) (pa_cons (pe_callTy tupT (by rfl) T.tuple bb_tuple (pa_cons (pe_ix ixl (pv 3) pe_int (fun _ _ => rfl)) pa_nil)) (pa_cons (pe_callTy tupT (by rfl) T.tuple bb_tuple (pa_cons (pv 10) pa_nil)) (pa_cons (pe_callTy tupT (by rfl) T.tuple bb_tuple (pa_cons (pe_ix ixl (pv 3) pe_int (fun _ _ => rfl)) pa_nil)) (pa_cons (pe_ix ixl (pv 3) pe_int (fun _ _ => rfl)) pa_nil)))))) (nomark _))
        (pss_one (ps_ret pe_bl))
        pss_nil)
    (pss_cons (ps_set (i := 11) sc_law.nd rfl (.inl rfl) (pe_cmpR (eqD hr.units) (pe_lc (own := [("_law_mode", 12)]) (g := (gName 12)) (tt := tYes) rfl sc_law.nd (pi_seq (pe_ix ixl (pv 3) pe_int (fun _ _ => rfl))) (blkOk_by (N := N_law) (sc := defScope s_law) (by decide +kernel)) (fun _ _ _ _ _ => (pg_name (i := 12) sc_law.nd rfl (by first | exact Or.inl rfl | exact Or.inr rfl))) (fun _ _ _ _ _ => pts_nil) (fun _ _ _ _ _ => (pe_ix ixt (pv 12) pe_int (fun _ _ => rfl)))) (pe_op op_rep (pe_lst (pa_cons pe_str pa_nil)) (pe_callB lenT (by rfl) T.len bb_len (pa_cons (pe_ix ixl (pv 3) pe_int (fun _ _ => rfl)) pa_nil))) (nomark _)))
    (pss_cons (ps_if (PW.pt (pw_or (pt_cmpR (op_cmp2O mEq (hr.mono (by decide)) passL rfl) (pv 8) (pe_chgB (pv 8) C.cl mChg (hr.mono (by decide)) passL (pe_op op_sub pe_int (pe_ix ixl (pv 3) pe_int (fun _ _ => rfl)))) (nomark _)) (pw_or1 (pt_cmpR op_ne (pe_cmpR (op_cmp2O mEq (hr.mono (by decide)) passL rfl) (pv 8) (pe_methO (pv 8) C.cl mUnder (hr.mono (by decide)) passL (pa_cons pe_str pa_nil)) (nomark _)) (pv 11) (nomark _)))))
        (pss_one (ps_ret pe_bl))
        pss_nil)
    (pss_one (ps_if (PW.pt (pw_or (pt_cmpR (op_eqRefO mEq (hr.mono (by decide)) passL nf.l rfl) (pv 8) (pv 3) (nomark _)) (pw_or (pt_not (pt_cmpR (op_neTO NE mEq (hr.mono (by decide)) passL nf.n) (pv 8) pe_non (nomark _))) (pw_or (pt_cmpR (op_cmpTO mEq (hr.mono (by decide)) passL nf.i rfl) (pv 8) pe_int (nomark _)) (pw_or1 (pt_cmpR (op_cmp2O mEq (hr.mono (by decide)) passL rfl) (pv 8) (pe_chgR (pv 8) C.cl mChg (hr.mono (by decide)) passL (pe_op (op_repT) (pe_tup (pa_cons pe_int pa_nil)) (pe_callB lenT (by rfl) T.len bb_len (pa_cons (pe_ix ixl (pv 3) pe_int (fun _ _ => rfl)) pa_nil)))) (nomark _)))))))
        (pss_one (ps_ret pe_bl))
        pss_nil))))), ?_⟩
  intro size b1 many zs regs modes ends goal a0 pp p a H Dn S nxt v1 v4 v5 v6 v7 v9 v10 v11 v12
  have DR := S.DR
  have PO := DR.ok
  have m1 := DR.m1
  have m0 := DR.m0
  have lnz := DR.lz3
  have lm := DR.lm
  have lr := DR.lr
  -- spun
  obtain ⟨a', v1', am, xm, ae, xe, v4', ea1, ea, _, g1, em, _, dm, ee, _, de, g4⟩ := parts_inv S.dv
  cases ea1
  have lxm : xm.length = modes.length := dm.len
  refine ⟨_, rfl, a, _, _, _, rfl, rfl, ea, atI_nat (j := 2) rfl, am, xm, _, rfl, .inl rfl, em, fun J wk D hD => ?_⟩
  refine lc_dat wk Z0 (fun G => G D = none ∨ ∃ acc, G D = some (.lst acc)) (modes.map spinM) (by simp [lxm]) hD id (.inl hD) (fun G l _ _ => .inr ⟨l, upd_same⟩) (by rw [lxm, lm]; exact Nat.lt_of_le_of_lt lnz (by decide)) (fun G f => f _ _ em id) ?_ ?_
  · intro i x dd G0 G Qk ed f iD ne y zq
    obtain ⟨rfl, ex⟩ := y
    rw [List.getElem?_map] at ed
    obtain ⟨m, e3, rfl⟩ := Option.map_eq_some_iff.mp ed
    obtain ⟨d', e4, dt⟩ := ((DtAll.off' hD dm).fr (Fm.zu f)).get ex
    rw [e3] at e4
    cases e4
    obtain ⟨zn, ru, rows, rfl, hru, rl, l4, wr, hzn⟩ := DR.shape (List.mem_of_getElem? e3)
    obtain ⟨pm, ys, rfl, dy, hpm, _, _⟩ := dt.tupOf rfl
    obtain ⟨x0, x1, x2, c0, c1, c2, rfl, eds, w0, w1, w2⟩ := three_dt dy rfl
    have eds : [PyData.str zn, .str ru, .list rows] = [c0, c1, c2] := eds
    injection eds with q0 eds
    injection eds with q1 eds
    injection eds with q2 eds
    subst q0 q1 q2
    cases w0
    cases w1
    obtain ⟨ar, xr, rfl, ear, nar, dr⟩ := w2.lst_inv
    obtain ⟨acc, eD⟩ : ∃ acc, G D = some (.lst acc) := iD.elim (fun h => absurd rfl (ne D h)) id
    refine ⟨pm, _, rfl, hpm, rfl, _, _, rfl, _, _, rfl, _, _, rfl, rfl, rfl, ?_⟩
    refine ⟨_, rfl, _, rfl, _, rfl, 1, rfl, rfl, ar, xr, rfl, ear, fun q1 hq1 => ⟨q1, _, rfl, .inl ⟨upd_same, fun q2 hq2 => ?_⟩⟩⟩
    have s1 : Same G (upd G q1 (.lst xr.reverse)) := Same.new hq1
    generalize upd G q1 (HO.lst xr.reverse) = G1 at s1 hq2 ⊢
    refine ⟨by show 3 ≤ sizeLine; decide, fun t nt => ?_⟩
    have s2 : Same G1 (upd G1 q2 (.tup xr.reverse)) := Same.new hq2
    have y2 : (upd G1 q2 (.tup xr.reverse)) q2 = some (.tup xr.reverse) := upd_same
    generalize upd G1 q2 (HO.tup xr.reverse) = G2 at s2 y2 nt ⊢
    have s3 : Same G2 (upd G2 t (.tup [.str zn, .str ru, .ref q2])) := Same.new nt
    have s13 := (s1.trans s2).trans s3
    exact zq _ _ (Fm.of s13) (.inr ⟨acc, s13 _ _ eD⟩) (.tup upd_same (zu_ne id (ne t ((s1.trans s2).free nt))) (.cons (.str _) (.cons (.str _) (.cons (.tup (s3 _ _ y2) (zu_ne id (ne q2 (s1.free hq2))) (DtAll.rev (dr.fr (Fm.of s13)))) .nil))))
  intro H1 xsp fM _ eD dM0
  have s1 : Same H H1 := fM.same
  have dsp : DtAll Z0 H1 xsp (modes.map spinM) := dM0.mono' fun _ m => m.elim
  clear dM0 wk
  have S1 := S.same s1
  obtain ⟨⟨dx, _, _, _, _, _, e, _⟩, _, z1, z2⟩ := id S1.PK
  obtain ⟨ar, xr, rfl, ear, _, dr⟩ := g1.lst_inv
  obtain ⟨ag, xg, rfl, eg, _, dg⟩ := g4.tup_inv
  -- one != Program(..)
  have ea1 := s1 _ _ ea
  refine ⟨_, rfl, _, rfl, a, _, _, _, rfl, rfl, ea1, atI0, ?_⟩
  refine ⟨_, rfl, a, _, _, _, rfl, rfl, ea1, atI1, ar, xr, rfl, .inl ⟨s1 _ _ ear, fun l1 hl1 => ?_⟩⟩
  have t1 : Same H1 (upd H1 l1 (.tup xr)) := Same.new hl1
  have u1 : (upd H1 l1 (.tup xr)) l1 = some (.tup xr) := upd_same
  generalize upd H1 l1 (HO.tup xr) = H2 at t1 u1 ⊢
  refine ⟨_, rfl, D, xsp, rfl, .inl ⟨t1 _ _ eD, fun l2 hl2 => ?_⟩⟩
  have t2 : Same H2 (upd H2 l2 (.tup xsp)) := Same.new hl2
  have u2 : (upd H2 l2 (.tup xsp)) l2 = some (.tup xsp) := upd_same
  generalize upd H2 l2 (HO.tup xsp) = H3 at t2 u2 ⊢
  have s13 := t1.trans t2
  have s03 := s1.trans s13
  refine ⟨_, rfl, a, _, _, _, rfl, rfl, s03 _ _ ea, atI_nat (j := 3) rfl, ae, xe, rfl, .inl ⟨s03 _ _ ee, fun l3 hl3 => ?_⟩⟩
  have t3 : Same H3 (upd H3 l3 (.tup xe)) := Same.new hl3
  have u3 : (upd H3 l3 (.tup xe)) l3 = some (.tup xe) := upd_same
  generalize upd H3 l3 (HO.tup xe) = H4 at t3 u3 ⊢
  have s14 := s13.trans t3
  have s04 := s1.trans s14
  refine ⟨_, rfl, a, _, _, _, rfl, rfl, s04 _ _ ea, atI_nat (j := 4) rfl, fun c dc hc hd ne => ?_⟩
  have sN : Same H4 (upd (upd H4 dc (.own c)) c (.ins CP dc [])) := new_same hc hd
  have up : ∀ {v : V} {d : PyData}, Dt Z0 H4 v d → Dt Z0 (upd (upd H4 dc (.own c)) c (.ins CP dc [])) v d := fun h => h.fr (Fm.of sN)
  have PS : PartsOk (.int b1) (.tuple regs) (.tuple (modes.map spinM)) (.tuple ends) (.tuple goal) := PO.spin
  have f1 := DR.few
  have d1' : Dt Z0 H4 (.ref l1) (.tuple regs) := .tup (t3 _ _ (t2 _ _ u1)) id (dr.fr (Fm.of s04))
  have d2' : Dt Z0 H4 (.ref l2) (.tuple (modes.map spinM)) := .tup (t3 _ _ u2) id (dsp.fr (Fm.of s14))
  have d3' : Dt Z0 H4 (.ref l3) (.tuple ends) := .tup u3 id (de.fr (Fm.of s04))
  have d4' : Dt Z0 H4 (.ref ag) (.tuple goal) := (Dt.tup eg id dg).fr (Fm.of s04)
  have zA : Sz 2 (.tuple regs) := ⟨z1.1, fun s e => (by cases e), z1.2.2⟩
  have zB : Sz 5 (.tuple (modes.map spinM)) := by
    refine ⟨by show (modes.map spinM).length ≤ 1000; rw [List.length_map]; omega, fun s e => (by cases e), fun x hx => ?_⟩
    obtain ⟨m, hm, rfl⟩ := List.mem_map.mp hx
    have zm := z2.2.2 m hm
    refine ⟨by show 3 ≤ 1000; decide, fun s e => (by cases e), fun y hy => ?_⟩
    have hy : y = itD m 0 ∨ y = itD m 1 ∨ y = .tuple (itemsD (itD m 2)).reverse := by simpa [spinM, itemsD] using hy
    have i0 := zm.item 0
    have i1 := zm.item 1
    have i2 := zm.item 2
    rcases hy with rfl | rfl | rfl
    · exact i0
    · exact i1
    · exact ⟨by show (itemsD (itD m 2)).reverse.length ≤ 1000; rw [List.length_reverse]; exact i2.1, fun s e => (by cases e), fun w hw => i2.2.2 w (List.mem_reverse.mp hw)⟩
  refine ⟨c, dc, .int b1, .ref l1, .ref l2, .ref l3, .ref ag, .int b1, .tuple regs, .tuple (modes.map spinM), .tuple ends, .tuple goal, rfl, upd_same, .int b1, up d1', up d2', up d3', up d4', zA, zB, f1.1, f1.2, fun _ H5 k PA => ⟨rfl, ?_⟩, fun e he => (by
    rw [partsOk_iff.mpr PS] at he
    cases he)⟩
  have s45 : Same H4 H5 := fun b o e => k b o (sN _ _ e) (ne_of_none e hc)
  have s05 := s04.trans s45
  have PKc : ProgOk P w CP H5 c b1 (.tuple regs) (.tuple (modes.map spinM)) (.tuple ends) (.tuple goal) := ⟨PA, PS, zA, zB⟩
  obtain ⟨⟨dxc, _, _, _, _, _, ec, _⟩, _⟩ := id PKc
  have S5 := S.same s05
  refine ⟨p, c, dx, dxc, _, _, rfl, rfl, (s14.trans s45) _ _ e, ec, p, b1, _, _, _, _, S5.PK, .inl ⟨c, b1, _, _, _, _, rfl, PKc, fun H6 s6 => ⟨_, rfl, _, rfl, ?_⟩⟩⟩
  rw [show progEq b1 (.list regs) (.list modes) (.list ends) (.tuple goal) b1 (.tuple regs) (.tuple (modes.map spinM)) (.tuple ends) (.tuple goal) = true from eq_spin PO]
  refine iteN (by decide) ?_
  have s06 := s05.trans s6
  -- near
  refine ⟨_, rfl, a, _, _, _, rfl, rfl, s06 _ _ ea, atI_nat (j := 2) rfl, am, xm, _, rfl, .inl rfl, s06 _ _ em, fun J wk D2 hD2 => ?_⟩
  refine lc_dat wk Z0 (fun _ => True) (modes.map (itD · 1)) (by simp [lxm]) hD2 id True.intro (fun _ _ _ _ => True.intro) (by rw [lxm, lm]; exact Nat.lt_of_le_of_lt lnz (by decide)) (fun G f => f _ _ (s06 _ _ em) id) ?_ ?_
  · intro i x dd G0 G Qk ed f _ ne y zq
    obtain ⟨rfl, ex⟩ := y
    rw [List.getElem?_map] at ed
    obtain ⟨m, e3, rfl⟩ := Option.map_eq_some_iff.mp ed
    obtain ⟨d', e4, dt⟩ := (dm.fr (Fm.of (s06.trans f.same))).get ex
    rw [e3] at e4
    cases e4
    obtain ⟨zn, ru, rows, rfl, hru, rl, l4, wr, hzn⟩ := DR.shape (List.mem_of_getElem? e3)
    obtain ⟨pm, x0, x1, x2, rfl, hpm, c0, c1, c2⟩ := dt.three
    cases c1
    exact ⟨rfl, _, rfl, pm, _, _, _, rfl, rfl, hpm, atI1, zq _ _ Fm.refl True.intro (.str _)⟩
  intro H7 xrl f7 _ eD2 dR0
  have s07 := s06.trans f7.same
  have dRl : Dt Z0 H7 (.ref D2) (.list (modes.map (itD · 1))) := .lst eD2 id (dR0.mono' fun _ m => m.elim)
  refine ⟨by show 1 ≤ sizeLine; decide, fun l8 hl8 => ?_⟩
  have s8 : Same H7 (upd H7 l8 (.lst [.str "near"])) := Same.new hl8
  have y8 : (upd H7 l8 (.lst [.str "near"])) l8 = some (.lst [.str "near"]) := upd_same
  generalize upd H7 l8 (HO.lst [.str "near"]) = H8 at s8 y8 ⊢
  have s08 := s07.trans s8
  refine ⟨_, rfl, a, _, _, _, rfl, rfl, s08 _ _ ea, atI_nat (j := 2) rfl, am, xm, rfl, .inl (s08 _ _ em), l8, _, [.str "near"], rfl, rfl, y8, by omega, by omega, by
    show 1 * _ ≤ _
    rw [Nat.one_mul]
    exact Nat.le_trans (show ((xm.length : Nat) : Int).toNat ≤ 3 by omega) (by decide), fun l9 hl9 => ?_⟩
  have s9 : Same H8 (upd H8 l9 (.lst (List.replicate ((xm.length : Nat) : Int).toNat [V.str "near"]).flatten)) := Same.new hl9
  have y9 : (upd H8 l9 (.lst (List.replicate ((xm.length : Nat) : Int).toNat [V.str "near"]).flatten)) l9 = some (.lst (List.replicate modes.length (.str "near"))) := by
    rw [upd_same, flat_one, show ((xm.length : Nat) : Int).toNat = modes.length by omega]
  generalize upd H8 l9 (HO.lst (List.replicate ((xm.length : Nat) : Int).toNat [V.str "near"]).flatten) = H9 at s9 y9 ⊢
  have s79 := s8.trans s9
  have s09 := s07.trans s79
  have dN : Dt Z0 H9 (.ref l9) (.list (List.replicate modes.length (.str "near"))) := .lst y9 id (DtAll.rep (.str "near") _)
  have shN : Shp 1 (.list (List.replicate modes.length (PyData.str "near"))) := shp_list fun x hx => by
    rw [List.eq_of_mem_replicate hx]
    exact shRule (by decide)
  have shR : Shp 1 (.list (modes.map (itD · 1))) := shp_list fun x hx => by
    obtain ⟨m, hm, rfl⟩ := List.mem_map.mp hx
    obtain ⟨zn, ru, rows, rfl, hru, _⟩ := DR.shape hm
    exact shRule hru
  refine ⟨_, _, Z0, Z0, dRl.fr (Fm.of s79), dN, shR.ok, shN.ok, ?_⟩
  have S9 := S.same s09
  obtain ⟨⟨dx9, _, _, _, _, _, e9, _⟩, _⟩ := id S9.PK
  have nb : b1 ≠ 0 - b1 := by
    have := DR.s0
    rcases DR.b with h | h <;> omega
  -- the base, the rule
  refine ⟨_, rfl, _, rfl, p, dx9, _, rfl, e9, rfl, _, rfl, a, _, _, _, rfl, rfl, s09 _ _ ea, atI0, _, _, rfl, rfl, rfl, ?_⟩
  have PO1 : PartsOk (.int (0 - b1)) (.tuple regs) (.tuple (modes.map normM)) (.tuple ends) (.tuple goal) := PO.chg (base_neg PO.base) size_neg (ends_tup PO.ends) PO.result
  refine ⟨p, .int (0 - b1), .non, .non, b1, .list regs, .list modes, .list ends, .tuple goal, 0 - b1, .tuple ends, .tuple goal, rfl, S9.PK, .inr ⟨(fun z => by cases z), .int _⟩, .inl ⟨rfl, rfl⟩, .inl ⟨rfl, rfl⟩, PO1, fun c10 H10 hc10 s10 PK10 => ?_⟩
  obtain ⟨⟨dx10, _, _, _, _, _, e10, _⟩, _⟩ := id PK10
  refine ⟨p, c10, dx9, dx10, _, _, rfl, rfl, s10 _ _ e9, e10, p, b1, _, _, _, _, S9.PK.same s10, .inl ⟨c10, 0 - b1, _, _, _, _, rfl, PK10, fun H11 s11 => ⟨_, rfl, ?_⟩⟩⟩
  have nq : progEq b1 (.list regs) (.list modes) (.list ends) (.tuple goal) (0 - b1) (.tuple regs) (.tuple (modes.map normM)) (.tuple ends) (.tuple goal) = false := by
    rw [show progEq b1 (.list regs) (.list modes) (.list ends) (.tuple goal) (0 - b1) (.tuple regs) (.tuple (modes.map normM)) (.tuple ends) (.tuple goal) = _ from eq_norm PO (0 - b1) _ _, decide_eq_false nb]
    rfl
  refine iteN (ne_true_of_eq_false nq) ?_
  have s011 := (s09.trans s10).trans s11
  have S11 := S.same s011
  obtain ⟨⟨dx11, _, _, _, _, _, e11, _⟩, _⟩ := id S11.PK
  refine ⟨_, rfl, _, rfl, p, dx11, _, rfl, e11, rfl, p, "near", b1, .list regs, .list modes, .list ends, .tuple goal, rfl, S11.PK, five_len (by decide), five_rule (by decide), fun c12 H12 hc12 s12 PK12 => ?_⟩
  obtain ⟨⟨dx12, _, _, _, _, _, e12, _⟩, _⟩ := id PK12
  refine ⟨p, c12, dx11, dx12, _, _, rfl, rfl, s12 _ _ e11, e12, p, b1, _, _, _, _, S11.PK.same s12, .inl ⟨c12, b1, _, _, _, _, rfl, PK12, fun H13 s13 => ⟨_, rfl, rfl, _, rfl, ?_⟩⟩⟩
  have hU : progEq b1 (.list regs) (.list modes) (.list ends) (.tuple goal) b1 (.tuple regs) (.list (modes.map (ruleM (.str "near")))) (.tuple ends) (.tuple goal) = PyData.eqv (.list (modes.map (itD · 1))) (.list (List.replicate modes.length (.str "near"))) := eq_under PO
  refine iteN (fun h => bnot_dec h (congrArg V.bl hU)) ?_
  have s013 := (s011.trans s12).trans s13
  have S13 := S.same s013
  obtain ⟨⟨dx13, _, _, _, _, _, e13, _⟩, _⟩ := id S13.PK
  -- the list, None, 5
  refine ⟨_, rfl, _, rfl, p, a, dx13, _, rfl, rfl, e13, lst_is (s013 _ _ ea), p, b1, _, _, _, _, S13.PK, .inr ⟨.ref a, _, rfl, S13.dv, _, rfl, iteF ?_⟩⟩
  refine ⟨_, rfl, p, dx13, _, rfl, e13, (fun u r => by cases r; rfl), p, b1, _, _, _, _, S13.PK, .inr ⟨.non, .none, rfl, .non, _, rfl, _, rfl, iteF ?_⟩⟩
  refine ⟨_, rfl, p, dx13, _, rfl, e13, (fun u r => by obtain ⟨t, rfl⟩ := r; rfl), p, b1, _, _, _, _, S13.PK, .inr ⟨.int 5, .int 5, rfl, .int 5, _, rfl, iteF ?_⟩⟩
  -- the result
  refine ⟨_, rfl, _, rfl, p, dx13, _, rfl, e13, rfl, by show 1 ≤ sizeLine; decide, fun t14 nt14 => ?_⟩
  have s14' : Same H13 (upd H13 t14 (.tup [.int 9])) := Same.new nt14
  have y14 : (upd H13 t14 (.tup [.int 9])) t14 = some (.tup [.int 9]) := upd_same
  generalize upd H13 t14 (HO.tup [.int 9]) = H14 at s14' y14 ⊢
  have s014 := s013.trans s14'
  have lg : xg.length = many + 1 := by rw [dg.len, DR.lg]
  have lg' : ((xg.length : Nat) : Int).toNat = many + 1 := by rw [lg]; rfl
  refine ⟨_, rfl, a, _, _, _, rfl, rfl, s014 _ _ ea, atI_nat (j := 4) rfl, ag, xg, rfl, .inr (s014 _ _ eg), t14, _, [.int 9], rfl, rfl, SqT.of y14, by simp, by omega, by omega, by decide, fun sv hsv => ?_⟩
  have s15 : Same H14 (upd H14 sv (.tup (List.replicate ((xg.length : Nat) : Int).toNat [V.int 9]).flatten)) := Same.new hsv
  have y15 : (upd H14 sv (.tup (List.replicate ((xg.length : Nat) : Int).toNat [V.int 9]).flatten)) sv = some (.tup (List.replicate (many + 1) (.int 9))) := by
    rw [upd_same, lg', flat_one]
  generalize upd H14 sv (HO.tup (List.replicate ((xg.length : Nat) : Int).toNat [V.int 9]).flatten) = H15 at s15 y15 ⊢
  have s015 := s014.trans s15
  have S15 := S.same s015
  have PO2 : PartsOk (.int b1) (.tuple regs) (.tuple (modes.map normM)) (.tuple ends) (.tuple (List.replicate (many + 1) (.int 9))) := PO.chg PO.base rfl (ends_tup PO.ends) (by
    show factD _ (((regs.length : Nat) : Int) + 1) = true
    rw [lr]
    exact sevens_fact (many + 1) 9 (by decide))
  have d9 : Dt Z0 H15 (.ref sv) (.tuple (List.replicate (many + 1) (.int 9))) := .tup y15 id (DtAll.rep (.int 9) _)
  refine ⟨rfl, p, .non, .non, .ref sv, b1, .list regs, .list modes, .list ends, .tuple goal, b1, .tuple ends, .tuple (List.replicate (many + 1) (.int 9)), rfl, S15.PK, .inl ⟨rfl, rfl⟩, .inl ⟨rfl, rfl⟩, .inr ⟨(fun z => by cases z), d9⟩, PO2, fun c16 H16 hc16 s16 PK16 => ?_⟩
  obtain ⟨⟨dx16, _, _, _, _, _, e16, _⟩, _⟩ := id PK16
  obtain ⟨⟨dx15, _, _, _, _, _, e15, _⟩, _⟩ := id S15.PK
  refine ⟨p, c16, dx15, dx16, _, _, rfl, rfl, s16 _ _ e15, e16, p, b1, _, _, _, _, S15.PK.same s16, .inl ⟨c16, b1, _, _, _, _, rfl, PK16, fun H17 s17 => ⟨_, rfl, ?_⟩⟩⟩
  have nn : PyData.eqv (.tuple goal) (.tuple (List.replicate (many + 1) (.int 9))) = false := by
    rw [← DR.lg]
    exact not_nines (by rw [DR.lg]; omega) fun g hg => by
      obtain ⟨i, ei⟩ := mem_ix hg
      obtain ⟨c, rfl, _, h2⟩ := DR.goal i g ei
      exact ⟨c, rfl, h2⟩
  have n9 : progEq b1 (.list regs) (.list modes) (.list ends) (.tuple goal) b1 (.tuple regs) (.tuple (modes.map normM)) (.tuple ends) (.tuple (List.replicate (many + 1) (.int 9))) = false := by
    rw [show progEq b1 (.list regs) (.list modes) (.list ends) (.tuple goal) b1 (.tuple regs) (.tuple (modes.map normM)) (.tuple ends) (.tuple (List.replicate (many + 1) (.int 9))) = _ from eq_norm PO b1 _ _, nn, Bool.and_false, Bool.and_false]
  refine iteN (ne_true_of_eq_false n9) ?_
  exact nxt _ H17 ((s015.trans s16).trans s17) ⟨_, _, _, _, _, _, _, _, _, _, _, _, rfl⟩
end
section
variable {P : Program} {w : World} {K : PySem.W.Frag} {mg : Str → Option Value} {base : Heap} {aR CP CB CG CM CI CE CR CU CS CN : Addr} {f : Addr} {cdv : Value} {A : Around} {outer : List Env} {s : Shared} {H0 : Hp} {E : XK}
theorem modesEq_mapL {ms : List PyData} {g : PyData → PyData} : modesEq (ms.map g) ms = ms.all fun m => modeEq (g m) m := by
  unfold modesEq
  rw [List.length_map, show (ms.length == ms.length) = true by simp, Bool.true_and, Bool.eq_iff_iff, List.all_eq_true, List.all_eq_true]
  constructor
  · intro h m hm
    obtain ⟨i, ei⟩ := List.mem_iff_getElem?.mp hm
    have lt := (List.getElem?_eq_some_iff.mp ei).1
    have := h i (List.mem_range.mpr lt)
    rw [List.getD_eq_getElem?_getD, List.getElem?_map, ei, List.getD_eq_getElem?_getD, ei] at this
    exact this
  · intro h i hi
    have lt := List.mem_range.mp hi
    obtain ⟨m, em⟩ : ∃ m, ms[i]? = some m := ⟨_, List.getElem?_eq_getElem lt⟩
    rw [List.getD_eq_getElem?_getD, List.getElem?_map, em, List.getD_eq_getElem?_getD, em]
    exact h m (List.mem_of_getElem? em)
theorem eq_normL {b : Int} {d1 d2 d3 d4 : PyData} (h : PartsOk (.int b) d1 d2 d3 d4) : progEq b (.tuple (itemsD d1)) (.tuple ((itemsD d2).map normM)) (.tuple (itemsD d3)) d4 b d1 d2 d3 d4 = true := by
  rw [progEq_eq, eqv_int, decide_eq_true rfl, show itemsD (.tuple (itemsD d1)) = itemsD d1 from rfl, show itemsD (.tuple ((itemsD d2).map normM)) = (itemsD d2).map normM from rfl, show itemsD (.tuple (itemsD d3)) = itemsD d3 from rfl, h.eqRegs, h.eqEnds, h.eqRes, modesEq_mapL]
  simp only [Bool.true_and, Bool.and_true]
  refine List.all_eq_true.mpr fun m hm => ?_
  rw [modeEq_eq]
  have e0 : itD (normM m) 0 = itD m 0 := rfl
  have e1 : itD (normM m) 1 = itD m 1 := rfl
  have e2 : itemsD (itD (normM m) 2) = itemsD (itD m 2) := rfl
  obtain ⟨a, b⟩ := h.nameRefl hm
  rw [e0, e1, e2, a, b, h.rowsRefl hm]
  rfl
section
variable {size b1 : Int} {many : Nat} {zs : List Str} {regs modes ends goal : List PyData}
theorem Drawn.told (DR : Drawn size b1 many zs regs modes ends goal) : toldD b1 (.list regs) (.list modes) (.list ends) (.tuple goal) = dueD b1 (.list regs) modes ends (.tuple goal) := by
  have := told_due (b := b1) (d1 := .list regs) (d2 := .list modes) (d3 := .list ends) (d4 := .tuple goal) (ms := modes) (f := fun m => m) (g := fun m => m) rfl rfl (by simp [itemsD]) (fun m hm => by
    obtain ⟨z, r, rows, rfl, _⟩ := DR.shape hm
    exact ⟨rfl, rfl, rfl⟩)
  rw [List.map_id'] at this
  exact this
theorem Drawn.shDue (DR : Drawn size b1 many zs regs modes ends goal) : SeqAt.shaped (dueD b1 (.list regs) modes ends (.tuple goal)) = true := (shp_due DR.shRegs DR.shGoal DR.shEnds (fun m hm => by
  obtain ⟨z, r, rows, rfl, hr5, rl, _, _, hz⟩ := DR.shape hm
  exact ⟨(DR.shName hz).mono (by decide), (shRule hr5).mono (by decide), DR.shRows rl⟩)).ok
end
theorem lawB (hr : Room 12 (A.deeper (PyProof.Rows.envOfC "law" (defScope s_law) s.heap.objs.size f cdv))) (T : Txt K mg aR) (B : LawB P w K mg base CP CB CG CM CI CE CR CU) :
    ∃ t, PSs (cxOf CX0 P w K mg base N_law "law" (defScope s_law) f cdv A outer s H0 E).nox (lawFor.drop 5) t ∧ ∀ {size b1 : Int} {many : Nat} {zs : List Str} {regs modes ends goal : List PyData} {a0 pp p a : Addr} {H : Hp} {Dn : Ends}, LawS P w CP size b1 many zs regs modes ends goal p a H → PoolAt H pp → Dt (Zp pp) H (.ref a) (.list [.int b1, .list regs, .list modes, .list ends, .tuple goal]) → (∀ σ' H', Keep pp H H' → (∃ w1 w2 w3 w4 w5 w6 w7 w8 w9 w10 w11 w12 : Option V, σ' = [some (.ref a0), w1, w2, w3, w4, w5, w6, w7, w8, w9, w10, w11, w12]) → Dn.nx σ' H') → ∀ v1 v4 v5 v6 v7 v9 v10 v11 v12 : Option V,
      t Dn [some (.ref a0), v1, some (.ref pp), some (.ref a), v4, v5, v6, v7, some (.ref p), v9, v10, v11, v12] H := by
  have C := B.M.C
  have mk := B.mkp
  have mEq := B.eq
  have NE := B.NE
  have nf := B.nf
  have mUnder := B.M.under
  have mChg := B.M.chg
  have O__law_told := B.told
  have O__law_due := B.due
  have O__law_rows_right := B.right
  have O__law_changes_right := B.changes
  obtain ⟨tN, TN, qN⟩ := lawC (E := E) (H0 := H0) (outer := outer) hr T B
  refine ⟨_, pss_cons (ps_if (PW.pt (pw_or (pt_cmpR (neD hr.units) (pe_cO O__law_told (hr.mono (by decide)) pass0 rfl (pa_cons (pv 8) pa_nil)) (pe_cO O__law_due (hr.mono (by decide)) pass0 rfl (pa_cons (pv 3) pa_nil)) (nomark _)) (pw_or1 (pt_not (pt_val (pe_cO O__law_rows_right (hr.mono (by decide)) pass0 rfl (pa_cons (pv 8) (pa_cons (pv 3) pa_nil))))))))
        (pss_one (ps_ret pe_bl))
        pss_nil)
    (pss_cons (ps_if (PW.pt (pw_or (pt_not (pt_val (pe_cO O__law_changes_right (hr.mono (by decide)) pass0 rfl (pa_cons (pv 2) (pa_cons (pv 8) (pa_cons (pv 3) pa_nil)))))) (pw_or (pt_cmpR (neD hr.units) (pe_cO O__law_told (hr.mono (by decide)) pass0 rfl (pa_cons (pv 8) pa_nil)) (pe_cO O__law_due (hr.mono (by decide)) pass0 rfl (pa_cons (pv 3) pa_nil)) (nomark _)) (pw_or1 (pt_cmpR (op_ne2O NE mEq (hr.mono (by decide)) passL) (pe_chg (pv 8) C.cl mChg (hr.mono (by decide)) passL) (pv 8) (nomark _))))))
        (pss_one (ps_ret pe_bl))
        pss_nil)
    TN), ?_⟩
  intro size b1 many zs regs modes ends goal a0 pp p a H Dn S P0 dvP nxt v1 v4 v5 v6 v7 v9 v10 v11 v12
  have DR := S.DR
  have PO := DR.ok
  have lnz := DR.lz3
  have lm := DR.lm
  refine ⟨_, rfl, p, b1, _, _, _, _, rfl, S.PK, fun u1 Ha1 sa1 hu1 du1 => ?_⟩
  refine ⟨_, rfl, .ref a, b1, .list regs, modes, ends, .tuple goal, rfl, (S.same sa1).dv, by omega, fun m hm => ?_, fun w1 Hb1 sb1 hw1 dw1 => ?_⟩
  · obtain ⟨z, r, rows, rfl, _⟩ := DR.shape hm
    exact ⟨rfl, rfl⟩
  rw [DR.told] at du1
  refine ⟨_, _, Z0, Z0, du1.fr (Fm.of sb1), dw1, DR.shDue, DR.shDue, _, rfl, ?_⟩
  rw [PySem.SeqAt.eqv_refl _ (SeqAt.canLay_of_shaped DR.shDue)]
  refine iteN (by decide) ?_
  have s2 := sa1.trans sb1
  have S2 := S.same s2
  refine ⟨_, rfl, _, rfl, p, .ref a, b1, .list regs, modes, ends, .tuple goal, .list regs, .tuple goal, rfl, S2.PK, S2.dv, fun m hm => ?_, fun H3 s3 => ⟨_, rfl, iteN (by decide) ?_⟩⟩
  · obtain ⟨z, r, rows, rfl, _⟩ := DR.shape hm
    exact ⟨_, _, _, rfl⟩
  have s03 := s2.trans s3
  have S3 := S.same s03
  have P3 := P0.same s03
  refine ⟨_, rfl, _, rfl, _, rfl, pp, p, .ref a, size, b1, many, zs, regs, modes, ends, goal, rfl, P3, DR, S3.PK, dvP.fr (Fm.of s03), fun H4 P4 k4 => ⟨_, rfl, iteN (by decide) ?_⟩⟩
  have k04 := (Same.keep s03).trans k4
  have S4 : LawS P w CP size b1 many zs regs modes ends goal p a H4 := ⟨DR, S.PK.keepP P0 k04, (dvP.fr k04.fr).z0⟩
  refine ⟨_, rfl, p, b1, _, _, _, _, rfl, S4.PK, fun u2 Ha2 sa2 hu2 du2 => ?_⟩
  refine ⟨_, rfl, .ref a, b1, .list regs, modes, ends, .tuple goal, rfl, (S4.same sa2).dv, by omega, fun m hm => ?_, fun w2 Hb2 sb2 hw2 dw2 => ?_⟩
  · obtain ⟨z, r, rows, rfl, _⟩ := DR.shape hm
    exact ⟨rfl, rfl⟩
  rw [DR.told] at du2
  refine ⟨_, _, Z0, Z0, du2.fr (Fm.of sb2), dw2, DR.shDue, DR.shDue, _, rfl, ?_⟩
  rw [PySem.SeqAt.eqv_refl _ (SeqAt.canLay_of_shaped DR.shDue)]
  refine iteN (by decide) ?_
  have s46 := sa2.trans sb2
  have S6 := S4.same s46
  obtain ⟨⟨dx6, _, _, _, _, _, e6, _⟩, _⟩ := id S6.PK
  have PO2 : PartsOk (.int b1) (.tuple regs) (.tuple (modes.map normM)) (.tuple ends) (.tuple goal) := PO.chg PO.base rfl (ends_tup PO.ends) PO.result
  refine ⟨_, rfl, p, dx6, _, rfl, e6, rfl, p, .non, .non, .non, b1, .list regs, .list modes, .list ends, .tuple goal, b1, .tuple ends, .tuple goal, rfl, S6.PK, .inl ⟨rfl, rfl⟩, .inl ⟨rfl, rfl⟩, .inl ⟨rfl, rfl⟩, PO2, fun c7 H7 hc7 s7 PK7 => ?_⟩
  obtain ⟨⟨dx7, _, _, _, _, _, e7, _⟩, _⟩ := id PK7
  have eqT : progEq b1 (.tuple regs) (.tuple (modes.map normM)) (.tuple ends) (.tuple goal) b1 (.list regs) (.list modes) (.list ends) (.tuple goal) = true := eq_normL PO
  refine ⟨_, rfl, c7, p, dx7, dx6, _, _, rfl, rfl, e7, s7 _ _ e6, c7, b1, _, _, _, _, PK7, .inl ⟨p, b1, _, _, _, _, rfl, S6.PK.same s7, fun H8 s8 => ⟨_, rfl, _, rfl, ?_⟩⟩⟩
  refine iteN (fun h => by
    have h : (!progEq b1 (.tuple regs) (.tuple (modes.map normM)) (.tuple ends) (.tuple goal) b1 (.list regs) (.list modes) (.list ends) (.tuple goal)) = true := h
    rw [eqT] at h
    cases h) ?_
  have s48 := (s46.trans s7).trans s8
  exact qN (S4.same s48) (fun σ' H' s' hs => nxt σ' H' (k04.trans (Same.keep (s48.trans s'))) hs) _ _ _ _ _ _ _ _ _
end
section
variable {P : Program} {w : World} {K : PySem.W.Frag} {mg : Str → Option Value} {base : Heap} {aR CP CB CG CM CI CE CR CU CS CN : Addr} {f : Addr} {cdv : Value} {A : Around} {outer : List Env} {s : Shared} {H0 : Hp} {E : XK}
mutual
theorem Dt.offS {Z Z' : Addr → Prop} {H : Hp} (n : ∀ b, Z' b → H b = none) {v : V} {d : PyData} (h : Dt Z H v d) : Dt (fun b => Z b ∨ Z' b) H v d :=
  match h with
  | .non => .non
  | .bl b => .bl b
  | .int i => .int i
  | .str x => .str x
  | .lst e m t => .lst e (fun z => z.elim m fun z => by rw [n _ z] at e; cases e) (DtAll.offS n t)
  | .tup e m t => .tup e (fun z => z.elim m fun z => by rw [n _ z] at e; cases e) (DtAll.offS n t)
theorem DtAll.offS {Z Z' : Addr → Prop} {H : Hp} (n : ∀ b, Z' b → H b = none) {vs : List V} {ds : List PyData} (h : DtAll Z H vs ds) : DtAll (fun b => Z b ∨ Z' b) H vs ds :=
  match h with
  | .nil => .nil
  | .cons a b => .cons (Dt.offS n a) (DtAll.offS n b)
end
theorem DtAll.z0A {Z : Addr → Prop} {H : Hp} {vs : List V} {ds : List PyData} (h : DtAll Z H vs ds) : DtAll Z0 H vs ds := h.mono' fun _ m => m.elim
def spLaw (K : PySem.W.Frag) : Sp := fun vs H Q _ => ∃ (a : Addr) (ns : List Int), vs = [.ref a] ∧ SqL K H a (ns.map V.int) ∧ ns.length ≤ 63 ∧ ∀ H', Q (.bl true) H'
theorem Drawn.m {size b1 : Int} {many : Nat} {zs : List Str} {regs modes ends goal : List PyData} (DR : Drawn size b1 many zs regs modes ends goal) : ("m" : Str) ∈ zs := by
  obtain ⟨k, e⟩ := DR.z
  have := DR.z0
  cases k with
  | zero => rw [e] at this; simp at this
  | succ k => rw [e]; exact List.mem_cons_self
theorem ok_law {f : Addr} {fd : FuncData} (F : Fun K "law" "law" s_law f fd) (T : Txt K mg aR) (B : LawB P w K mg base CP CB CG CM CI CE CR CU) : FnOk P w K mg base CX0 13 f fd ["_law_script"] (spLaw K) := by
  have C := B.M.C
  have mk := B.mkp
  have O__law_pool := B.pool
  have O__law_parts := B.parts
  have mRegs := B.regs
  have mModes := B.modes
  have mRows := B.rows
  refine F.ok sc_law (fun vs H Q E h => ?_) (fun cdv A outer s H vs Q E hr h => ?_)
  · obtain ⟨a, ns, rfl, _⟩ := h
    rfl
  · obtain ⟨a0, ns, rfl, hS, hlen, q⟩ := h
    obtain ⟨tN, TN, qN⟩ := lawB (E := E) (H0 := H) (outer := outer) hr T B
    refine ⟨_, pss_cons (ps_for PassesOwn.never rfl (pi_range1 (by rfl) T.range (pa_cons (pe_callB (call_max2 rfl) (by rfl) T.max bb_max (pa_cons pe_int (pa_cons (pe_callB (call_min2 rfl) (by rfl) T.min bb_min (pa_cons (pe_callB call_len_seq (by rfl) T.len bb_len (pa_cons (pv 0) pa_nil)) (pa_cons pe_int pa_nil))) pa_nil))) pa_nil)) (pg_name (i := 1) sc_law.nd rfl (.inl rfl))
      (pss_cons (ps_set (i := 2) sc_law.nd rfl (.inl rfl) (pe_cO O__law_pool (hr.mono (by decide)) pass0 rfl (pa_cons (pv 0) (pa_cons (pv 1) pa_nil))))
      (pss_cons (ps_set (i := 3) sc_law.nd rfl (.inl rfl) (pe_cO O__law_parts (hr.mono (by decide)) pass0 rfl (pa_cons (pv 2) (pa_cons (pe_lst (pa_cons pe_int (pa_cons pe_int (pa_cons pe_int pa_nil)))) (pa_cons pe_int pa_nil)))))
      (pss_cons (ps_set (i := 4) sc_law.nd rfl (.inl rfl) (pe_lst (pa_cons (pe_callTy listT (by rfl) T.list bb_list (pa_cons (pe_ix ixl (pv 3) pe_int (fun _ _ => rfl)) pa_nil)) (pa_cons (pe_lc (own := [("_law_name", 5), ("_law_rule", 6), ("_law_rows_here", 7)]) (g := (gTupT 3 (gCons (gName 5) (gCons (gName 6) (gCons (gName 7) gNil))))) (tt := tYes) rfl sc_law.nd (pi_seq (pe_ix ixl (pv 3) pe_int (fun _ _ => rfl))) (blkOk_by (N := N_law) (sc := defScope s_law) (by decide +kernel)) (fun _ _ _ _ _ => (pgT (n := 3) (by rfl) (pgs_cons (pg_name (i := 5) sc_law.nd rfl (by first | exact Or.inl rfl | exact Or.inr rfl)) (pgs_cons (pg_name (i := 6) sc_law.nd rfl (by first | exact Or.inl rfl | exact Or.inr rfl)) (pgs_cons (pg_name (i := 7) sc_law.nd rfl (by first | exact Or.inl rfl | exact Or.inr rfl)) pgs_nil))))) (fun _ _ _ _ _ => pts_nil) (fun _ _ _ _ _ => (pe_tup (pa_cons (pv 5) (pa_cons (pv 6) (pa_cons (pe_callTy listT (by rfl) T.list bb_list (pa_cons (pv 7) pa_nil)) pa_nil)))))) (pa_cons (pe_callTy listT (by rfl) T.list bb_list (pa_cons (pe_ix ixl (pv 3) pe_int (fun _ _ => rfl)) pa_nil)) pa_nil)))))
      (pss_cons (ps_set (i := 8) sc_law.nd rfl (.inl rfl) (pe_mkP mk C.at_ (hr.mono (by decide)) passL rfl (pa_cons (pe_ix ixl (pv 3) pe_int (fun _ _ => rfl)) (pa_cons (pe_ix ixl (pv 4) pe_int (fun _ _ => rfl)) (pa_cons (pe_ix ixl (pv 4) pe_int (fun _ _ => rfl)) (pa_cons (pe_ix ixl (pv 4) pe_int (fun _ _ => rfl)) (pa_cons (pe_ix ixl (pv 3) pe_int (fun _ _ => rfl)) pa_nil)))))))
      (pss_cons (ps_for PassesOwn.never rfl (pi_seq (pe_op op_cat (pv 4) (pe_lst (pa_cons (pe_ix ixt (pe_ix ixl (pe_ix ixl (pv 4) pe_int (fun _ _ => rfl)) pe_int (fun _ _ => rfl)) pe_int (fun _ _ => rfl)) (pa_cons (pe_methO0 (pv 8) C.cl mRegs (hr.mono (by decide)) passL) (pa_cons (pe_methO0 (pv 8) C.cl mModes (hr.mono (by decide)) passL) (pa_cons (pe_methO (pv 8) C.cl mRows (hr.mono (by decide)) passL (pa_cons pe_str pa_nil)) pa_nil))))))) (pg_name (i := 9) sc_law.nd rfl (.inl rfl))
        (pss_one (ps_expr (pe_bm0 PySem.F.plainAttrs_list PySem.F.slot_list_clear PySem.F.type_list_clear mt_clear (pv 9)))))
      TN))))))
      (pss_one (ps_ret pe_bl)), ?_⟩
    refine ⟨_, rfl, a0, _, rfl, .inl hS, _, _, rfl, _, _, rfl, ?_⟩
    rw [List.length_map]
    have hn : ∃ n : Int, n = (if (if (8 : Int) < (ns.length : Int) then (8 : Int) else (ns.length : Int)) > 1 then (if (8 : Int) < (ns.length : Int) then (8 : Int) else (ns.length : Int)) else 1) ∧ 0 ≤ n ∧ n ≤ 8 := by
      refine ⟨_, rfl, ?_, ?_⟩ <;> split <;> split <;> omega
    obtain ⟨nt, en, n0, n1⟩ := hn
    rw [← en]
    refine ⟨nt, rfl, by omega, by omega, for_range (n := nt.toNat) (fun i σ H' => Same H H' ∧ ∃ w1 w2 w3 w4 w5 w6 w7 w8 w9 w10 w11 w12 : Option V, σ = [some (.ref a0), w1, w2, w3, w4, w5, w6, w7, w8, w9, w10, w11, w12]) ⟨fun _ _ e => e, none, none, none, none, none, none, none, none, none, none, none, none, rfl⟩ ?_ ?_⟩
    · rintro i σ H1 hi ⟨s1, w1, w2, w3, w4, w5, w6, w7, w8, w9, w10, w11, w12, rfl⟩
      refine ⟨_, rfl, _, rfl, a0, ns, i, by rw [Int.zero_add]; rfl, s1.seq hS, by omega, fun pp H2 s2 hpp P2 => ?_⟩
      -- the parts
      refine ⟨_, rfl, by show 3 ≤ sizeLine; decide, fun sl hsl => ?_⟩
      have s3 : Same H2 (upd H2 sl (.lst [.int 2, .int 3, .int 10])) := Same.new hsl
      refine ⟨pp, sl, [2, 3, 10], 3, rfl, upd_same, P2.ne hsl, (by decide), by decide, by decide, by decide, by decide, P2.same s3, fun a size b1 many zs regs modes ends goal H4 ha P4 k4 DR dv => ?_⟩
      have s12 : Same H1 H4 ∨ True := .inr True.intro
      have PO := DR.ok
      have lnz := DR.lz3
      have lm := DR.lm
      have fw := DR.few
      obtain ⟨a', v1', am, xm, ae, xe, v4', ea1, ea, na, g1, em, nam, dm, ee, nae, de, g4⟩ := parts_inv dv
      cases ea1
      obtain ⟨ar, xr, rfl, ear, nar, dr⟩ := g1.lst_inv
      have lxm : xm.length = modes.length := dm.len
      -- what is handed in
      refine ⟨_, rfl, a, _, _, _, rfl, rfl, ea, atI1, ar, xr, rfl, .inl ear, fun l1 hl1 => ?_⟩
      have s5 : Same H4 (upd H4 l1 (.lst xr)) := Same.new hl1
      have y5 : (upd H4 l1 (.lst xr)) l1 = some (.lst xr) := upd_same
      generalize upd H4 l1 (HO.lst xr) = H5 at s5 y5 ⊢
      refine ⟨_, rfl, a, _, _, _, rfl, rfl, s5 _ _ ea, atI_nat (j := 2) rfl, am, xm, _, rfl, .inl rfl, s5 _ _ em, fun J wk D hD => ?_⟩
      refine lc_acc wk Z0 (fun _ => True) (fun i y G => ∃ T q xs m, modes[i]? = some m ∧ y = .ref T ∧ (∃ zn ru rows, m = .tuple [.str zn, .str ru, .list rows] ∧ G T = some (.tup [.str zn, .str ru, .ref q]) ∧ DtAll Z0 H5 xs rows) ∧ T ≠ D ∧ q ≠ D ∧ H5 q = none ∧ G q = some (.lst xs)) hD id True.intro (fun _ _ _ _ => True.intro) ?_ (by rw [lxm, lm]; exact Nat.lt_of_le_of_lt lnz (by decide)) (fun G f => f _ _ (s5 _ _ em) id) ?_ ?_
      · rintro i y G G' _ ⟨T, q, xs, m, e1, e2, ⟨zn, ru, rows, e3, e4, e5⟩, e6, e7, e8, e9⟩ f
        exact ⟨T, q, xs, m, e1, e2, ⟨zn, ru, rows, e3, f _ _ e4 (zu_ne id e6), e5⟩, e6, e7, e8, f _ _ e9 (zu_ne id e7)⟩
      · intro i x G0 G Qk hi f _ ne y zq
        obtain ⟨rfl, ex⟩ := y
        obtain ⟨m, e3, dt⟩ := (dm.z0A.fr (Fm.of s5)).get ex
        obtain ⟨zn, ru, rows, rfl, hru, rl, l4, wr, hzn⟩ := DR.shape (List.mem_of_getElem? e3)
        obtain ⟨pm, x0, x1, x2, rfl, hpm, c0, c1, c2⟩ := dt.three
        cases c0
        cases c1
        obtain ⟨q0, xs0, rfl, eq0, _, d0⟩ := c2.lst_inv
        refine ⟨pm, _, rfl, f.same _ _ hpm, rfl, _, _, rfl, _, _, rfl, _, _, rfl, rfl, rfl, ?_⟩
        refine ⟨_, rfl, _, rfl, _, rfl, q0, xs0, rfl, .inl (f.same _ _ eq0), fun qn hqn => ?_⟩
        have t1 : Same G (upd G qn (.lst xs0)) := Same.new hqn
        have u1 : (upd G qn (.lst xs0)) qn = some (.lst xs0) := upd_same
        generalize upd G qn (HO.lst xs0) = G1 at t1 u1 ⊢
        refine ⟨by show 3 ≤ sizeLine; decide, fun t nt => ?_⟩
        have t2 : Same G1 (upd G1 t (.tup [.str zn, .str ru, .ref qn])) := Same.new nt
        exact zq _ _ (Fm.of (t1.trans t2)) True.intro ⟨t, qn, xs0, _, e3, rfl, ⟨zn, ru, rows, rfl, upd_same, d0⟩, ne t (t1.free nt), ne qn hqn, f.same.free hqn, t2 _ _ u1⟩
      intro H6 xh f6 _ eD lh hR
      have s6 : Same H5 H6 := f6.same
      have s46 := s5.trans s6
      refine ⟨_, rfl, a, _, _, _, rfl, rfl, s46 _ _ ea, atI_nat (j := 3) rfl, ae, xe, rfl, .inl (s46 _ _ ee), fun l3 hl3 => ?_⟩
      have s7 : Same H6 (upd H6 l3 (.lst xe)) := Same.new hl3
      have y7 : (upd H6 l3 (.lst xe)) l3 = some (.lst xe) := upd_same
      generalize upd H6 l3 (HO.lst xe) = H7 at s7 y7 ⊢
      refine ⟨by show 3 ≤ sizeLine; decide, fun hd hhd => ?_⟩
      have s8 : Same H7 (upd H7 hd (.lst [.ref l1, .ref D, .ref l3])) := Same.new hhd
      have y8 : (upd H7 hd (.lst [.ref l1, .ref D, .ref l3])) hd = some (.lst [.ref l1, .ref D, .ref l3]) := upd_same
      show tSeq _ _ _ _ (upd H7 hd (.lst [.ref l1, .ref D, .ref l3]))
      generalize upd H7 hd (HO.lst [.ref l1, .ref D, .ref l3]) = H8 at s8 y8 ⊢
      have s68 := s7.trans s8
      have s58 := s6.trans s68
      have s48 := s5.trans s58
      -- the program
      refine ⟨_, rfl, a, _, _, _, rfl, rfl, s48 _ _ ea, atI0, ?_⟩
      refine ⟨_, rfl, hd, _, _, _, rfl, rfl, y8, atI0, ?_⟩
      refine ⟨_, rfl, hd, _, _, _, rfl, rfl, y8, atI1, ?_⟩
      refine ⟨_, rfl, hd, _, _, _, rfl, rfl, y8, atI_nat (j := 2) rfl, ?_⟩
      refine ⟨_, rfl, a, _, _, _, rfl, rfl, s48 _ _ ea, atI_nat (j := 4) rfl, fun c dc hc hdc ne => ?_⟩
      have sN : Same H8 (upd (upd H8 dc (.own c)) c (.ins CP dc [])) := new_same hc hdc
      have up : ∀ {v : V} {d : PyData}, Dt Z0 H8 v d → Dt Z0 (upd (upd H8 dc (.own c)) c (.ins CP dc [])) v d := fun h => h.fr (Fm.of sN)
      have d1' : Dt Z0 H8 (.ref l1) (.list regs) := .lst (s58 _ _ y5) id ((dr.z0A.fr (Fm.of s48)))
      have dh : DtAll Z0 H8 xh modes := DtAll.of_get (by rw [lh, lxm]) fun j v d e1 e2 => by
        obtain ⟨T, q, xs, m, g1, rfl, ⟨zn, ru, rows, rfl, g2, g3⟩, _, _, _, g4⟩ := hR j v e1
        rw [e2] at g1
        cases g1
        exact .tup (s68 _ _ g2) id (.cons (.str _) (.cons (.str _) (.cons (.lst (s68 _ _ g4) id (g3.fr (Fm.of s58))) .nil)))
      have d2' : Dt Z0 H8 (.ref D) (.list modes) := .lst (s68 _ _ eD) id dh
      have d3' : Dt Z0 H8 (.ref l3) (.list ends) := .lst (s8 _ _ y7) id (de.z0A.fr (Fm.of s48))
      have d4' : Dt Z0 H8 v4' (.tuple goal) := g4.z0.fr (Fm.of s48)
      refine ⟨c, dc, .int b1, .ref l1, .ref D, .ref l3, v4', .int b1, .list regs, .list modes, .list ends, .tuple goal, rfl, upd_same, .int b1, up d1', up d2', up d3', up d4', DR.sz1, DR.sz2, fw.1, fw.2, fun _ H9 k PA => ⟨rfl, ?_⟩, fun e he => (by
        rw [partsOk_iff.mpr PO] at he
        cases he)⟩
      have s9 : Same H8 H9 := fun b o e => k b o (sN _ _ e) (ne_of_none e hc)
      have PK9 : ProgOk P w CP H9 c b1 (.list regs) (.list modes) (.list ends) (.tuple goal) := ⟨PA, PO, DR.sz1, DR.sz2⟩
      have s49 := s48.trans s9
      obtain ⟨⟨dxc, _, _, _, _, _, ec, _⟩, _⟩ := id PK9
      -- what is cleared
      have lz0 := DR.z0
      obtain ⟨y0, ey0⟩ : ∃ y0, xh[0]? = some y0 := ⟨_, List.getElem?_eq_getElem (by rw [lh, lxm, lm]; omega)⟩
      obtain ⟨T0, q0, xq, m0, em0, rfl, ⟨zn0, ru0, rows0, rfl, hT0, _⟩, _, _, fq0, eq0⟩ := hR 0 y0 ey0
      have s69 := s68.trans s9
      refine ⟨_, rfl, _, rfl, hd, _, _, _, rfl, rfl, s9 _ _ y8, atI1, D, _, _, _, rfl, rfl, s69 _ _ eD, atI_nat (j := 0) ey0, T0, _, _, _, rfl, rfl, s69 _ _ hT0, atI_nat (j := 2) rfl, ?_⟩
      refine ⟨_, rfl, c, dxc, _, rfl, ec, rfl, c, b1, _, _, _, _, rfl, PK9.1, fun r1 H10 s10 hr1 dr1 => ?_⟩
      have PK10 := PK9.same s10
      refine ⟨_, rfl, c, dxc, _, rfl, s10 _ _ ec, rfl, c, b1, _, _, _, _, rfl, PK10, fun r2 H11 s11 hr2 er2 => ?_⟩
      have PK11 := PK10.same s11
      obtain ⟨md0, emd0, _⟩ := DR.mode DR.m
      have emd0 : modeOf (itemsD (.list modes)) "m" = some md0 := emd0
      refine ⟨_, rfl, c, dxc, _, rfl, (s10.trans s11) _ _ ec, rfl, c, .str "m", .str "m", b1, _, _, _, _, rfl, .str _, PK11, fun s' md' es em' r3 H12 s12 hr3 dr3 => ?_, fun hn => absurd (hn _ rfl) (by rw [emd0]; simp)⟩
      refine ⟨by show 4 ≤ sizeLine; decide, fun l13 hl13 => ?_⟩
      have s13 : Same H12 (upd H12 l13 (.lst [.ref q0, .ref r1, .ref r2, .ref r3])) := Same.new hl13
      have y13 : (upd H12 l13 (.lst [.ref q0, .ref r1, .ref r2, .ref r3])) l13 = some (.lst [.ref q0, .ref r1, .ref r2, .ref r3]) := upd_same
      generalize upd H12 l13 (HO.lst [.ref q0, .ref r1, .ref r2, .ref r3]) = H13 at s13 y13 ⊢
      have s1013 := (s11.trans s12).trans s13
      have s913 := s10.trans s1013
      have s813 := s9.trans s913
      refine ⟨hd, l13, _, _, rfl, rfl, s813 _ _ y8, y13, by show 7 ≤ sizeLine; decide, fun L hL => ?_⟩
      have s14 : Same H13 (upd H13 L (.lst ([.ref l1, .ref D, .ref l3] ++ [.ref q0, .ref r1, .ref r2, .ref r3]))) := Same.new hL
      have y14 : (upd H13 L (.lst ([.ref l1, .ref D, .ref l3] ++ [.ref q0, .ref r1, .ref r2, .ref r3]))) L = some (.lst [.ref l1, .ref D, .ref l3, .ref q0, .ref r1, .ref r2, .ref r3]) := upd_same
      have at1 : H13 l1 = some (.lst xr) := s813 _ _ (s58 _ _ y5)
      have at2 : H13 D = some (.lst xh) := s813 _ _ (s68 _ _ eD)
      have at3 : H13 l3 = some (.lst xe) := s813 _ _ (s8 _ _ y7)
      have at4 : H13 q0 = some (.lst xq) := s813 _ _ (s68 _ _ eq0)
      obtain ⟨_, xs1, e1', at5', _, _⟩ := dr1.lst_inv
      cases e1'
      have at5 := s1013 _ _ at5'
      have at6 := (s12.trans s13) _ _ er2
      obtain ⟨_, xs3, e3', at7', _, _⟩ := dr3.lst_inv
      cases e3'
      have at7 := s13 _ _ at7'
      have allL : ∀ b, (b = l1 ∨ b = D ∨ b = l3 ∨ b = q0 ∨ b = r1 ∨ b = r2 ∨ b = r3) → ∃ xs, H13 b = some (.lst xs) := fun b z => by
        rcases z with rfl | rfl | rfl | rfl | rfl | rfl | rfl
        · exact ⟨_, at1⟩
        · exact ⟨_, at2⟩
        · exact ⟨_, at3⟩
        · exact ⟨_, at4⟩
        · exact ⟨_, at5⟩
        · exact ⟨_, at6⟩
        · exact ⟨_, at7⟩
      have newL : ∀ b, (b = l1 ∨ b = D ∨ b = l3 ∨ b = q0 ∨ b = r1 ∨ b = r2 ∨ b = r3) → H4 b = none := fun b z => by
        rcases z with rfl | rfl | rfl | rfl | rfl | rfl | rfl
        · exact hl1
        · exact s5.free hD
        · exact s46.free hl3
        · exact s5.free fq0
        · exact s49.free hr1
        · exact (s49.trans s10).free hr2
        · exact ((s49.trans s10).trans s11).free hr3
      have mems : ∀ x ∈ [V.ref l1, .ref D, .ref l3, .ref q0, .ref r1, .ref r2, .ref r3], ∃ b, x = .ref b ∧ (b = l1 ∨ b = D ∨ b = l3 ∨ b = q0 ∨ b = r1 ∨ b = r2 ∨ b = r3) := fun x hx => by
        simp only [List.mem_cons, List.not_mem_nil, or_false] at hx
        rcases hx with rfl | rfl | rfl | rfl | rfl | rfl | rfl <;> exact ⟨_, rfl, by simp⟩
      obtain ⟨Zc, allL, newL, mems⟩ : ∃ Zc : Addr → Prop, (∀ b, Zc b → ∃ xs, H13 b = some (.lst xs)) ∧ (∀ b, Zc b → H4 b = none) ∧ (∀ x ∈ [V.ref l1, .ref D, .ref l3, .ref q0, .ref r1, .ref r2, .ref r3], ∃ b, x = .ref b ∧ Zc b) := ⟨fun b => b = l1 ∨ b = D ∨ b = l3 ∨ b = q0 ∨ b = r1 ∨ b = r2 ∨ b = r3, allL, newL, mems⟩
      generalize upd H13 L (HO.lst ([.ref l1, .ref D, .ref l3] ++ [.ref q0, .ref r1, .ref r2, .ref r3])) = H14 at s14 y14 ⊢
      have nL : ¬ Zc L := fun z => by
        obtain ⟨xs, e⟩ := allL L z
        rw [hL] at e
        cases e
      have all14 : ∀ b, Zc b → ∃ xs, H14 b = some (.lst xs) := fun b z => by
        obtain ⟨xs, e⟩ := allL b z
        exact ⟨xs, s14 _ _ e⟩
      refine ⟨L, _, _, rfl, .inl rfl, y14, fun J2 wk2 => for_it wk2 (fun n σ H' => Fm Zc H14 H' ∧ (∀ b, Zc b → ∃ xs, H' b = some (.lst xs)) ∧ ∃ u1 u4 u5 u6 u7 u9 u10 u11 u12 : Option V, σ = [some (.ref a0), u1, some (.ref pp), some (.ref a), u4, u5, u6, u7, some (.ref c), u9, u10, u11, u12]) ⟨Fm.refl, all14, _, _, _, _, _, _, _, _, _, rfl⟩ (fun n σ H' _ z => z.1 _ _ y14 nL) ?_ ?_⟩
      · rintro n x σ H15 H15' hn ⟨f, all, u1, u4, u5, u6, u7, u9, u10, u11, u12, rfl⟩ ⟨rfl, ex⟩
        obtain ⟨b, rfl, zb⟩ := mems x (List.mem_of_getElem? ex)
        obtain ⟨xs, eb⟩ := all b zb
        refine ⟨_, rfl, .inl ⟨rfl, _, SqL.of eb⟩, b, xs, rfl, rfl, eb, ?_⟩
        refine ⟨fun c o e n => by rw [upd_ne (fun m => n (by rw [m]; exact zb))]; exact f c o e n, fun b' zb' => ?_, _, _, _, _, _, _, _, _, _, rfl⟩
        by_cases m : b' = b
        · rw [m]
          exact ⟨_, upd_same⟩
        · obtain ⟨xs', e'⟩ := all b' zb'
          exact ⟨xs', by rw [upd_ne m]; exact e'⟩
      · rintro σ H16 ⟨f, all, u1, u4, u5, u6, u7, u9, u10, u11, u12, rfl⟩
        have s414 := (s49.trans s913).trans s14
        have npp : ¬ Zc pp := fun z => by
          have := newL pp z
          obtain ⟨c', z', _, _, hp⟩ := P4
          rw [hp] at this
          cases this
        have P16 : PoolAt H16 pp := by
          obtain ⟨c', z', a1, a2, hp⟩ := P4.same s414
          exact ⟨c', z', a1, a2, f _ _ hp npp⟩
        have PK16 : ProgOk P w CP H16 c b1 (.list regs) (.list modes) (.list ends) (.tuple goal) := (PK9.same (s913.trans s14)).keepL all14 f
        have dv16 : Dt (Zp pp) H16 (.ref a) (.list [.int b1, .list regs, .list modes, .list ends, .tuple goal]) := (((dv.offS newL).fr (Fm.of s414)).fr (f.wide fun b z => .inr z)).mono fun b z => .inl z
        refine qN ⟨DR, PK16, dv16.z0⟩ P16 dv16 (fun σ' H17 k17 hs => ?_) _ _ _ _ _ _ _ _ _
        refine ⟨fun b o e => ?_, hs⟩
        have e1 := s1 _ _ e
        have n1 : b ≠ pp := ne_of_none e1 hpp
        have e4 := k4 _ _ (s3 _ _ (s2 _ _ e1)) n1
        have nz : ¬ Zc b := fun z => by
          rw [newL b z] at e4
          cases e4
        exact k17 _ _ (f _ _ (s414 _ _ e4) nz) n1
    · rintro σ H1 ⟨s1, w1, w2, w3, w4, w5, w6, w7, w8, w9, w10, w11, w12, rfl⟩
      exact q H1
end
theorem mfun_mk {K : PySem.W.Frag} {C f : Addr} {nm q : Str} {st : Stmt} {ps : List Str} {oc : Value} {od an : Option Addr} {osl : Array (Option Value)} {kV doc pm cdv ct : Value}
    (b : ∀ (kV doc pm : Value) (an : Option Addr) (cdv ct : Value) (us : List Value), us.length = ps.length → bindArgs (PySem.W.fnOf nm q (defArgs st) (defBody st) (defScope st) .none kV doc pm an cdv ct) ⟨us, []⟩ = pure (ps.zip us))
    (a : PySem.W.findIn K (.ref C) nm = some (some (.ref f))) (l : K.lookup f = some ⟨oc, od, .func (PySem.W.fnOf nm q (defArgs st) (defBody st) (defScope st) .none kV doc pm an cdv ct), osl⟩) (c : PySem.W.codeIn K cdv q = true) (k : PySem.W.keepIn K (.ref f) = true) (i : PySem.W.isFn K (.ref f) = true) : MFun K C nm q st ps :=
  ⟨f, _, a, i, fun_mk (st := st) l c k, (fun_mk (st := st) l c k).binds (ps := ps) b⟩
theorem pfun_mk {K : PySem.W.Frag} {C p g : Addr} {nm q : Str} {st : Stmt} {rest : List Value} {oc : Value} {od an : Option Addr} {osl : Array (Option Value)} {kV doc pm cdv ct : Value}
    (b : ∀ (kV doc pm : Value) (an : Option Addr) (cdv ct : Value) (us : List Value), us.length = 1 → bindArgs (PySem.W.fnOf nm q (defArgs st) (defBody st) (defScope st) .none kV doc pm an cdv ct) ⟨us, []⟩ = pure ((["self"] : List Str).zip us))
    (a : PySem.W.findIn K (.ref C) nm = some (some (.ref p))) (s : PySem.W.specialIn K (.ref p) "__get__" = some (some (.builtin "property.__get__"))) (t : PySem.W.takesIn K (.ref p) = some true) (r : PySem.W.recIn K p "property" = some (.ref g :: rest))
    (l : K.lookup g = some ⟨oc, od, .func (PySem.W.fnOf nm q (defArgs st) (defBody st) (defScope st) .none kV doc pm an cdv ct), osl⟩) (c : PySem.W.codeIn K cdv q = true) (k : PySem.W.keepIn K (.ref g) = true) : PFun K C nm q st :=
  ⟨p, g, _, ⟨a, s, t, rest, r⟩, fun_mk (st := st) l c k, (fun_mk (st := st) l c k).binds (ps := ["self"]) b⟩
/-! ### the errors; what the top has written -/
section
variable {P : Program} {w : World} {K : PySem.W.Frag} {mg : Str → Option Value} {base : Heap}
abbrev si_InvalidBase : Stmt := inClass (top 3) 0
theorem sci_InvalidBase : FnScope ["self", "value"] ["self", "value"] (defScope si_InvalidBase) := ⟨rfl, rfl, rfl, by decide +kernel, rfl, by decide +kernel, by decide +kernel⟩
theorem in_InvalidBase {C fI : Addr} {fd : FuncData} (F : Fun K "__init__" "InvalidBase.__init__" si_InvalidBase fI fd) (L : Cl K C fI [.type "ValueError", .type "Exception", .type "BaseException", .type "object"] "ValueError.__new__" ["value"]) (m : mg "InvalidBase" = some (.ref C)) : XRz P w K mg base "InvalidBase" C 1 (sp1n "value" C) := by
  obtain ⟨oc, od, kV, doc, pm, an, cdv, ct, osl, rfl, lk, hcd⟩ := F.ex
  refine ⟨fI, _, ["self", "value"], "ValueError", "ValueError.__new__", "ValueError.__init__", [.type "ValueError", .type "Exception", .type "BaseException", .type "object"], PySem.F.excBase_ValueError, L.T, m, F.ok sci_InvalidBase (fun vs H Q E h => ?_) (fun cdv A outer s H vs Q E hr h => ?_),
    ⟨fun s us ws _ l1 l2 => match us, ws, l1, l2 with | [_, _], [], _, _ => .of_eq rfl, fun r _ => r⟩, L.look.xf.exC, L.ty⟩
  · obtain ⟨a, v, rfl, _⟩ := h
    rfl
  · obtain ⟨a, v, rfl, ea, q⟩ := h
    refine ⟨_, pss_one (ps_xst PySem.F.store_ValueError (newId := "ValueError.__new__") (pv 0) (pv 1)), ?_⟩
    exact ⟨_, rfl, _, rfl, a, C, fI, rfl, L.T, L.no _ (by simp), .inl ⟨ea, q⟩⟩
abbrev si_InvalidRegisters : Stmt := inClass (top 4) 0
theorem sci_InvalidRegisters : FnScope ["self", "number"] ["self", "number"] (defScope si_InvalidRegisters) := ⟨rfl, rfl, rfl, by decide +kernel, rfl, by decide +kernel, by decide +kernel⟩
theorem in_InvalidRegisters {C fI : Addr} {fd : FuncData} (F : Fun K "__init__" "InvalidRegisters.__init__" si_InvalidRegisters fI fd) (L : Cl K C fI [.type "ValueError", .type "Exception", .type "BaseException", .type "object"] "ValueError.__new__" ["number"]) (m : mg "InvalidRegisters" = some (.ref C)) : XRz P w K mg base "InvalidRegisters" C 1 (sp1n "number" C) := by
  obtain ⟨oc, od, kV, doc, pm, an, cdv, ct, osl, rfl, lk, hcd⟩ := F.ex
  refine ⟨fI, _, ["self", "number"], "ValueError", "ValueError.__new__", "ValueError.__init__", [.type "ValueError", .type "Exception", .type "BaseException", .type "object"], PySem.F.excBase_ValueError, L.T, m, F.ok sci_InvalidRegisters (fun vs H Q E h => ?_) (fun cdv A outer s H vs Q E hr h => ?_),
    ⟨fun s us ws _ l1 l2 => match us, ws, l1, l2 with | [_, _], [], _, _ => .of_eq rfl, fun r _ => r⟩, L.look.xf.exC, L.ty⟩
  · obtain ⟨a, v, rfl, _⟩ := h
    rfl
  · obtain ⟨a, v, rfl, ea, q⟩ := h
    refine ⟨_, pss_one (ps_xst PySem.F.store_ValueError (newId := "ValueError.__new__") (pv 0) (pv 1)), ?_⟩
    exact ⟨_, rfl, _, rfl, a, C, fI, rfl, L.T, L.no _ (by simp), .inl ⟨ea, q⟩⟩
abbrev si_InvalidModes : Stmt := inClass (top 5) 0
theorem sci_InvalidModes : FnScope ["self", "number"] ["self", "number"] (defScope si_InvalidModes) := ⟨rfl, rfl, rfl, by decide +kernel, rfl, by decide +kernel, by decide +kernel⟩
theorem in_InvalidModes {C fI : Addr} {fd : FuncData} (F : Fun K "__init__" "InvalidModes.__init__" si_InvalidModes fI fd) (L : Cl K C fI [.type "ValueError", .type "Exception", .type "BaseException", .type "object"] "ValueError.__new__" ["number"]) (m : mg "InvalidModes" = some (.ref C)) : XRz P w K mg base "InvalidModes" C 1 (sp1n "number" C) := by
  obtain ⟨oc, od, kV, doc, pm, an, cdv, ct, osl, rfl, lk, hcd⟩ := F.ex
  refine ⟨fI, _, ["self", "number"], "ValueError", "ValueError.__new__", "ValueError.__init__", [.type "ValueError", .type "Exception", .type "BaseException", .type "object"], PySem.F.excBase_ValueError, L.T, m, F.ok sci_InvalidModes (fun vs H Q E h => ?_) (fun cdv A outer s H vs Q E hr h => ?_),
    ⟨fun s us ws _ l1 l2 => match us, ws, l1, l2 with | [_, _], [], _, _ => .of_eq rfl, fun r _ => r⟩, L.look.xf.exC, L.ty⟩
  · obtain ⟨a, v, rfl, _⟩ := h
    rfl
  · obtain ⟨a, v, rfl, ea, q⟩ := h
    refine ⟨_, pss_one (ps_xst PySem.F.store_ValueError (newId := "ValueError.__new__") (pv 0) (pv 1)), ?_⟩
    exact ⟨_, rfl, _, rfl, a, C, fI, rfl, L.T, L.no _ (by simp), .inl ⟨ea, q⟩⟩
abbrev si_InvalidEnds : Stmt := inClass (top 7) 0
theorem sci_InvalidEnds : FnScope ["self", "value"] ["self", "value"] (defScope si_InvalidEnds) := ⟨rfl, rfl, rfl, by decide +kernel, rfl, by decide +kernel, by decide +kernel⟩
theorem in_InvalidEnds {C fI : Addr} {fd : FuncData} (F : Fun K "__init__" "InvalidEnds.__init__" si_InvalidEnds fI fd) (L : Cl K C fI [.type "ValueError", .type "Exception", .type "BaseException", .type "object"] "ValueError.__new__" ["value"]) (m : mg "InvalidEnds" = some (.ref C)) : XRz P w K mg base "InvalidEnds" C 1 (sp1n "value" C) := by
  obtain ⟨oc, od, kV, doc, pm, an, cdv, ct, osl, rfl, lk, hcd⟩ := F.ex
  refine ⟨fI, _, ["self", "value"], "ValueError", "ValueError.__new__", "ValueError.__init__", [.type "ValueError", .type "Exception", .type "BaseException", .type "object"], PySem.F.excBase_ValueError, L.T, m, F.ok sci_InvalidEnds (fun vs H Q E h => ?_) (fun cdv A outer s H vs Q E hr h => ?_),
    ⟨fun s us ws _ l1 l2 => match us, ws, l1, l2 with | [_, _], [], _, _ => .of_eq rfl, fun r _ => r⟩, L.look.xf.exC, L.ty⟩
  · obtain ⟨a, v, rfl, _⟩ := h
    rfl
  · obtain ⟨a, v, rfl, ea, q⟩ := h
    refine ⟨_, pss_one (ps_xst PySem.F.store_ValueError (newId := "ValueError.__new__") (pv 0) (pv 1)), ?_⟩
    exact ⟨_, rfl, _, rfl, a, C, fI, rfl, L.T, L.no _ (by simp), .inl ⟨ea, q⟩⟩
abbrev si_InvalidResult : Stmt := inClass (top 8) 0
theorem sci_InvalidResult : FnScope ["self", "value"] ["self", "value"] (defScope si_InvalidResult) := ⟨rfl, rfl, rfl, by decide +kernel, rfl, by decide +kernel, by decide +kernel⟩
theorem in_InvalidResult {C fI : Addr} {fd : FuncData} (F : Fun K "__init__" "InvalidResult.__init__" si_InvalidResult fI fd) (L : Cl K C fI [.type "ValueError", .type "Exception", .type "BaseException", .type "object"] "ValueError.__new__" ["value"]) (m : mg "InvalidResult" = some (.ref C)) : XRz P w K mg base "InvalidResult" C 1 (sp1n "value" C) := by
  obtain ⟨oc, od, kV, doc, pm, an, cdv, ct, osl, rfl, lk, hcd⟩ := F.ex
  refine ⟨fI, _, ["self", "value"], "ValueError", "ValueError.__new__", "ValueError.__init__", [.type "ValueError", .type "Exception", .type "BaseException", .type "object"], PySem.F.excBase_ValueError, L.T, m, F.ok sci_InvalidResult (fun vs H Q E h => ?_) (fun cdv A outer s H vs Q E hr h => ?_),
    ⟨fun s us ws _ l1 l2 => match us, ws, l1, l2 with | [_, _], [], _, _ => .of_eq rfl, fun r _ => r⟩, L.look.xf.exC, L.ty⟩
  · obtain ⟨a, v, rfl, _⟩ := h
    rfl
  · obtain ⟨a, v, rfl, ea, q⟩ := h
    refine ⟨_, pss_one (ps_xst PySem.F.store_ValueError (newId := "ValueError.__new__") (pv 0) (pv 1)), ?_⟩
    exact ⟨_, rfl, _, rfl, a, C, fI, rfl, L.T, L.no _ (by simp), .inl ⟨ea, q⟩⟩
abbrev si_InvalidSign : Stmt := inClass (top 9) 0
theorem sci_InvalidSign : FnScope ["self", "value"] ["self", "value"] (defScope si_InvalidSign) := ⟨rfl, rfl, rfl, by decide +kernel, rfl, by decide +kernel, by decide +kernel⟩
theorem in_InvalidSign {C fI : Addr} {fd : FuncData} (F : Fun K "__init__" "InvalidSign.__init__" si_InvalidSign fI fd) (L : Cl K C fI [.type "ValueError", .type "Exception", .type "BaseException", .type "object"] "ValueError.__new__" ["value"]) (m : mg "InvalidSign" = some (.ref C)) : XRz P w K mg base "InvalidSign" C 1 (sp1n "value" C) := by
  obtain ⟨oc, od, kV, doc, pm, an, cdv, ct, osl, rfl, lk, hcd⟩ := F.ex
  refine ⟨fI, _, ["self", "value"], "ValueError", "ValueError.__new__", "ValueError.__init__", [.type "ValueError", .type "Exception", .type "BaseException", .type "object"], PySem.F.excBase_ValueError, L.T, m, F.ok sci_InvalidSign (fun vs H Q E h => ?_) (fun cdv A outer s H vs Q E hr h => ?_),
    ⟨fun s us ws _ l1 l2 => match us, ws, l1, l2 with | [_, _], [], _, _ => .of_eq rfl, fun r _ => r⟩, L.look.xf.exC, L.ty⟩
  · obtain ⟨a, v, rfl, _⟩ := h
    rfl
  · obtain ⟨a, v, rfl, ea, q⟩ := h
    refine ⟨_, pss_one (ps_xst PySem.F.store_ValueError (newId := "ValueError.__new__") (pv 0) (pv 1)), ?_⟩
    exact ⟨_, rfl, _, rfl, a, C, fI, rfl, L.T, L.no _ (by simp), .inl ⟨ea, q⟩⟩
abbrev si_InvalidNumber : Stmt := inClass (top 2) 0
theorem sci_InvalidNumber : FnScope ["self", "value"] ["self", "value"] (defScope si_InvalidNumber) := ⟨rfl, rfl, rfl, by decide +kernel, rfl, by decide +kernel, by decide +kernel⟩
theorem in_InvalidNumber {C fI : Addr} {fd : FuncData} (F : Fun K "__init__" "InvalidNumber.__init__" si_InvalidNumber fI fd) (L : Cl K C fI [.type "ValueError", .type "Exception", .type "BaseException", .type "object"] "ValueError.__new__" ["value"]) (m : mg "InvalidNumber" = some (.ref C)) : XRz P w K mg base "InvalidNumber" C 1 (sp1n "value" C) := by
  obtain ⟨oc, od, kV, doc, pm, an, cdv, ct, osl, rfl, lk, hcd⟩ := F.ex
  refine ⟨fI, _, ["self", "value"], "ValueError", "ValueError.__new__", "ValueError.__init__", [.type "ValueError", .type "Exception", .type "BaseException", .type "object"], PySem.F.excBase_ValueError, L.T, m, F.ok sci_InvalidNumber (fun vs H Q E h => ?_) (fun cdv A outer s H vs Q E hr h => ?_),
    ⟨fun s us ws _ l1 l2 => match us, ws, l1, l2 with | [_, _], [], _, _ => .of_eq rfl, fun r _ => r⟩, L.look.xf.exC, L.ty⟩
  · obtain ⟨a, v, rfl, _⟩ := h
    rfl
  · obtain ⟨a, v, rfl, ea, q⟩ := h
    refine ⟨_, pss_one (ps_xst PySem.F.store_ValueError (newId := "ValueError.__new__") (pv 0) (pv 1)), ?_⟩
    exact ⟨_, rfl, _, rfl, a, C, fI, rfl, L.T, L.no _ (by simp), .inl ⟨ea, q⟩⟩
abbrev si_UnknownName : Stmt := inClass (top 10) 0
theorem sci_UnknownName : FnScope ["self", "value"] ["self", "value"] (defScope si_UnknownName) := ⟨rfl, rfl, rfl, by decide +kernel, rfl, by decide +kernel, by decide +kernel⟩
theorem in_UnknownName {C fI : Addr} {fd : FuncData} (F : Fun K "__init__" "UnknownName.__init__" si_UnknownName fI fd) (L : Cl K C fI [.type "LookupError", .type "Exception", .type "BaseException", .type "object"] "LookupError.__new__" ["value"]) (m : mg "UnknownName" = some (.ref C)) : XRz P w K mg base "UnknownName" C 1 (sp1n "value" C) := by
  obtain ⟨oc, od, kV, doc, pm, an, cdv, ct, osl, rfl, lk, hcd⟩ := F.ex
  refine ⟨fI, _, ["self", "value"], "LookupError", "LookupError.__new__", "LookupError.__init__", [.type "LookupError", .type "Exception", .type "BaseException", .type "object"], PySem.F.excBase_LookupError, L.T, m, F.ok sci_UnknownName (fun vs H Q E h => ?_) (fun cdv A outer s H vs Q E hr h => ?_),
    ⟨fun s us ws _ l1 l2 => match us, ws, l1, l2 with | [_, _], [], _, _ => .of_eq rfl, fun r _ => r⟩, L.look.xf.exC, L.ty⟩
  · obtain ⟨a, v, rfl, _⟩ := h
    rfl
  · obtain ⟨a, v, rfl, ea, q⟩ := h
    refine ⟨_, pss_one (ps_xst PySem.F.store_LookupError (newId := "LookupError.__new__") (pv 0) (pv 1)), ?_⟩
    exact ⟨_, rfl, _, rfl, a, C, fI, rfl, L.T, L.no _ (by simp), .inl ⟨ea, q⟩⟩
abbrev si_InvalidRow : Stmt := inClass (top 6) 0
theorem sci_InvalidRow : FnScope ["self", "mode", "number"] ["self", "mode", "number"] (defScope si_InvalidRow) := ⟨rfl, rfl, rfl, by decide +kernel, rfl, by decide +kernel, by decide +kernel⟩
theorem in_InvalidRow {C fI : Addr} {fd : FuncData} (F : Fun K "__init__" "InvalidRow.__init__" si_InvalidRow fI fd) (L : Cl K C fI [.type "ValueError", .type "Exception", .type "BaseException", .type "object"] "ValueError.__new__" ["mode", "number"]) (m : mg "InvalidRow" = some (.ref C)) : XRz P w K mg base "InvalidRow" C 2 (sp2n "mode" "number" C) := by
  obtain ⟨oc, od, kV, doc, pm, an, cdv, ct, osl, rfl, lk, hcd⟩ := F.ex
  refine ⟨fI, _, ["self", "mode", "number"], "ValueError", "ValueError.__new__", "ValueError.__init__", [.type "ValueError", .type "Exception", .type "BaseException", .type "object"], PySem.F.excBase_ValueError, L.T, m, F.ok sci_InvalidRow (fun vs H Q E h => ?_) (fun cdv A outer s H vs Q E hr h => ?_),
    ⟨fun s us ws _ l1 l2 => match us, ws, l1, l2 with | [_, _, _], [], _, _ => .of_eq rfl, fun r _ => r⟩, L.look.xf.exC, L.ty⟩
  · obtain ⟨a, v, u, rfl, _⟩ := h
    rfl
  · obtain ⟨a, v, u, rfl, ea, q⟩ := h
    refine ⟨_, pss_cons (ps_xst PySem.F.store_ValueError (newId := "ValueError.__new__") (pv 0) (pv 1)) (pss_one (ps_xst PySem.F.store_ValueError (newId := "ValueError.__new__") (pv 0) (pv 2))), ?_⟩
    refine ⟨_, rfl, _, rfl, a, C, fI, rfl, L.T, L.no _ (by simp), .inl ⟨ea, fun dx n ne => ?_⟩⟩
    exact ⟨_, rfl, _, rfl, a, C, fI, rfl, L.T, L.no _ (by simp), .inr ⟨dx, _, upd_same, (by rw [upd_ne ne, upd_same]), (by show 1 ≤ 900; decide), q dx n ne⟩⟩
end
section
variable {K : PySem.W.Frag}
/-- an __init__ without defaults -/
def IFun (K : PySem.W.Frag) (C : Addr) (q : Str) (st : Stmt) (ps : List Str) : Prop := ∃ f fd, Mk K C f ∧ Fun K "__init__" q st f fd ∧ Binds K fd ps []
theorem ifun_mk {C f : Addr} {q : Str} {st : Stmt} {ps : List Str} {oc : Value} {od an : Option Addr} {osl : Array (Option Value)} {kV doc pm cdv ct : Value}
    (b : ∀ (kV doc pm : Value) (an : Option Addr) (cdv ct : Value) (us : List Value), us.length = ps.length → bindArgs (PySem.W.fnOf "__init__" q (defArgs st) (defBody st) (defScope st) .none kV doc pm an cdv ct) ⟨us, []⟩ = pure (ps.zip us))
    (a : PySem.W.findIn K (.ref C) "__init__" = some (some (.ref f))) (l : K.lookup f = some ⟨oc, od, .func (PySem.W.fnOf "__init__" q (defArgs st) (defBody st) (defScope st) .none kV doc pm an cdv ct), osl⟩) (c : PySem.W.codeIn K cdv q = true) (k : PySem.W.keepIn K (.ref f) = true)
    (m : PySem.W.makesIn K C = true) (i : PySem.W.isFn K (.ref f) = true) (kc : PySem.W.keepIn K (.ref C) = true) : IFun K C q st ps :=
  ⟨f, _, ⟨m, a, i, kc⟩, fun_mk (st := st) l c k, (fun_mk (st := st) l c k).binds (ps := ps) b⟩
/-- a method -/
def MeFun (K : PySem.W.Frag) (C : Addr) (nm q : Str) (st : Stmt) (ps : List Str) : Prop := ∃ f fd, Meth K C nm f ∧ Fun K nm q st f fd ∧ Binds K fd ps []
def IxFun (K : PySem.W.Frag) (C : Addr) (q : Str) (st : Stmt) (ps : List Str) : Prop := ∃ f fd, PySem.W.findIn K (.ref C) "__getitem__" = some (some (.ref f)) ∧ PySem.W.fnIn K f = true ∧ PySem.W.isFn K (.ref f) = true ∧ Fun K "__getitem__" q st f fd ∧ Binds K fd ps []
theorem ixfun_mk {C f : Addr} {q : Str} {st : Stmt} {ps : List Str} {oc : Value} {od an : Option Addr} {osl : Array (Option Value)} {kV doc pm cdv ct : Value}
    (b : ∀ (kV doc pm : Value) (an : Option Addr) (cdv ct : Value) (us : List Value), us.length = ps.length → bindArgs (PySem.W.fnOf "__getitem__" q (defArgs st) (defBody st) (defScope st) .none kV doc pm an cdv ct) ⟨us, []⟩ = pure (ps.zip us))
    (a : PySem.W.findIn K (.ref C) "__getitem__" = some (some (.ref f))) (l : K.lookup f = some ⟨oc, od, .func (PySem.W.fnOf "__getitem__" q (defArgs st) (defBody st) (defScope st) .none kV doc pm an cdv ct), osl⟩) (c : PySem.W.codeIn K cdv q = true) (k : PySem.W.keepIn K (.ref f) = true)
    (i : PySem.W.isFn K (.ref f) = true) (n : PySem.W.fnIn K f = true) : IxFun K C q st ps := ⟨f, _, a, n, i, fun_mk (st := st) l c k, (fun_mk (st := st) l c k).binds (ps := ps) b⟩
/-- changed with its keyword-only parameters -/
def ChgFun (K : PySem.W.Frag) (C : Addr) : Prop := ∃ f fd, Meth K C "changed" f ∧ FunChanged K f fd
theorem chgfun_mk {C f Dk : Addr} {oc doc pm cdv ct : Value} {od an : Option Addr} {osl : Array (Option Value)} (a : PySem.W.findIn K (.ref C) "changed" = some (some (.ref f)))
    (l : K.lookup f = some ⟨oc, od, .func (PySem.W.fnOf "changed" "Program.changed" (defArgs s_Program_changed) (defBody s_Program_changed) (defScope s_Program_changed) .none (.ref Dk) doc pm an cdv ct), osl⟩) (c : PySem.W.codeIn K cdv "Program.changed" = true) (k : PySem.W.keepIn K (.ref f) = true) (i : PySem.W.isFn K (.ref f) = true)
    (d1 : PySem.W.nsIn K Dk "base" = some (some .none)) (d2 : PySem.W.nsIn K Dk "ends" = some (some .none)) (d3 : PySem.W.nsIn K Dk "result" = some (some .none)) : ChgFun K C :=
  ⟨f, _, ⟨a, i, k⟩, ⟨⟨oc, od, .none, .ref Dk, doc, pm, an, cdv, ct, osl, rfl, l, c, .inl ⟨rfl, rfl⟩, .inr ⟨Dk, rfl, fun q hq => by
    simp only [List.mem_cons, List.not_mem_nil, or_false] at hq
    rcases hq with rfl | rfl | rfl
    · exact ⟨_, d1, rfl⟩
    · exact ⟨_, d2, rfl⟩
    · exact ⟨_, d3, rfl⟩⟩⟩, k⟩⟩
theorem cls_mk {C : Addr} (t : (PySem.W.plainGet K C Str.empty, PySem.W.hasDictIn K C, PySem.W.plainOver K C) = (true, true, true)) (u : PySem.W.findIn K (.ref C) "__setattr__" = some (some (.builtin "object.__setattr__"))) : Cls K C := by
  simp only [Prod.mk.injEq] at t
  obtain ⟨t1, t2, t3⟩ := t
  exact ⟨t1, t2, t3, u⟩
structure PIn (K : PySem.W.Frag) (CP : Addr) : Prop where
  kit : PKit K CP
  ne : NeO K CP
  nf : NfP K CP
  n1 : NoAttr K CP "_base"
  n2 : NoAttr K CP "_registers"
  n3 : NoAttr K CP "_modes"
  n4 : NoAttr K CP "_ends"
  n5 : NoAttr K CP "_result"
  n6 : NoAttr K CP "_tables"
theorem pin_mk {CP : Addr} (g1 : PySem.W.specialIn K (.builtin "object.__class__") "__get__" = some (some (.builtin "getset_descriptor.__get__"))) (g2 : PySem.W.takesIn K (.builtin "object.__class__") = some true)
    (u : (PySem.W.findIn K (.ref CP) "__class__", PySem.W.findIn K (.ref CP) "__ne__") = (some (some (.builtin "object.__class__")), some (some (.builtin "object.__ne__"))))
    (v : (PySem.W.mroIn K CP (.type "object"), PySem.W.subIn K (.ref CP) (.type "object")) = (some true, some true))
    (o : PySem.W.kitOne K (.ref CP) (.ref CP) = some true)
    (d1 : PySem.W.kitOne K (.type "NoneType") (.ref CP) = some false) (d2 : PySem.W.kitOne K (.type "bool") (.ref CP) = some false) (d3 : PySem.W.kitOne K (.type "int") (.ref CP) = some false) (d4 : PySem.W.kitOne K (.type "str") (.ref CP) = some false) (d5 : PySem.W.kitOne K (.type "list") (.ref CP) = some false) (d6 : PySem.W.kitOne K (.type "tuple") (.ref CP) = some false)
    (n : (PySem.W.notFirst K CP (.type "list"), PySem.W.notFirst K CP (.type "NoneType"), PySem.W.notFirst K CP (.type "int")) = (true, true, true))
    (f : (PySem.W.findIn K (.ref CP) "_base", PySem.W.findIn K (.ref CP) "_registers", PySem.W.findIn K (.ref CP) "_modes", PySem.W.findIn K (.ref CP) "_ends", PySem.W.findIn K (.ref CP) "_result", PySem.W.findIn K (.ref CP) "_tables") = (some none, some none, some none, some none, some none, some none)) : PIn K CP := by
  simp only [Prod.mk.injEq] at u v n f
  obtain ⟨u1, u2⟩ := u
  obtain ⟨v1, v2⟩ := v
  obtain ⟨n1, n2, n3⟩ := n
  obtain ⟨f1, f2, f3, f4, f5, f6⟩ := f
  refine ⟨⟨u1, g1, g2, v1, o, fun h => ?_⟩, ⟨u2, v2⟩, ⟨n1, n2, n3⟩, f1, f2, f3, f4, f5, f6⟩
  cases h
  · exact d1
  · exact d2
  · exact d3
  · exact d4
  · exact d5
  · exact d6
theorem lift_fn {P : Program} {w : World} {mg : Str → Option Value} {base : Heap} {CX : CXT} {k k' : Nat} {f : Addr} {fd : FuncData} {ps : List Str} {sp : Sp} (F : FnOk P w K mg base CX k f fd ps sp) (l : k ≤ k') : FnOk P w K mg base CX k' f fd ps sp :=
  ⟨F.len, fun A outer s H args us vs Q E hr e0 bt r h => F.run A outer s H args us vs Q E (hr.mono l) e0 bt r h⟩
theorem reg_named : ∀ d, regD d = true → ∃ s rest, d = .tuple (.str s :: rest) := fun d h => by
  unfold regD at h
  simp only [Bool.and_eq_true] at h
  obtain ⟨a, b, c, _⟩ := h
  have e := isTup_eq a
  rw [items_of (of_decide_eq_true b)] at e
  have c' := c
  cases k : itD d 0 <;> rw [k] at c' <;> first | cases c' | skip
  rename_i s
  refine ⟨s, [itD d 1], ?_⟩
  refine e.trans ?_
  show PyData.tuple [itD d 0, itD d 1] = _
  rw [k]
theorem mode_named : ∀ d, modeD d = true → ∃ s rest, d = .tuple (.str s :: rest) := fun d h => by
  have h0 := h
  unfold modeD at h
  simp only [Bool.and_eq_true] at h
  obtain ⟨a, b, _⟩ := h
  have e := isTup_eq a
  rw [items_of (of_decide_eq_true b)] at e
  refine ⟨nmOf d, [itD d 1, itD d 2], ?_⟩
  have k := modeD_name h0
  refine e.trans ?_
  show PyData.tuple [itD d 0, itD d 1, itD d 2] = _
  rw [k]
end
theorem all_mk {l : PySem.W.OpenLaw} {w : World} {K : PySem.W.Frag} {h : Heap} {mg : Str → Option Value} {fa fL C_InvalidBase C_InvalidRegisters C_InvalidModes C_InvalidRow C_InvalidEnds C_InvalidResult C_InvalidSign C_InvalidNumber C_UnknownName aR CP : Addr} {otR : Obj} {itR : Array Value} {nR : Nat} {tkL tkS : Tok} {oc kV doc pm cd ct : Value} {od an : Option Addr} {osl : Array (Option Value)} (X : K.In h) (G : h.Ns mainGlobals mg) (hfa : mg "law" = some (.ref fa))
    (D_is_integer : Has K mg "is_integer" s_is_integer ["value"])
    (D_is_between : Has K mg "is_between" s_is_between ["value", "low", "high"])
    (D_is_rule : Has K mg "is_rule" s_is_rule ["value"])
    (D_is_base : Has K mg "is_base" s_is_base ["value"])
    (D_is_remainder : Has K mg "is_remainder" s_is_remainder ["value", "size"])
    (D_is_name : Has K mg "is_name" s_is_name ["value"])
    (D_is_listing : Has K mg "is_listing" s_is_listing ["value", "least", "most"])
    (D_is_factors : Has K mg "is_factors" s_is_factors ["value", "many"])
    (D_is_register : Has K mg "is_register" s_is_register ["value"])
    (D_is_mode : Has K mg "is_mode" s_is_mode ["value"])
    (D_is_row : Has K mg "is_row" s_is_row ["value", "size", "many", "names"])
    (D_first_wrong : Has K mg "first_wrong" s_first_wrong ["parts", "is_part"])
    (D_check_registers : Has K mg "check_registers" s_check_registers ["registers"])
    (D_check_modes : Has K mg "check_modes" s_check_modes ["modes"])
    (D_check_rows : Has K mg "check_rows" s_check_rows ["mode", "rows", "size", "many", "names"])
    (D_check_ends : Has K mg "check_ends" s_check_ends ["ends", "size"])
    (D_check_program : Has K mg "check_program" s_check_program ["base", "registers", "modes", "ends", "result"])
    (D_table_of : Has K mg "table_of" s_table_of ["rows"])
    (D_is_same : Has K mg "is_same" s_is_same ["one", "other"])
    (D_place_of : Has K mg "place_of" s_place_of ["rows", "sign", "remainder"])
    (D__law_pool : Has K mg "_law_pool" s__law_pool ["_law_script", "_law_k"])
    (D__law_draw : Has K mg "_law_draw" s__law_draw ["_law_pool_here", "_law_many"])
    (D__law_choose : Has K mg "_law_choose" s__law_choose ["_law_pool_here", "_law_items"])
    (D__law_updates : Has K mg "_law_updates" s__law_updates ["_law_pool_here", "_law_many", "_law_greatest"])
    (D__law_then : Has K mg "_law_then" s__law_then ["_law_pool_here", "_law_names"])
    (D__law_rows : Has K mg "_law_rows" s__law_rows ["_law_pool_here", "_law_size", "_law_many", "_law_names"])
    (D__law_parts : Has K mg "_law_parts" s__law_parts ["_law_pool_here", "_law_sizes", "_law_most"])
    (D__law_line : Has K mg "_law_line" s__law_line ["_law_rows_here", "_law_sign", "_law_part"])
    (D__law_told : Has K mg "_law_told" s__law_told ["_law_one"])
    (D__law_due : Has K mg "_law_due" s__law_due ["_law_parts_here"])
    (D__law_rows_right : Has K mg "_law_rows_right" s__law_rows_right ["_law_one", "_law_parts_here"])
    (D__law_other_row : Has K mg "_law_other_row" s__law_other_row ["_law_rows_here", "_law_row"])
    (D__law_changes_right : Has K mg "_law_changes_right" s__law_changes_right ["_law_pool_here", "_law_one", "_law_parts_here"])
    (N_InvalidBase : CIn K "InvalidBase" "InvalidBase.__init__" si_InvalidBase C_InvalidBase [.type "ValueError", .type "Exception", .type "BaseException", .type "object"] "ValueError.__new__" ["value"])
    (N_InvalidRegisters : CIn K "InvalidRegisters" "InvalidRegisters.__init__" si_InvalidRegisters C_InvalidRegisters [.type "ValueError", .type "Exception", .type "BaseException", .type "object"] "ValueError.__new__" ["number"])
    (N_InvalidModes : CIn K "InvalidModes" "InvalidModes.__init__" si_InvalidModes C_InvalidModes [.type "ValueError", .type "Exception", .type "BaseException", .type "object"] "ValueError.__new__" ["number"])
    (N_InvalidRow : CIn K "InvalidRow" "InvalidRow.__init__" si_InvalidRow C_InvalidRow [.type "ValueError", .type "Exception", .type "BaseException", .type "object"] "ValueError.__new__" ["mode", "number"])
    (N_InvalidEnds : CIn K "InvalidEnds" "InvalidEnds.__init__" si_InvalidEnds C_InvalidEnds [.type "ValueError", .type "Exception", .type "BaseException", .type "object"] "ValueError.__new__" ["value"])
    (N_InvalidResult : CIn K "InvalidResult" "InvalidResult.__init__" si_InvalidResult C_InvalidResult [.type "ValueError", .type "Exception", .type "BaseException", .type "object"] "ValueError.__new__" ["value"])
    (N_InvalidSign : CIn K "InvalidSign" "InvalidSign.__init__" si_InvalidSign C_InvalidSign [.type "ValueError", .type "Exception", .type "BaseException", .type "object"] "ValueError.__new__" ["value"])
    (N_InvalidNumber : CIn K "InvalidNumber" "InvalidNumber.__init__" si_InvalidNumber C_InvalidNumber [.type "ValueError", .type "Exception", .type "BaseException", .type "object"] "ValueError.__new__" ["value"])
    (N_UnknownName : CIn K "UnknownName" "UnknownName.__init__" si_UnknownName C_UnknownName [.type "LookupError", .type "Exception", .type "BaseException", .type "object"] "LookupError.__new__" ["value"])
    (aCP : PySem.W.nsIn K mainGlobals "Program" = some (some (.ref CP)))
    (clCP : Cls K CP)
    (pin : PIn K CP)
    (iP : IFun K CP "Program.__init__" s_Program___init__ ["self", "base", "registers", "modes", "ends", "result"])
    (p_base : PFun K CP "base" "Program.base" s_Program_base)
    (p_size : PFun K CP "size" "Program.size" s_Program_size)
    (p_ends : PFun K CP "ends" "Program.ends" s_Program_ends)
    (p_result : PFun K CP "result" "Program.result" s_Program_result)
    (m_registers : MeFun K CP "registers" "Program.registers" s_Program_registers ["self"])
    (m_modes : MeFun K CP "modes" "Program.modes" s_Program_modes ["self"])
    (m_rule_of : MeFun K CP "rule_of" "Program.rule_of" s_Program_rule_of ["self", "mode"])
    (m_rows_of : MeFun K CP "rows_of" "Program.rows_of" s_Program_rows_of ["self", "mode"])
    (m__mode : MeFun K CP "_mode" "Program._mode" s_Program__mode ["self", "mode"])
    (m_getitem : IxFun K CP "Program.__getitem__" s_Program___getitem__ ["self", "at"])
    (m_with_rule : MeFun K CP "with_rule" "Program.with_rule" s_Program_with_rule ["self", "mode", "rule"])
    (m_under : MeFun K CP "under" "Program.under" s_Program_under ["self", "rule"])
    (m_with_row : MeFun K CP "with_row" "Program.with_row" s_Program_with_row ["self", "mode", "sign", "remainder", "updates", "then"])
    (m__with_mode : MeFun K CP "_with_mode" "Program._with_mode" s_Program__with_mode ["self", "name", "rule", "rows"])
    (m_eq : MFun K CP "__eq__" "Program.__eq__" s_Program___eq__ ["self", "other"])
    (m__parts : MeFun K CP "_parts" "Program._parts" s_Program__parts ["self"])
    (chg : ChgFun K CP)
    (aT : PySem.W.nsIn K mainGlobals "RULES" = some (some (.ref aR)))
    (lT : K.lookup aR = some otR)
    (cT : otR.cls = .type "tuple")
    (dT : otR.data = .seq itR nR)
    (sT : itR.size ≤ sizeLine)
    (vT : Vals (five.map V.str) itR.toList)
    (gL : PySem.W.nsIn K mainGlobals "LARGEST" = some (some (.int 1000000 tkL)))
    (gS : PySem.W.nsIn K mainGlobals "LETTERS" = some (some (.str abc tkS)))
    (z0 : PySem.W.nsIn K mainGlobals "isinstance" = some none)
    (z1 : PySem.W.nsIn K mainGlobals "int" = some none)
    (z2 : PySem.W.nsIn K mainGlobals "bool" = some none)
    (z3 : PySem.W.nsIn K mainGlobals "str" = some none)
    (z4 : PySem.W.nsIn K mainGlobals "abs" = some none)
    (z5 : PySem.W.nsIn K mainGlobals "len" = some none)
    (z6 : PySem.W.nsIn K mainGlobals "list" = some none)
    (z7 : PySem.W.nsIn K mainGlobals "tuple" = some none)
    (z8 : PySem.W.nsIn K mainGlobals "range" = some none)
    (z9 : PySem.W.nsIn K mainGlobals "enumerate" = some none)
    (z10 : PySem.W.nsIn K mainGlobals "all" = some none)
    (z11 : PySem.W.nsIn K mainGlobals "max" = some none)
    (z12 : PySem.W.nsIn K mainGlobals "min" = some none)
    (aL : PySem.W.nsIn K mainGlobals "law" = some (some (.ref fL))) (lL : K.lookup fL = some ⟨oc, od, .func (PySem.W.fnOf "law" "law" (defArgs s_law) (defBody s_law) (defScope s_law) .none kV doc pm an cd ct), osl⟩) (cL : PySem.W.codeIn K cd "law" = true) (kL : PySem.W.keepIn K (.ref fL) = true) :
    ∃ fd : FuncData, (∀ (s : Shared) (v : Value), BindsTo s fd ⟨[v], []⟩ [("_law_script", v)]) ∧ ∀ base : Heap, K.In base → base.Ns mainGlobals mg → FnOk l.prog w K mg base CX0 13 fa fd ["_law_script"] (spLaw K) := by
  have e := hfa.symm.trans (PySem.W.mg_of X G aL)
  cases e
  have fr : ∀ {y : Str}, PySem.W.nsIn K mainGlobals y = some none → mg y = none := fun z => PySem.W.mg_none_of X G z
  have T : Txt K mg 0 := ⟨fr z0, fr z1, fr z2, fr z3, fr z4, fr z5, fr z6, fr z7, fr z8, fr z9, fr z10, fr z11, fr z12⟩
  obtain ⟨fI_InvalidBase, dI_InvalidBase, aI_InvalidBase, FI_InvalidBase, LI_InvalidBase⟩ := N_InvalidBase
  have m_InvalidBase := PySem.W.mg_of X G aI_InvalidBase
  obtain ⟨fI_InvalidRegisters, dI_InvalidRegisters, aI_InvalidRegisters, FI_InvalidRegisters, LI_InvalidRegisters⟩ := N_InvalidRegisters
  have m_InvalidRegisters := PySem.W.mg_of X G aI_InvalidRegisters
  obtain ⟨fI_InvalidModes, dI_InvalidModes, aI_InvalidModes, FI_InvalidModes, LI_InvalidModes⟩ := N_InvalidModes
  have m_InvalidModes := PySem.W.mg_of X G aI_InvalidModes
  obtain ⟨fI_InvalidRow, dI_InvalidRow, aI_InvalidRow, FI_InvalidRow, LI_InvalidRow⟩ := N_InvalidRow
  have m_InvalidRow := PySem.W.mg_of X G aI_InvalidRow
  obtain ⟨fI_InvalidEnds, dI_InvalidEnds, aI_InvalidEnds, FI_InvalidEnds, LI_InvalidEnds⟩ := N_InvalidEnds
  have m_InvalidEnds := PySem.W.mg_of X G aI_InvalidEnds
  obtain ⟨fI_InvalidResult, dI_InvalidResult, aI_InvalidResult, FI_InvalidResult, LI_InvalidResult⟩ := N_InvalidResult
  have m_InvalidResult := PySem.W.mg_of X G aI_InvalidResult
  obtain ⟨fI_InvalidSign, dI_InvalidSign, aI_InvalidSign, FI_InvalidSign, LI_InvalidSign⟩ := N_InvalidSign
  have m_InvalidSign := PySem.W.mg_of X G aI_InvalidSign
  obtain ⟨fI_InvalidNumber, dI_InvalidNumber, aI_InvalidNumber, FI_InvalidNumber, LI_InvalidNumber⟩ := N_InvalidNumber
  have m_InvalidNumber := PySem.W.mg_of X G aI_InvalidNumber
  obtain ⟨fI_UnknownName, dI_UnknownName, aI_UnknownName, FI_UnknownName, LI_UnknownName⟩ := N_UnknownName
  have m_UnknownName := PySem.W.mg_of X G aI_UnknownName
  refine ⟨PySem.W.fnOf "law" "law" (defArgs s_law) (defBody s_law) (defScope s_law) .none kV doc pm an cd ct, fun s v => .of_eq rfl, fun base _ _ => ?_⟩
  have X_InvalidBase := in_InvalidBase (P := l.prog) (w := w) (base := base) FI_InvalidBase LI_InvalidBase m_InvalidBase
  have X_InvalidRegisters := in_InvalidRegisters (P := l.prog) (w := w) (base := base) FI_InvalidRegisters LI_InvalidRegisters m_InvalidRegisters
  have X_InvalidModes := in_InvalidModes (P := l.prog) (w := w) (base := base) FI_InvalidModes LI_InvalidModes m_InvalidModes
  have X_InvalidRow := in_InvalidRow (P := l.prog) (w := w) (base := base) FI_InvalidRow LI_InvalidRow m_InvalidRow
  have X_InvalidEnds := in_InvalidEnds (P := l.prog) (w := w) (base := base) FI_InvalidEnds LI_InvalidEnds m_InvalidEnds
  have X_InvalidResult := in_InvalidResult (P := l.prog) (w := w) (base := base) FI_InvalidResult LI_InvalidResult m_InvalidResult
  have X_InvalidSign := in_InvalidSign (P := l.prog) (w := w) (base := base) FI_InvalidSign LI_InvalidSign m_InvalidSign
  have X_InvalidNumber := in_InvalidNumber (P := l.prog) (w := w) (base := base) FI_InvalidNumber LI_InvalidNumber m_InvalidNumber
  have X_UnknownName := in_UnknownName (P := l.prog) (w := w) (base := base) FI_UnknownName LI_UnknownName m_UnknownName
  have PT : PTx K mg aR := ⟨T, PySem.W.mg_of X G aT, fun H => .inr ⟨otR, itR, nR, lT, cT, dT, sT, vT⟩, ⟨tkL, PySem.W.mg_of X G gL⟩, ⟨tkS, PySem.W.mg_of X G gS⟩⟩
  have C : PCls K mg CP := ⟨clCP, PySem.W.mg_of X G aCP, pin.n1, pin.n2, pin.n3, pin.n4, pin.n5, pin.n6⟩
  have O_is_integer := ok_is_integer (P := l.prog) (w := w) (base := base) D_is_integer PT
  have O_is_between := ok_is_between (P := l.prog) (w := w) (base := base) D_is_between O_is_integer
  have O_is_rule := ok_is_rule (P := l.prog) (w := w) (base := base) D_is_rule PT
  have O_is_base := ok_is_base (P := l.prog) (w := w) (base := base) D_is_base PT O_is_between
  have O_is_remainder := ok_is_remainder (P := l.prog) (w := w) (base := base) D_is_remainder O_is_between
  have O_is_name := ok_is_name (P := l.prog) (w := w) (base := base) D_is_name PT
  have O_is_listing := ok_is_listing (P := l.prog) (w := w) (base := base) D_is_listing PT
  have O_is_factors := ok_is_factors (P := l.prog) (w := w) (base := base) D_is_factors PT O_is_between
  have O_is_register := ok_is_register (P := l.prog) (w := w) (base := base) D_is_register PT O_is_name O_is_factors
  have O_is_mode := ok_is_mode (P := l.prog) (w := w) (base := base) D_is_mode PT O_is_name O_is_rule
  have O_is_row := ok_is_row (P := l.prog) (w := w) (base := base) D_is_row PT O_is_between O_is_remainder O_is_factors
  obtain ⟨f0, fd0, g0, k0, b0, F0⟩ := id O_is_register
  have O_fw1 := ok_first_wrong (P := l.prog) (w := w) (base := base) (part := regD) D_first_wrong PT F0 k0 b0 reg_named
  have O_check_registers := ok_check_registers D_check_registers g0 O_is_listing O_fw1 X_InvalidRegisters
  obtain ⟨f1, fd1, g1, k1, b1, F1⟩ := id O_is_mode
  have O_fw2 := ok_first_wrong (P := l.prog) (w := w) (base := base) (part := modeD) D_first_wrong PT (lift_fn F1 (by decide)) k1 b1 mode_named
  have O_check_modes := ok_check_modes D_check_modes g1 O_is_listing O_fw2 X_InvalidModes
  have O_check_rows := ok_check_rows (P := l.prog) (w := w) (base := base) D_check_rows PT O_is_row X_InvalidRow
  have O_check_ends := ok_check_ends (P := l.prog) (w := w) (base := base) D_check_ends PT O_is_remainder X_InvalidEnds
  have O_check_program := ok_check_program (P := l.prog) (w := w) (base := base) D_check_program PT O_is_base O_check_registers O_check_modes O_check_rows O_check_ends O_is_factors X_InvalidBase X_InvalidResult
  have O_table_of := ok_table_of (P := l.prog) (w := w) (base := base) D_table_of 
  have mk : MkP l.prog w K mg base CP C_InvalidBase C_InvalidRegisters C_InvalidModes C_InvalidRow C_InvalidEnds C_InvalidResult := by
    obtain ⟨f, fd, m, F, b⟩ := iP
    exact ⟨f, fd, m, ok_Program_init F C PT O_check_program O_table_of, b⟩
  have pBase := ok_Program_base (P := l.prog) (w := w) (base := base) p_base C
  have pSize := ok_Program_size (P := l.prog) (w := w) (base := base) p_size C PT
  have pEnds := ok_Program_ends (P := l.prog) (w := w) (base := base) p_ends C
  have pResult := ok_Program_result (P := l.prog) (w := w) (base := base) p_result C
  have mM : OwnMeth l.prog w K mg base CP 3 "_mode" ["self", "mode"] (spPMode l.prog w CP C_UnknownName) := by
    obtain ⟨f, fd, m, F, b⟩ := m__mode
    exact ⟨f, fd, m, b, ok_Program__mode F C PT X_UnknownName⟩
  have mRegs : OwnMeth l.prog w K mg base CP 1 "registers" ["self"] (spPRegs l.prog w CP) := by
    obtain ⟨f, fd, m, F, b⟩ := m_registers
    exact ⟨f, fd, m, b, ok_Program_registers F C PT⟩
  have mModes : OwnMeth l.prog w K mg base CP 1 "modes" ["self"] (spPModes l.prog w CP) := by
    obtain ⟨f, fd, m, F, b⟩ := m_modes
    exact ⟨f, fd, m, b, ok_Program_modes F C⟩
  have mRule : OwnMeth l.prog w K mg base CP 4 "rule_of" ["self", "mode"] (spPRuleOf l.prog w CP C_UnknownName) := by
    obtain ⟨f, fd, m, F, b⟩ := m_rule_of
    exact ⟨f, fd, m, b, ok_Program_rule_of F C mM⟩
  have mRows : OwnMeth l.prog w K mg base CP 4 "rows_of" ["self", "mode"] (spPRowsOf l.prog w CP C_UnknownName) := by
    obtain ⟨f, fd, m, F, b⟩ := m_rows_of
    exact ⟨f, fd, m, b, ok_Program_rows_of F C PT mM⟩
  have mIx : OwnIx l.prog w K mg base CP 4 ["self", "at"] (spPGet l.prog w CP C_UnknownName C_InvalidSign C_InvalidNumber) := by
    obtain ⟨f, fd, a, n, i, F, b⟩ := m_getitem
    exact ⟨f, fd, a, n, i, b, ok_Program_getitem F C mM pSize O_is_between O_is_remainder X_InvalidSign X_InvalidNumber⟩
  have mWM : OwnMeth l.prog w K mg base CP 10 "_with_mode" ["self", "name", "rule", "rows"] (spPWith l.prog w CP) := by
    obtain ⟨f, fd, m, F, b⟩ := m__with_mode
    exact ⟨f, fd, m, b, ok_Program__with_mode F C mk⟩
  have mWRule : OwnMeth l.prog w K mg base CP 11 "with_rule" ["self", "mode", "rule"] (spPWithRule l.prog w CP) := by
    obtain ⟨f, fd, m, F, b⟩ := m_with_rule
    exact ⟨f, fd, m, b, ok_Program_with_rule F C O_is_rule mM mWM⟩
  have mUnder : OwnMeth l.prog w K mg base CP 10 "under" ["self", "rule"] (spPUnder l.prog w CP C_UnknownName) := by
    obtain ⟨f, fd, m, F, b⟩ := m_under
    exact ⟨f, fd, m, b, ok_Program_under F C PT O_is_rule mk⟩
  have O_is_same := ok_is_same (P := l.prog) (w := w) (base := base) D_is_same O_is_integer
  have O_place_of := ok_place_of (P := l.prog) (w := w) (base := base) D_place_of PT O_is_same
  have mWRow : OwnMeth l.prog w K mg base CP 11 "with_row" ["self", "mode", "sign", "remainder", "updates", "then"] (spPWithRow l.prog w CP) := by
    obtain ⟨f, fd, m, F, b⟩ := m_with_row
    exact ⟨f, fd, m, b, ok_Program_with_row F C O_place_of mM mWM⟩
  have mParts : OwnMeth l.prog w K mg base CP 1 "_parts" ["self"] (spPParts l.prog w CP) := by
    obtain ⟨f, fd, m, F, b⟩ := m__parts
    exact ⟨f, fd, m, b, ok_Program__parts F C⟩
  have mEq : OwnM l.prog w K mg base CP 2 "__eq__" ["self", "other"] (spPEq l.prog w CP) := by
    obtain ⟨f, fd, a, i, F, b⟩ := m_eq
    exact ⟨f, fd, a, i, b, ok_Program___eq__ F C PT pin.kit mParts⟩
  have mChg : OwnChg l.prog w K mg base CP := by
    obtain ⟨f, fd, m, F⟩ := chg
    exact ⟨f, fd, m, F, ok_Program_changed (FunD.plain F) C mk⟩
  have M : PMeth l.prog w K mg base CP C_UnknownName := ⟨C, mWRule, mUnder, mWRow, mChg⟩
  have O__law_pool := ok__law_pool (P := l.prog) (w := w) (base := base) (aR := 0) D__law_pool T
  have O__law_draw := ok__law_draw (P := l.prog) (w := w) (base := base) (aR := 0) D__law_draw T
  have O__law_choose := ok__law_choose (aR := 0) D__law_choose T O__law_draw
  have O__law_updates := ok__law_updates (aR := 0) D__law_updates T O__law_draw
  have O__law_then := ok__law_then D__law_then O__law_draw O__law_choose
  have O__law_rows := ok__law_rows (aR := 0) D__law_rows T O__law_draw O__law_choose O__law_updates O__law_then
  have O__law_parts := ok__law_parts (aR := 0) D__law_parts T O__law_draw O__law_choose O__law_rows
  have O__law_line := ok__law_line (P := l.prog) (w := w) (base := base) D__law_line
  have O__law_told := ok__law_told D__law_told C pBase pSize pEnds pResult mRegs mModes mRule mRows
  have O__law_due := ok__law_due (P := l.prog) (w := w) (base := base) (aR := 0) D__law_due T
  have O__law_rows_right := ok__law_rows_right (aR := 0) D__law_rows_right T mIx O__law_line
  have O__law_other_row := ok__law_other_row (P := l.prog) (w := w) (base := base) D__law_other_row
  have O__law_changes_right := ok__law_changes_right (aR := 0) D__law_changes_right T M O__law_choose O__law_updates O__law_then O__law_told O__law_due O__law_other_row
  exact ok_law (aR := 0) (fun_mk (st := s_law) lL cL kL) T ⟨M, mk, mEq, pin.ne, pin.nf, mRegs, mModes, mRows, O__law_told, O__law_due, O__law_rows_right, O__law_changes_right, O__law_pool, O__law_parts⟩
theorem walk {l : PySem.W.OpenLaw} {q : Program} {loose : List Str} {XP : (Str → Option Value) → Heap → Prop} {YP : World → Heap → Prop} {d : DefRec} {K : Params → PySem.W.Frag} (hn : l.most = some 63) (hdf : d.params.defaults = [])
    (hY : ∀ (w : World) (h : Heap), YP w h → (K w.params).In h)
    (F : ∀ (w : World) (mg : Str → Option Value) (fa : Addr) (h : Heap), (K w.params).In h → h.Ns mainGlobals mg → mg d.name = some (.ref fa) →
      ∃ fd : FuncData, (∀ (s : Shared) (u : Value), BindsTo s fd ⟨[u], []⟩ [("_law_script", u)]) ∧ ∀ base : Heap, (K w.params).In base → base.Ns mainGlobals mg → FnOk l.prog w (K w.params) mg base CX0 13 fa fd ["_law_script"] (spLaw (K w.params))) :
    PySem.W.WalkO q loose XP YP l.row.toRowW d [] (fun f vs => PySem.call f vs) :=
  L2.walk_of (n := 63) (k := 13) (x := "_law_script") (CX := fun _ => CX0) (sp := fun w => spLaw (K w.params)) hn (by decide) hdf ⟨rfl, by decide, by decide⟩ hY F (fun _ _ a ns hl _ hS => ⟨a, ns, rfl, hS, hl, fun _ => rfl⟩) fun _ _ _ _ _ z => z
end W1
open PySem PySem.W PyProof.Rows
set_option maxRecDepth 100000 in
set_option maxHeartbeats 0 in
theorem PySem.Challenge.cw_twodivisions_k03_programs_told_and_chang_holds : PySem.Challenge.rw_twodivisions_k03_programs_told_and_chang.Holds := by
  w_on; o_law; k_head; (case hw => w_witness2)
  k_fill
  refine W1.walk (l := PySem.Challenge.rw_twodivisions_k03_programs_told_and_chang) rfl rfl (fun w h Y => PySem.W.kIn_of Y) ?F
  case F =>
    intro w mg fa h KX G hmg
    refine' W1.all_mk KX G hmg ?D_is_integer ?D_is_between ?D_is_rule ?D_is_base ?D_is_remainder ?D_is_name ?D_is_listing ?D_is_factors ?D_is_register ?D_is_mode ?D_is_row ?D_first_wrong ?D_check_registers ?D_check_modes ?D_check_rows ?D_check_ends ?D_check_program ?D_table_of ?D_is_same ?D_place_of ?D__law_pool ?D__law_draw ?D__law_choose ?D__law_updates ?D__law_then ?D__law_rows ?D__law_parts ?D__law_line ?D__law_told ?D__law_due ?D__law_rows_right ?D__law_other_row ?D__law_changes_right ?N_InvalidBase ?N_InvalidRegisters ?N_InvalidModes ?N_InvalidRow ?N_InvalidEnds ?N_InvalidResult ?N_InvalidSign ?N_InvalidNumber ?N_UnknownName ?aCP ?clCP ?pin ?iP ?p_base ?p_size ?p_ends ?p_result ?m_registers ?m_modes ?m_rule_of ?m_rows_of ?m__mode ?m_getitem ?m_with_rule ?m_under ?m_with_row ?m__with_mode ?m_eq ?m__parts ?chg ?aT ?lT ?cT ?dT ?sT ?vT ?gL ?gS ?z0 ?z1 ?z2 ?z3 ?z4 ?z5 ?z6 ?z7 ?z8 ?z9 ?z10 ?z11 ?z12 ?aL ?lL ?cL ?kL
    (case D_is_integer => (refine' W1.has_mk KX G (fun _ _ _ _ _ _ us hl => match us, hl with | [_], _ => rfl) ?a ?l ?c ?k; (case a => k_is); (case l => k_is); (case c => k_is); (case k => k_is)))
    (case D_is_between => (refine' W1.has_mk KX G (fun _ _ _ _ _ _ us hl => match us, hl with | [_, _, _], _ => rfl) ?a ?l ?c ?k; (case a => k_is); (case l => k_is); (case c => k_is); (case k => k_is)))
    (case D_is_rule => (refine' W1.has_mk KX G (fun _ _ _ _ _ _ us hl => match us, hl with | [_], _ => rfl) ?a ?l ?c ?k; (case a => k_is); (case l => k_is); (case c => k_is); (case k => k_is)))
    (case D_is_base => (refine' W1.has_mk KX G (fun _ _ _ _ _ _ us hl => match us, hl with | [_], _ => rfl) ?a ?l ?c ?k; (case a => k_is); (case l => k_is); (case c => k_is); (case k => k_is)))
    (case D_is_remainder => (refine' W1.has_mk KX G (fun _ _ _ _ _ _ us hl => match us, hl with | [_, _], _ => rfl) ?a ?l ?c ?k; (case a => k_is); (case l => k_is); (case c => k_is); (case k => k_is)))
    (case D_is_name => (refine' W1.has_mk KX G (fun _ _ _ _ _ _ us hl => match us, hl with | [_], _ => rfl) ?a ?l ?c ?k; (case a => k_is); (case l => k_is); (case c => k_is); (case k => k_is)))
    (case D_is_listing => (refine' W1.has_mk KX G (fun _ _ _ _ _ _ us hl => match us, hl with | [_, _, _], _ => rfl) ?a ?l ?c ?k; (case a => k_is); (case l => k_is); (case c => k_is); (case k => k_is)))
    (case D_is_factors => (refine' W1.has_mk KX G (fun _ _ _ _ _ _ us hl => match us, hl with | [_, _], _ => rfl) ?a ?l ?c ?k; (case a => k_is); (case l => k_is); (case c => k_is); (case k => k_is)))
    (case D_is_register => (refine' W1.has_mk KX G (fun _ _ _ _ _ _ us hl => match us, hl with | [_], _ => rfl) ?a ?l ?c ?k; (case a => k_is); (case l => k_is); (case c => k_is); (case k => k_is)))
    (case D_is_mode => (refine' W1.has_mk KX G (fun _ _ _ _ _ _ us hl => match us, hl with | [_], _ => rfl) ?a ?l ?c ?k; (case a => k_is); (case l => k_is); (case c => k_is); (case k => k_is)))
    (case D_is_row => (refine' W1.has_mk KX G (fun _ _ _ _ _ _ us hl => match us, hl with | [_, _, _, _], _ => rfl) ?a ?l ?c ?k; (case a => k_is); (case l => k_is); (case c => k_is); (case k => k_is)))
    (case D_first_wrong => (refine' W1.has_mk KX G (fun _ _ _ _ _ _ us hl => match us, hl with | [_, _], _ => rfl) ?a ?l ?c ?k; (case a => k_is); (case l => k_is); (case c => k_is); (case k => k_is)))
    (case D_check_registers => (refine' W1.has_mk KX G (fun _ _ _ _ _ _ us hl => match us, hl with | [_], _ => rfl) ?a ?l ?c ?k; (case a => k_is); (case l => k_is); (case c => k_is); (case k => k_is)))
    (case D_check_modes => (refine' W1.has_mk KX G (fun _ _ _ _ _ _ us hl => match us, hl with | [_], _ => rfl) ?a ?l ?c ?k; (case a => k_is); (case l => k_is); (case c => k_is); (case k => k_is)))
    (case D_check_rows => (refine' W1.has_mk KX G (fun _ _ _ _ _ _ us hl => match us, hl with | [_, _, _, _, _], _ => rfl) ?a ?l ?c ?k; (case a => k_is); (case l => k_is); (case c => k_is); (case k => k_is)))
    (case D_check_ends => (refine' W1.has_mk KX G (fun _ _ _ _ _ _ us hl => match us, hl with | [_, _], _ => rfl) ?a ?l ?c ?k; (case a => k_is); (case l => k_is); (case c => k_is); (case k => k_is)))
    (case D_check_program => (refine' W1.has_mk KX G (fun _ _ _ _ _ _ us hl => match us, hl with | [_, _, _, _, _], _ => rfl) ?a ?l ?c ?k; (case a => k_is); (case l => k_is); (case c => k_is); (case k => k_is)))
    (case D_table_of => (refine' W1.has_mk KX G (fun _ _ _ _ _ _ us hl => match us, hl with | [_], _ => rfl) ?a ?l ?c ?k; (case a => k_is); (case l => k_is); (case c => k_is); (case k => k_is)))
    (case D_is_same => (refine' W1.has_mk KX G (fun _ _ _ _ _ _ us hl => match us, hl with | [_, _], _ => rfl) ?a ?l ?c ?k; (case a => k_is); (case l => k_is); (case c => k_is); (case k => k_is)))
    (case D_place_of => (refine' W1.has_mk KX G (fun _ _ _ _ _ _ us hl => match us, hl with | [_, _, _], _ => rfl) ?a ?l ?c ?k; (case a => k_is); (case l => k_is); (case c => k_is); (case k => k_is)))
    (case D__law_pool => (refine' W1.has_mk KX G (fun _ _ _ _ _ _ us hl => match us, hl with | [_, _], _ => rfl) ?a ?l ?c ?k; (case a => k_is); (case l => k_is); (case c => k_is); (case k => k_is)))
    (case D__law_draw => (refine' W1.has_mk KX G (fun _ _ _ _ _ _ us hl => match us, hl with | [_, _], _ => rfl) ?a ?l ?c ?k; (case a => k_is); (case l => k_is); (case c => k_is); (case k => k_is)))
    (case D__law_choose => (refine' W1.has_mk KX G (fun _ _ _ _ _ _ us hl => match us, hl with | [_, _], _ => rfl) ?a ?l ?c ?k; (case a => k_is); (case l => k_is); (case c => k_is); (case k => k_is)))
    (case D__law_updates => (refine' W1.has_mk KX G (fun _ _ _ _ _ _ us hl => match us, hl with | [_, _, _], _ => rfl) ?a ?l ?c ?k; (case a => k_is); (case l => k_is); (case c => k_is); (case k => k_is)))
    (case D__law_then => (refine' W1.has_mk KX G (fun _ _ _ _ _ _ us hl => match us, hl with | [_, _], _ => rfl) ?a ?l ?c ?k; (case a => k_is); (case l => k_is); (case c => k_is); (case k => k_is)))
    (case D__law_rows => (refine' W1.has_mk KX G (fun _ _ _ _ _ _ us hl => match us, hl with | [_, _, _, _], _ => rfl) ?a ?l ?c ?k; (case a => k_is); (case l => k_is); (case c => k_is); (case k => k_is)))
    (case D__law_parts => (refine' W1.has_mk KX G (fun _ _ _ _ _ _ us hl => match us, hl with | [_, _, _], _ => rfl) ?a ?l ?c ?k; (case a => k_is); (case l => k_is); (case c => k_is); (case k => k_is)))
    (case D__law_line => (refine' W1.has_mk KX G (fun _ _ _ _ _ _ us hl => match us, hl with | [_, _, _], _ => rfl) ?a ?l ?c ?k; (case a => k_is); (case l => k_is); (case c => k_is); (case k => k_is)))
    (case D__law_told => (refine' W1.has_mk KX G (fun _ _ _ _ _ _ us hl => match us, hl with | [_], _ => rfl) ?a ?l ?c ?k; (case a => k_is); (case l => k_is); (case c => k_is); (case k => k_is)))
    (case D__law_due => (refine' W1.has_mk KX G (fun _ _ _ _ _ _ us hl => match us, hl with | [_], _ => rfl) ?a ?l ?c ?k; (case a => k_is); (case l => k_is); (case c => k_is); (case k => k_is)))
    (case D__law_rows_right => (refine' W1.has_mk KX G (fun _ _ _ _ _ _ us hl => match us, hl with | [_, _], _ => rfl) ?a ?l ?c ?k; (case a => k_is); (case l => k_is); (case c => k_is); (case k => k_is)))
    (case D__law_other_row => (refine' W1.has_mk KX G (fun _ _ _ _ _ _ us hl => match us, hl with | [_, _], _ => rfl) ?a ?l ?c ?k; (case a => k_is); (case l => k_is); (case c => k_is); (case k => k_is)))
    (case D__law_changes_right => (refine' W1.has_mk KX G (fun _ _ _ _ _ _ us hl => match us, hl with | [_, _, _], _ => rfl) ?a ?l ?c ?k; (case a => k_is); (case l => k_is); (case c => k_is); (case k => k_is)))
    (case N_InvalidBase => (refine' W1.cin_mk ?YInvalidBasea ?YInvalidBaseb ?YInvalidBasel ?YInvalidBasec ?YInvalidBasek ?YInvalidBaseg1 ?YInvalidBaseg2 ?YInvalidBaset ?YInvalidBaseu ?YInvalidBasev ?YInvalidBasew; (case YInvalidBasea => k_is); (case YInvalidBaseb => k_is); (case YInvalidBasel => k_is); (case YInvalidBasec => k_is); (case YInvalidBasek => k_is); (case YInvalidBaseg1 => k_is); (case YInvalidBaseg2 => k_is); (case YInvalidBaset => kernel_rfl); (case YInvalidBaseu => kernel_rfl); (case YInvalidBasev => kernel_rfl); (case YInvalidBasew => kernel_rfl)))
    (case N_InvalidRegisters => (refine' W1.cin_mk ?YInvalidRegistersa ?YInvalidRegistersb ?YInvalidRegistersl ?YInvalidRegistersc ?YInvalidRegistersk ?YInvalidRegistersg1 ?YInvalidRegistersg2 ?YInvalidRegisterst ?YInvalidRegistersu ?YInvalidRegistersv ?YInvalidRegistersw; (case YInvalidRegistersa => k_is); (case YInvalidRegistersb => k_is); (case YInvalidRegistersl => k_is); (case YInvalidRegistersc => k_is); (case YInvalidRegistersk => k_is); (case YInvalidRegistersg1 => k_is); (case YInvalidRegistersg2 => k_is); (case YInvalidRegisterst => kernel_rfl); (case YInvalidRegistersu => kernel_rfl); (case YInvalidRegistersv => kernel_rfl); (case YInvalidRegistersw => kernel_rfl)))
    (case N_InvalidModes => (refine' W1.cin_mk ?YInvalidModesa ?YInvalidModesb ?YInvalidModesl ?YInvalidModesc ?YInvalidModesk ?YInvalidModesg1 ?YInvalidModesg2 ?YInvalidModest ?YInvalidModesu ?YInvalidModesv ?YInvalidModesw; (case YInvalidModesa => k_is); (case YInvalidModesb => k_is); (case YInvalidModesl => k_is); (case YInvalidModesc => k_is); (case YInvalidModesk => k_is); (case YInvalidModesg1 => k_is); (case YInvalidModesg2 => k_is); (case YInvalidModest => kernel_rfl); (case YInvalidModesu => kernel_rfl); (case YInvalidModesv => kernel_rfl); (case YInvalidModesw => kernel_rfl)))
    (case N_InvalidRow => (refine' W1.cin_mk ?YInvalidRowa ?YInvalidRowb ?YInvalidRowl ?YInvalidRowc ?YInvalidRowk ?YInvalidRowg1 ?YInvalidRowg2 ?YInvalidRowt ?YInvalidRowu ?YInvalidRowv ?YInvalidRoww; (case YInvalidRowa => k_is); (case YInvalidRowb => k_is); (case YInvalidRowl => k_is); (case YInvalidRowc => k_is); (case YInvalidRowk => k_is); (case YInvalidRowg1 => k_is); (case YInvalidRowg2 => k_is); (case YInvalidRowt => kernel_rfl); (case YInvalidRowu => kernel_rfl); (case YInvalidRowv => kernel_rfl); (case YInvalidRoww => kernel_rfl)))
    (case N_InvalidEnds => (refine' W1.cin_mk ?YInvalidEndsa ?YInvalidEndsb ?YInvalidEndsl ?YInvalidEndsc ?YInvalidEndsk ?YInvalidEndsg1 ?YInvalidEndsg2 ?YInvalidEndst ?YInvalidEndsu ?YInvalidEndsv ?YInvalidEndsw; (case YInvalidEndsa => k_is); (case YInvalidEndsb => k_is); (case YInvalidEndsl => k_is); (case YInvalidEndsc => k_is); (case YInvalidEndsk => k_is); (case YInvalidEndsg1 => k_is); (case YInvalidEndsg2 => k_is); (case YInvalidEndst => kernel_rfl); (case YInvalidEndsu => kernel_rfl); (case YInvalidEndsv => kernel_rfl); (case YInvalidEndsw => kernel_rfl)))
    (case N_InvalidResult => (refine' W1.cin_mk ?YInvalidResulta ?YInvalidResultb ?YInvalidResultl ?YInvalidResultc ?YInvalidResultk ?YInvalidResultg1 ?YInvalidResultg2 ?YInvalidResultt ?YInvalidResultu ?YInvalidResultv ?YInvalidResultw; (case YInvalidResulta => k_is); (case YInvalidResultb => k_is); (case YInvalidResultl => k_is); (case YInvalidResultc => k_is); (case YInvalidResultk => k_is); (case YInvalidResultg1 => k_is); (case YInvalidResultg2 => k_is); (case YInvalidResultt => kernel_rfl); (case YInvalidResultu => kernel_rfl); (case YInvalidResultv => kernel_rfl); (case YInvalidResultw => kernel_rfl)))
    (case N_InvalidSign => (refine' W1.cin_mk ?YInvalidSigna ?YInvalidSignb ?YInvalidSignl ?YInvalidSignc ?YInvalidSignk ?YInvalidSigng1 ?YInvalidSigng2 ?YInvalidSignt ?YInvalidSignu ?YInvalidSignv ?YInvalidSignw; (case YInvalidSigna => k_is); (case YInvalidSignb => k_is); (case YInvalidSignl => k_is); (case YInvalidSignc => k_is); (case YInvalidSignk => k_is); (case YInvalidSigng1 => k_is); (case YInvalidSigng2 => k_is); (case YInvalidSignt => kernel_rfl); (case YInvalidSignu => kernel_rfl); (case YInvalidSignv => kernel_rfl); (case YInvalidSignw => kernel_rfl)))
    (case N_InvalidNumber => (refine' W1.cin_mk ?YInvalidNumbera ?YInvalidNumberb ?YInvalidNumberl ?YInvalidNumberc ?YInvalidNumberk ?YInvalidNumberg1 ?YInvalidNumberg2 ?YInvalidNumbert ?YInvalidNumberu ?YInvalidNumberv ?YInvalidNumberw; (case YInvalidNumbera => k_is); (case YInvalidNumberb => k_is); (case YInvalidNumberl => k_is); (case YInvalidNumberc => k_is); (case YInvalidNumberk => k_is); (case YInvalidNumberg1 => k_is); (case YInvalidNumberg2 => k_is); (case YInvalidNumbert => kernel_rfl); (case YInvalidNumberu => kernel_rfl); (case YInvalidNumberv => kernel_rfl); (case YInvalidNumberw => kernel_rfl)))
    (case N_UnknownName => (refine' W1.cin_mk ?YUnknownNamea ?YUnknownNameb ?YUnknownNamel ?YUnknownNamec ?YUnknownNamek ?YUnknownNameg1 ?YUnknownNameg2 ?YUnknownNamet ?YUnknownNameu ?YUnknownNamev ?YUnknownNamew; (case YUnknownNamea => k_is); (case YUnknownNameb => k_is); (case YUnknownNamel => k_is); (case YUnknownNamec => k_is); (case YUnknownNamek => k_is); (case YUnknownNameg1 => k_is); (case YUnknownNameg2 => k_is); (case YUnknownNamet => kernel_rfl); (case YUnknownNameu => kernel_rfl); (case YUnknownNamev => kernel_rfl); (case YUnknownNamew => kernel_rfl)))
    (case aCP => k_is)
    (case clCP => (refine' W1.cls_mk ?Zct ?Zcu; (case Zct => kernel_rfl); (case Zcu => kernel_rfl)))
    (case pin => (refine' W1.pin_mk ?Zg1 ?Zg2 ?Zu ?Zv ?Zo ?Zd1 ?Zd2 ?Zd3 ?Zd4 ?Zd5 ?Zd6 ?Zn ?Zf; (case Zg1 => k_is); (case Zg2 => k_is); (case Zu => kernel_rfl); (case Zv => kernel_rfl); (case Zo => kernel_rfl); (case Zd1 => kernel_rfl); (case Zd2 => kernel_rfl); (case Zd3 => kernel_rfl); (case Zd4 => kernel_rfl); (case Zd5 => kernel_rfl); (case Zd6 => kernel_rfl); (case Zn => kernel_rfl); (case Zf => kernel_rfl)))
    (case iP => (refine' W1.ifun_mk (fun _ _ _ _ _ _ us hl => match us, hl with | [_, _, _, _, _, _], _ => rfl) ?Y_iP_a ?Y_iP_l ?Y_iP_c ?Y_iP_k ?Y_iP_m ?Y_iP_i ?Y_iP_kc; (case Y_iP_a => k_is); (case Y_iP_l => k_is); (case Y_iP_c => k_is); (case Y_iP_k => k_is); (case Y_iP_m => k_is); (case Y_iP_i => k_is); (case Y_iP_kc => k_is)))
    (case p_base => (refine' W1.pfun_mk (fun _ _ _ _ _ _ us hl => match us, hl with | [_], _ => rfl) ?Y_p_base_a ?Y_p_base_s ?Y_p_base_t ?Y_p_base_r ?Y_p_base_l ?Y_p_base_c ?Y_p_base_k; (case Y_p_base_a => k_is); (case Y_p_base_s => k_is); (case Y_p_base_t => k_is); (case Y_p_base_r => k_is); (case Y_p_base_l => k_is); (case Y_p_base_c => k_is); (case Y_p_base_k => k_is)))
    (case p_size => (refine' W1.pfun_mk (fun _ _ _ _ _ _ us hl => match us, hl with | [_], _ => rfl) ?Y_p_size_a ?Y_p_size_s ?Y_p_size_t ?Y_p_size_r ?Y_p_size_l ?Y_p_size_c ?Y_p_size_k; (case Y_p_size_a => k_is); (case Y_p_size_s => k_is); (case Y_p_size_t => k_is); (case Y_p_size_r => k_is); (case Y_p_size_l => k_is); (case Y_p_size_c => k_is); (case Y_p_size_k => k_is)))
    (case p_ends => (refine' W1.pfun_mk (fun _ _ _ _ _ _ us hl => match us, hl with | [_], _ => rfl) ?Y_p_ends_a ?Y_p_ends_s ?Y_p_ends_t ?Y_p_ends_r ?Y_p_ends_l ?Y_p_ends_c ?Y_p_ends_k; (case Y_p_ends_a => k_is); (case Y_p_ends_s => k_is); (case Y_p_ends_t => k_is); (case Y_p_ends_r => k_is); (case Y_p_ends_l => k_is); (case Y_p_ends_c => k_is); (case Y_p_ends_k => k_is)))
    (case p_result => (refine' W1.pfun_mk (fun _ _ _ _ _ _ us hl => match us, hl with | [_], _ => rfl) ?Y_p_result_a ?Y_p_result_s ?Y_p_result_t ?Y_p_result_r ?Y_p_result_l ?Y_p_result_c ?Y_p_result_k; (case Y_p_result_a => k_is); (case Y_p_result_s => k_is); (case Y_p_result_t => k_is); (case Y_p_result_r => k_is); (case Y_p_result_l => k_is); (case Y_p_result_c => k_is); (case Y_p_result_k => k_is)))
    (case m_registers => (refine' W1.over_mk (fun _ _ _ _ _ _ us hl => match us, hl with | [_], _ => rfl) ?Y_m_registers_a ?Y_m_registers_l ?Y_m_registers_c ?Y_m_registers_k ?Y_m_registers_i; (case Y_m_registers_a => k_is); (case Y_m_registers_l => k_is); (case Y_m_registers_c => k_is); (case Y_m_registers_k => k_is); (case Y_m_registers_i => k_is)))
    (case m_modes => (refine' W1.over_mk (fun _ _ _ _ _ _ us hl => match us, hl with | [_], _ => rfl) ?Y_m_modes_a ?Y_m_modes_l ?Y_m_modes_c ?Y_m_modes_k ?Y_m_modes_i; (case Y_m_modes_a => k_is); (case Y_m_modes_l => k_is); (case Y_m_modes_c => k_is); (case Y_m_modes_k => k_is); (case Y_m_modes_i => k_is)))
    (case m_rule_of => (refine' W1.over_mk (fun _ _ _ _ _ _ us hl => match us, hl with | [_, _], _ => rfl) ?Y_m_rule_of_a ?Y_m_rule_of_l ?Y_m_rule_of_c ?Y_m_rule_of_k ?Y_m_rule_of_i; (case Y_m_rule_of_a => k_is); (case Y_m_rule_of_l => k_is); (case Y_m_rule_of_c => k_is); (case Y_m_rule_of_k => k_is); (case Y_m_rule_of_i => k_is)))
    (case m_rows_of => (refine' W1.over_mk (fun _ _ _ _ _ _ us hl => match us, hl with | [_, _], _ => rfl) ?Y_m_rows_of_a ?Y_m_rows_of_l ?Y_m_rows_of_c ?Y_m_rows_of_k ?Y_m_rows_of_i; (case Y_m_rows_of_a => k_is); (case Y_m_rows_of_l => k_is); (case Y_m_rows_of_c => k_is); (case Y_m_rows_of_k => k_is); (case Y_m_rows_of_i => k_is)))
    (case m__mode => (refine' W1.over_mk (fun _ _ _ _ _ _ us hl => match us, hl with | [_, _], _ => rfl) ?Y_m__mode_a ?Y_m__mode_l ?Y_m__mode_c ?Y_m__mode_k ?Y_m__mode_i; (case Y_m__mode_a => k_is); (case Y_m__mode_l => k_is); (case Y_m__mode_c => k_is); (case Y_m__mode_k => k_is); (case Y_m__mode_i => k_is)))
    (case m_getitem => (refine' W1.ixfun_mk (fun _ _ _ _ _ _ us hl => match us, hl with | [_, _], _ => rfl) ?Y_m_getitem_a ?Y_m_getitem_l ?Y_m_getitem_c ?Y_m_getitem_k ?Y_m_getitem_i ?Y_m_getitem_n; (case Y_m_getitem_a => k_is); (case Y_m_getitem_l => k_is); (case Y_m_getitem_c => k_is); (case Y_m_getitem_k => k_is); (case Y_m_getitem_i => k_is); (case Y_m_getitem_n => k_is)))
    (case m_with_rule => (refine' W1.over_mk (fun _ _ _ _ _ _ us hl => match us, hl with | [_, _, _], _ => rfl) ?Y_m_with_rule_a ?Y_m_with_rule_l ?Y_m_with_rule_c ?Y_m_with_rule_k ?Y_m_with_rule_i; (case Y_m_with_rule_a => k_is); (case Y_m_with_rule_l => k_is); (case Y_m_with_rule_c => k_is); (case Y_m_with_rule_k => k_is); (case Y_m_with_rule_i => k_is)))
    (case m_under => (refine' W1.over_mk (fun _ _ _ _ _ _ us hl => match us, hl with | [_, _], _ => rfl) ?Y_m_under_a ?Y_m_under_l ?Y_m_under_c ?Y_m_under_k ?Y_m_under_i; (case Y_m_under_a => k_is); (case Y_m_under_l => k_is); (case Y_m_under_c => k_is); (case Y_m_under_k => k_is); (case Y_m_under_i => k_is)))
    (case m_with_row => (refine' W1.over_mk (fun _ _ _ _ _ _ us hl => match us, hl with | [_, _, _, _, _, _], _ => rfl) ?Y_m_with_row_a ?Y_m_with_row_l ?Y_m_with_row_c ?Y_m_with_row_k ?Y_m_with_row_i; (case Y_m_with_row_a => k_is); (case Y_m_with_row_l => k_is); (case Y_m_with_row_c => k_is); (case Y_m_with_row_k => k_is); (case Y_m_with_row_i => k_is)))
    (case m__with_mode => (refine' W1.over_mk (fun _ _ _ _ _ _ us hl => match us, hl with | [_, _, _, _], _ => rfl) ?Y_m__with_mode_a ?Y_m__with_mode_l ?Y_m__with_mode_c ?Y_m__with_mode_k ?Y_m__with_mode_i; (case Y_m__with_mode_a => k_is); (case Y_m__with_mode_l => k_is); (case Y_m__with_mode_c => k_is); (case Y_m__with_mode_k => k_is); (case Y_m__with_mode_i => k_is)))
    (case m_eq => (refine' W1.mfun_mk (fun _ _ _ _ _ _ us hl => match us, hl with | [_, _], _ => rfl) ?Y_m_eq_a ?Y_m_eq_l ?Y_m_eq_c ?Y_m_eq_k ?Y_m_eq_i; (case Y_m_eq_a => k_is); (case Y_m_eq_l => k_is); (case Y_m_eq_c => k_is); (case Y_m_eq_k => k_is); (case Y_m_eq_i => k_is)))
    (case m__parts => (refine' W1.over_mk (fun _ _ _ _ _ _ us hl => match us, hl with | [_], _ => rfl) ?Y_m__parts_a ?Y_m__parts_l ?Y_m__parts_c ?Y_m__parts_k ?Y_m__parts_i; (case Y_m__parts_a => k_is); (case Y_m__parts_l => k_is); (case Y_m__parts_c => k_is); (case Y_m__parts_k => k_is); (case Y_m__parts_i => k_is)))
    (case chg => (refine' W1.chgfun_mk ?Y_chg_a ?Y_chg_l ?Y_chg_c ?Y_chg_k ?Y_chg_i ?Y_chg_d1 ?Y_chg_d2 ?Y_chg_d3; (case Y_chg_a => k_is); (case Y_chg_l => k_is); (case Y_chg_c => k_is); (case Y_chg_k => k_is); (case Y_chg_i => k_is); (case Y_chg_d1 => k_is); (case Y_chg_d2 => k_is); (case Y_chg_d3 => k_is)))
    (case aT => k_is)
    (case lT => k_is)
    (case cT => rfl)
    (case dT => rfl)
    (case sT => (show 5 ≤ sizeLine; decide))
    (case vT => exact .cons ⟨_, rfl⟩ (.cons ⟨_, rfl⟩ (.cons ⟨_, rfl⟩ (.cons ⟨_, rfl⟩ (.cons ⟨_, rfl⟩ .nil)))))
    (case gL => k_is)
    (case gS => k_is)
    (case z0 => k_is); (case z1 => k_is); (case z2 => k_is); (case z3 => k_is); (case z4 => k_is); (case z5 => k_is); (case z6 => k_is); (case z7 => k_is); (case z8 => k_is); (case z9 => k_is); (case z10 => k_is); (case z11 => k_is); (case z12 => k_is)
    (case aL => k_is); (case lL => k_is); (case cL => k_is); (case kL => k_is)
